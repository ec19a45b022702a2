/- disk's Read, Twin, Of; the statements' sector; earshotbook.SameBytes where they are alike; the statements' alive. -/
import Derived.Test.YtlpmehmoeladjaaGreatDoorJnJ12
namespace Go.Proofs.YtlpmehmoeladjaaGreatDoor
open Go.RowKit Go.Shelf

section
variable {W : World} {p : Nat} {d : Dst}
set_option maxHeartbeats 1000000 in
theorem read_off (h : Dk W p d) (s : Int) (ho : d.off = true) : Calls Tryz.prog 89 #[.pointer (some ⟨p, 0, none⟩), .int .i64 s] W fun e w' => e = .returned (.tuple #[.slice none 0 0, .int .i64 100]) ∧ w' = W := by
  have hon := on_any h
  rw [ho] at hon
  go_enter Tryz.func89, Tryz.ntmps89
  go_wp2_with (go_at_call 71; (with_reducible refine hon.mono ?_); rintro e u1 ⟨rfl, rfl⟩)
  go_ret2
  exact ⟨rfl, rfl⟩
set_option maxHeartbeats 1000000 in
theorem read_sec (h : Dk W p d) (s : Int) (ho : d.off = false) (hs : ¬ (0 ≤ s ∧ s < 8)) : Calls Tryz.prog 89 #[.pointer (some ⟨p, 0, none⟩), .int .i64 s] W fun e w' => e = .returned (.tuple #[.slice none 0 0, .int .i64 101]) ∧ w' = W := by
  have hon := on_any h
  rw [ho] at hon
  have hth := there_any s W
  rw [decide_eq_false hs] at hth
  go_enter Tryz.func89, Tryz.ntmps89
  go_wp2_with (first | (go_at_call 71; (with_reducible refine hon.mono ?_); rintro e u1 ⟨rfl, rfl⟩) | (go_at_call 97; (with_reducible refine hth.mono ?_); rintro e u1 ⟨rfl, rfl⟩))
  go_ret2
  exact ⟨rfl, rfl⟩
/-- A sector's bytes. -/
def secs (l : List Nat) (k : Nat) : List Nat := (l.drop (32 * k)).take 32
theorem secs_len {l : List Nat} (h : l.length = 256) {k : Nat} (hk : k < 8) : (secs l k).length = 32 := by rw [secs, List.length_take, List.length_drop, h]; omega
set_option maxHeartbeats 1000000 in
theorem read_ok (h : Dk W p d) (k : Nat) (ho : d.off = false) (hk : k < 8) : Calls Tryz.prog 89 #[.pointer (some ⟨p, 0, none⟩), .int .i64 (k : Int)] W fun e w' => ∃ g c, e = .returned (.tuple #[.slice (some ⟨g, 32 * k, none⟩) 32 32, .int .i64 0]) ∧ w'.ownsRow W.heap.size 5 1 (.slice (some ⟨g, 0, none⟩) 256 c) 256 (cB d.l) ∧ RdY w' (some ⟨g, 32 * k, none⟩) (secs d.l k) ∧ Below W.heap.size W w' := by
  have hon := on_any h
  rw [ho] at hon
  have hth := there_any (k : Int) W
  rw [decide_eq_true (show 0 ≤ (k : Int) ∧ (k : Int) < 8 by omega)] at hth
  have him := image_any h
  have hl := h.len
  have HL : Hid (d.l.length = 256) := hl
  clear hl
  go_enter Tryz.func89, Tryz.ntmps89
  go_wp2_with (first | (go_at_call 71; (with_reducible refine hon.mono ?_); rintro e u1 ⟨rfl, rfl⟩) | (go_at_call 97; (with_reducible refine hth.mono ?_); rintro e u1 ⟨rfl, rfl⟩) | (go_at_call 23; (with_reducible refine him.mono ?_); rintro e u2 ⟨g, c, rfl, ho2, hb2⟩; have hc2 := own_cap ho2; have hpa := part_any g 0 c k u2 hk hc2; rw [Nat.zero_add] at hpa) | (go_at_call 98; (with_reducible refine hpa.mono ?_); rintro e u3 ⟨rfl, rfl⟩))
  go_ret2
  refine ⟨g, c, rfl, ho2, fun _ => ⟨g, 32 * k, rfl, ?_, ?_⟩, hb2⟩
  · rcases own_formZ ho2 with ⟨_, e2⟩ | ⟨g', c', e1, _, _, _, _, h5⟩
    · cases e2
    · cases e1
      exact h5
  · have := (b_own ho2 HL.out.symm).sub (32 * k) 32
    rw [Nat.zero_add] at this
    exact this
end
end Go.Proofs.YtlpmehmoeladjaaGreatDoor
namespace Go.Proofs.YtlpmehmoeladjaaGreatDoor
open Go.RowKit Go.Shelf

/-- The k-th byte of the sector of v. -/
def sb (v : Int) (k : Nat) : Nat := ((v + 7 * (k : Int)) % 256).toNat
def secB (v : Int) : List Nat := (List.range 32).map (sb v)
theorem sb_lt (v : Int) (k : Nat) : sb v k < 256 := by unfold sb; omega
theorem secB_len (v : Int) : (secB v).length = 32 := by simp [secB]
theorem secB_byt (v : Int) : Byt (secB v) := by
  intro x hx
  obtain ⟨k, _, rfl⟩ := List.mem_map.1 hx
  exact sb_lt v k
/-- So far. -/
def secK (v : Int) (k : Nat) : List Nat := (List.range 32).map fun i => if i < k then sb v i else 0
theorem secK_0 (v : Int) : secK v 0 = List.replicate 32 0 := by
  apply List.ext_getElem?
  intro i
  simp only [secK, List.getElem?_map, List.getElem?_replicate]
  by_cases h : i < 32
  · simp [h]
  · simp [h]
theorem secK_32 (v : Int) : secK v 32 = secB v := by
  unfold secK secB
  refine List.map_congr_left fun i hi => ?_
  rw [if_pos (List.mem_range.1 hi)]
theorem secK_len (v : Int) (k : Nat) : (secK v k).length = 32 := by simp [secK]
theorem secK_step (v : Int) (k : Nat) (hk : k < 32) : (secK v k).set k (sb v k) = secK v (k + 1) := by
  apply List.ext_getElem?
  intro i
  by_cases e : k = i
  · subst e
    rw [List.getElem?_set_self (by rw [secK_len]; exact hk)]
    simp [secK, hk]
  · rw [List.getElem?_set_ne e]
    simp only [secK, List.getElem?_map]
    by_cases h : i < 32
    · rw [List.getElem?_range h]
      simp only [Option.map_some]
      by_cases h2 : i < k
      · rw [if_pos h2, if_pos (by omega)]
      · rw [if_neg h2, if_neg (by omega)]
    · rw [List.getElem?_eq_none (by simp; omega)]
      rfl
theorem sb_eq (v : Int) (k : Nat) : wrap64 (v + 7 * (k : Int)) % 256 = ((sb v k : Nat) : Int) := by
  unfold sb wrap64
  omega
def zS : Array Value := (cB (List.replicate 32 0)).toArray
theorem mk32 (w : World) : (Instr.makeSlice 26 (.int .i64 32) (.int .i64 32)).run Tryz.prog w = .ok (.slice (some ⟨w.heap.size, 0, none⟩) 32 32) (w.alloc (.cells zS 5)) := by kernel_rfl
/-- A row of 32 bytes in a block of its own. -/
structure Sc (W : World) (g : Nat) (x : List Nat) : Prop where
  obj : W.heap[g]? = some (.cells (cB x).toArray 5 (0, 0))
  len : x.length = 32
  byt : Byt x
theorem Sc.rd {W : World} {g : Nat} {x : List Nat} (h : Sc W g x) : RdY W (some ⟨g, 0, none⟩) x := fun _ => ⟨g, 0, rfl, ⟨_, h.obj⟩, fun k y hy => by rw [Nat.zero_add, cell_at h.obj, List.getElem?_toArray]; exact cB_get hy⟩
theorem Sc.set {W : World} {g : Nat} {x : List Nat} (h : Sc W g x) (k y : Nat) (hy : y < 256) : Sc (W.setCell ⟨g, k, none⟩ (.int .u8 (y : Int))) g (x.set k y) := by
  refine ⟨(heap_setCell_same W g k _ _ _ h.obj).trans ?_, by rw [List.length_set]; exact h.len, ?_⟩
  · rw [List.setIfInBounds_toArray]
    simp [cB, List.map_set]
  · intro z hz
    rcases List.mem_or_eq_of_mem_set hz with q | q
    · exact h.byt z q
    · rw [q]; exact hy
theorem sc_new (w : World) : Sc (w.alloc (.cells zS 5)) w.heap.size (List.replicate 32 0) := ⟨new_at rfl, by simp, byt_zero 32⟩
theorem Sc.carry {W W' : World} {g : Nat} {x : List Nat} (h : Sc W g x) (hb : Below W.heap.size W W') : Sc W' g x := ⟨(hb.block _ (lt_at h.obj)).trans h.obj, h.len, h.byt⟩
theorem load_u8 {V : World} {B j : Nat} {x : Int} (h : V.cell? ⟨B, j, none⟩ = some (.int .u8 x)) : (Instr.loadAt 5 (.pointer (some ⟨B, j, none⟩))).run Tryz.prog V = .ok (.int .u8 x) V := by go_simp
theorem un_notZ (b : Bool) (W : World) : (Op.unary .not (.bool b)).run Tryz.prog W = .ok (.bool (!b)) W := by go_simp
theorem idx_bz (g off n cap k : Nat) (h : k < n) (w : World) : (Instr.indexAt 26 (.slice (some ⟨g, off, none⟩) n cap) (.int .i64 (k : Int))).run Tryz.prog w = .ok (.pointer (some ⟨g, off + k, none⟩)) w := by
  have h1 : (k : Int) < (n : Int) := by omega
  go_simp
set_option maxHeartbeats 1000000 in
set_option maxRecDepth 100000 in
theorem sameB_yes (ad ad' : Option Addr) (cap cap' : Nat) (l : List Nat) (w : World) (h : RdB w ad l) (h' : RdB w ad' l) (hl : l.length ≤ 4611686018427387904) : Calls Tryz.prog 22 #[.slice ad l.length cap, .slice ad' l.length cap'] w fun e w' => e = .returned (.bool true) ∧ Below w.heap.size w w' := by
  have hmx : Tryz.prog.follows .mixedOrders = true := by kernel_rfl
  go_enter Tryz.func22, Tryz.ntmps22
  go_wp2
  go_loopw [5] (fun c wz => ∃ k : Nat, c = .int .i64 k ∧ k ≤ l.length ∧ Below w.heap.size w wz) (fun c _ => l.length - vnatZ c)
  case atStart => exact ⟨0, rfl, Nat.zero_le _, Below.refl _ _⟩
  case round =>
    obtain ⟨k, rfl, hk, hbw⟩ := hrel
    by_cases hkl : k < l.length
    · have hki : (k : Int) < (l.length : Int) := by omega
      have hne : l ≠ [] := fun e => by subst e; simp at hkl
      obtain ⟨g, off, rfl, hgl, hat⟩ := h hne
      obtain ⟨g', off', rfl, hgl', hat'⟩ := h' hne
      obtain ⟨x, hx⟩ : ∃ x, l[k]? = some x := ⟨_, List.getElem?_eq_getElem hkl⟩
      have c0 := hat k x hx
      have c0' := hat' k x hx
      go_wp2
      refine wp_region_any hmx ?_
      refine wpAny_pure (fun i__ => ([(.slice (some ⟨g, off, none⟩) l.length cap), (.int .i64 (k : Int)), (.pointer (some ⟨g, off + k, none⟩)), (.int .u8 (x : Int)), (.slice (some ⟨g', off', none⟩) l.length cap'), (.int .i64 (k : Int)), (.pointer (some ⟨g', off' + k, none⟩)), (.int .u8 (x : Int)), (.bool true), (.bool false)] : List Value).getD i__ undef) (fun W => Below w.heap.size w W) (by kernel_rfl) hbw.drew ?_ ?_
      · refine (stepsFrom_cons ?_ (stepsFrom_cons ?_ (stepsFrom_cons ?_ (stepsFrom_cons ?_ (stepsFrom_cons ?_ (stepsFrom_cons ?_ (stepsFrom_cons ?_ (stepsFrom_cons ?_ (stepsFrom_cons ?_ (stepsFrom_cons ?_ trivial))))))))))
        · exact step_move rfl trivial _ rfl (by kernel_rfl)
        · exact step_move rfl trivial _ rfl (by kernel_rfl)
        · exact step_indexAddr rfl trivial _ _ _ _ _ rfl rfl rfl (fun w hw => idx_bz g off _ _ k hkl w)
        · exact step_load rfl trivial _ _ _ rfl rfl (fun w hw => load_u8 ((hw.cell (p := ⟨g, off + k, none⟩) hgl).trans c0))
        · exact step_move rfl trivial _ rfl (by kernel_rfl)
        · exact step_move rfl trivial _ rfl (by kernel_rfl)
        · exact step_indexAddr rfl trivial _ _ _ _ _ rfl rfl rfl (fun w hw => idx_bz g' off' _ _ k hkl w)
        · exact step_load rfl trivial _ _ _ rfl rfl (fun w hw => load_u8 ((hw.cell (p := ⟨g', off' + k, none⟩) hgl').trans c0'))
        · exact step_binOp rfl trivial _ _ _ _ _ _ _ rfl rfl rfl (fun w hw => (bin_eql .u8 _ _).trans (by simp))
        · exact step_unOp rfl trivial _ _ _ _ rfl rfl (fun w hw => un_notZ true w)
      intro W hW
      first | refine hK _ _ ?_ | refine (‹∀ (a : Act) (w : World), Code.wp Tryz.prog _ _ a w → _›) _ _ ?_
      simp only [finL, List.getD_cons_zero, List.getD_cons_succ, Nat.zero_add, Nat.reduceAdd, List.setIfInBounds_toArray, List.set_cons_zero, List.set_cons_succ]
      go_wp2
      go_roundw
      case rel => exact ⟨k + 1, by simp, by omega, hW⟩
      case measure => simp [vnatZ]; omega
    · have hkk : k = l.length := by omega
      subst hkk
      have hki : ¬ ((l.length : Int) < (l.length : Int)) := by omega
      go_wp2
      go_ret
      exact ⟨rfl, hbw⟩
theorem secs_put {l x : List Nat} {s : Nat} (h : l.length = 256) (hx : x.length = 32) (hs : s < 8) : secs (putS l s x) s = x := by
  have e : (l.take (32 * s)).length = 32 * s := by rw [List.length_take, h]; omega
  rw [secs, putS, splice, List.drop_append_of_le_length (by omega), List.drop_of_length_le (Nat.le_of_eq e), List.nil_append, List.take_append_of_le_length (by omega), List.take_of_length_le (by omega)]
theorem secs_put_ne {l x : List Nat} {s t : Nat} (h : l.length = 256) (hx : x.length = 32) (hs : s < 8) (hn : t ≠ s) : secs (putS l s x) t = secs l t := by
  apply List.ext_getElem?
  intro i
  simp only [secs, putS, splice, List.getElem?_take, List.getElem?_drop, List.getElem?_append, List.length_take, h, hx]
  by_cases hi : i < 32
  · simp only [if_pos hi]
    by_cases h1 : t < s
    · rw [if_pos (by omega), if_pos (by omega)]
    · rw [if_neg (by omega), if_neg (by omega)]
      congr 1
      omega
  · rw [if_neg hi, if_neg hi]
def x5 : List Nat := (List.replicate 32 0).set 5 9
def dA : Dst := { d0 with l := putS d0.l 1 x5, writes := 1 }
theorem alive_w : dWr d0 1 x5 = (0, dA) := rfl
theorem d0_len : d0.l.length = 256 := List.length_replicate ..
theorem secs_A : secs dA.l 1 = x5 := secs_put d0_len rfl (by decide)
end Go.Proofs.YtlpmehmoeladjaaGreatDoor
namespace Go.Proofs.YtlpmehmoeladjaaGreatDoor
open Go.RowKit Go.Shelf

theorem put_take (I Z : List Nat) (k : Nat) (hI : I.length = 256) (hk : k < 8) : putS (I.take (32 * k) ++ Z.drop (32 * k)) k (secs I k) = I.take (32 * (k + 1)) ++ Z.drop (32 * (k + 1)) := by
  have e1 : (I.take (32 * k)).length = 32 * k := by rw [List.length_take, hI]; omega
  have e2 := secs_len hI hk
  rw [putS, splice, List.take_append_of_le_length (by omega), List.take_of_length_le (by omega), e2, List.drop_append, List.drop_of_length_le (by omega), List.nil_append, e1, List.drop_drop, show 32 * k + (32 * k + 32 - 32 * k) = 32 * (k + 1) by omega, ← List.append_assoc, ← take_step]
  rfl
theorem secs_byt {l : List Nat} (h : Byt l) (k : Nat) : Byt (secs l k) := fun x hx => h x (List.mem_of_mem_drop (List.mem_of_mem_take hx))
end Go.Proofs.YtlpmehmoeladjaaGreatDoor
