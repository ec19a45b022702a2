/- The document's tally with its first reply: New; Repliers of one; All. -/
import Derived.Test.YtklnfbanfgdgcaaGreatDoorJnJ26
import Derived.Test.YtklnfbanfgdgcaaGreatDoorJnJ7
import Derived.Test.YtklnfbanfgdgcaaGreatDoorJnJ10
import Derived.Test.YtklnfbanfgdgcaaGreatDoorJnJ27
import Derived.Test.YtklnfbanfgdgcaaGreatDoorJnJ22
import Derived.Laws.EntriesVeiled
set_option maxHeartbeats 40000000
set_option maxRecDepth 100000
set_option linter.unusedVariables false
namespace Go.Proofs.YtklnfbanfgdgcaaGreatDoor
open Go.RowKit Go.Shelf Go.Lib

def inV (l : List Int) : List Value := l.map fun x => .int .i64 x
def rfC (n f ro : Int) (H S : Value) : Array Value := #[.int .i64 n, .int .i64 f, .int .i64 ro, H, S]
def z5 : Array Value := #[.int .i64 0, .int .i64 0, .int .i64 0, .slice none 0 0, .slice none 0 0]
theorem infoRf : (Tryz.prog.info? 55).map (·.size) = some 5 := by kernel_rfl
theorem undRf : Tryz.prog.underlying 55 = some (.struct ((match Tryz.prog.underlying 55 with | some (.struct f) => f | _ => #[]))) := by kernel_rfl
set_option maxHeartbeats 8000000 in
set_option maxRecDepth 100000 in
theorem rNew_ok (n f self ro : Int) (N : Nat) (hN : N < S128) (he : nwE n f self ro N = 0) (w : World) : Calls Tryz.prog 35 #[.int .i64 n, .int .i64 f, .int .i64 self, .int .i64 ro, sv N] w fun e w' => ∃ g1 g2, e = .returned (.tuple #[.agg (rfC n f ro (.slice (some ⟨g1, 0, none⟩) 1 1) (.slice (some ⟨g2, 0, none⟩) 1 1)), .int .i64 0]) ∧ w'.ownsRow w.heap.size 3 1 (.slice (some ⟨g1, 0, none⟩) 1 1) 1 (inV [self]) ∧ w'.ownsRow w.heap.size 51 4 (.slice (some ⟨g2, 0, none⟩) 1 1) 1 (fs [N]) ∧ Below w.heap.size w w' := by
  obtain ⟨h1, h2, h3, h4, h5, h6, h7, h8⟩ := nw_ok he
  obtain ⟨w1, hw1⟩ : ∃ w1, (w.alloc (.cells #[.int .u32 (wd N 0 : Nat), .int .u32 (wd N 1 : Nat), .int .u32 (wd N 2 : Nat), .int .u32 (wd N 3 : Nat)] 51)).alloc (.cells #[.int .i64 0, .int .i64 0, .int .i64 0, .slice none 0 0, .slice none 0 0] 55) = w1 := ⟨_, rfl⟩
  have hb1 : Below w.heap.size w w1 := by rw [← hw1]; exact bel2 (al1' _ _) (al1' _ _)
  have G1 : Hid (Holds4 w1 w.heap.size (wd N)) := by rw [← hw1]; exact old_at (new_at rfl)
  have R1 : Hid (w1.heap[w.heap.size + 1]? = some (.cells z5 55 (0, 0))) := by rw [← hw1]; exact new_at (by simp)
  obtain ⟨y0, y1, y2, y3, _⟩ := G1.out.facts
  have hwi := rWithin_any N hN n w1
  rw [h8] at hwi
  have c1 : ¬ n < 1 := by omega
  have c2 : ¬ 100 < n := by omega
  have c3 : ¬ f < 0 := by omega
  have c4 : ¬ n ≤ f := by omega
  have c5 : ¬ self < 0 := by simp [isN] at h5; omega
  have c6 : ¬ n ≤ self := by simp [isN] at h5; omega
  have c7 : ¬ ro < 1 := by omega
  have c8 : ¬ 1099511627775 < ro := by omega
  clear h8 h5 he h1 h2 h3 h4 h6 h7
  simp only [sv] at hwi ⊢
  go_enter Tryz.func35, Tryz.ntmps35
  go_wp2_with (first
    | (go_at_call 125; (with_reducible refine hwi.mono ?_); rintro e u ⟨rfl, hu⟩; have R2 : Hid (u.heap[w.heap.size + 1]? = some (.cells z5 55 (0, 0))) := (hu.block _ (lt_at R1.out)).trans R1.out; have hb2 : Hid (Below w.heap.size w u) := bel2 hb1 hu; obtain ⟨u1, hu1⟩ : ∃ u1, u.alloc (.cells #[.int .i64 self] 3) = u1 := ⟨_, rfl⟩; have G2 : Hid (Holds4 u1 w.heap.size (wd N)) := (by rw [← hu1]; exact old_at (G1.out.carry hu)); have hs1' : u1.heap.size = u.heap.size + 1 := (by rw [← hu1]; simp); have hs1 : Hid (u1.heap.size = u.heap.size + 1) := hs1'; clear hs1'; obtain ⟨x0, x1, x2, x3, _⟩ := G2.out.facts; obtain ⟨u2, hu2⟩ : ∃ u2, u1.alloc (.cells #[.int .u32 (wd N 0 : Nat), .int .u32 (wd N 1 : Nat), .int .u32 (wd N 2 : Nat), .int .u32 (wd N 3 : Nat)] 51) = u2 := ⟨_, rfl⟩; have R3 : Hid (u2.heap[w.heap.size + 1]? = some (.cells z5 55 (0, 0))) := (by rw [← hu2, ← hu1]; exact old_at (old_at R2.out)); have hb3 : Hid (Below w.heap.size w u2) := (by rw [← hu2, ← hu1]; exact bel2 (bel2 hb2.out (al1' _ _)) (al1' _ _)); have I2 : Hid (u2.ownsRow w.heap.size 3 1 (.slice (some ⟨u.heap.size, 0, none⟩) 1 1) 1 (inV [self])) := (by rw [← hu2, ← hu1]; exact row_below (World.ownsRow_lit (base := w.heap.size) (e := 3) (size := 1) u #[.int .i64 self] 1 hb2.out.size (by unfold maxLen; omega) (by simp)) (al1' _ _)); have S2 : Hid (u2.ownsRow w.heap.size 51 4 (.slice (some ⟨u1.heap.size, 0, none⟩) 1 1) 1 (fs [N])) := (by rw [← hu2]; exact World.ownsRow_lit (base := w.heap.size) (e := 51) (size := 4) u1 #[.int .u32 (wd N 0 : Nat), .int .u32 (wd N 1 : Nat), .int .u32 (wd N 2 : Nat), .int .u32 (wd N 3 : Nat)] 1 (by rw [hs1.out]; exact Nat.le_trans hb2.out.size (by omega)) (by unfold maxLen; omega) (by simp)))
    | (refine wpList_store_row rfl 55 (.tmp 10) (.tmp 55) rfl (w.heap.size + 1) (rfC n f ro (.slice (some ⟨u.heap.size, 0, none⟩) 1 1) (.slice (some ⟨u1.heap.size, 0, none⟩) 1 1)) rfl rfl 55 _ R3.out infoRf rfl (by simp [rfC, Value.oneCell']) ?_; obtain ⟨v, hv⟩ : ∃ v, u2.setRow (w.heap.size + 1) (rfC n f ro (.slice (some ⟨u.heap.size, 0, none⟩) 1 1) (.slice (some ⟨u1.heap.size, 0, none⟩) 1 1)) = v := ⟨_, rfl⟩; have RV : Hid (v.heap[w.heap.size + 1]? = some (.cells (rfC n f ro (.slice (some ⟨u.heap.size, 0, none⟩) 1 1) (.slice (some ⟨u1.heap.size, 0, none⟩) 1 1)) 55 (0, 0))) := (by rw [← hv]; exact setRow_heap _ _ _ _ _ _ R3.out); have HB : Hid (Below w.heap.size w v) := (by rw [← hv]; exact below_row hb3.out (by omega) _); have IV : Hid (v.ownsRow w.heap.size 3 1 (.slice (some ⟨u.heap.size, 0, none⟩) 1 1) 1 (inV [self])) := (by rw [← hv]; exact row_moved I2.out (fun b e => setRow_otherR (fun e2 => row_type I2.out R3.out (by decide) (by rw [← e2]; exact e)))); have SV : Hid (v.ownsRow w.heap.size 51 4 (.slice (some ⟨u1.heap.size, 0, none⟩) 1 1) 1 (fs [N])) := (by rw [← hv]; exact row_moved S2.out (fun b e => setRow_otherR (fun e2 => row_type S2.out R3.out (by decide) (by rw [← e2]; exact e)))); rw [hv]))
  exact retC2Z rfl rfl rfl rfl RV.out undRf infoRf ⟨u.heap.size, u1.heap.size, rfl, IV.out, SV.out, HB.out⟩
theorem wd0f : wd 0 = fun _ => 0 := by funext j; exact wd_zero j
set_option maxHeartbeats 1000000 in
set_option maxRecDepth 100000 in
theorem rAll_any (n : Int) (h0 : 0 ≤ n) (h1 : n ≤ 100) (w : World) : Calls Tryz.prog 32 #[.int .i64 n] w fun e w' => e = .returned (sv (fullN n.toNat)) ∧ Below w.heap.size w w' := by
  have hf := rFull_any n
  rw [show fullV n = .tuple #[sv (fullN n.toNat), .int .i64 0] from if_pos ⟨h0, h1⟩] at hf
  generalize fullN n.toNat = M at *
  obtain ⟨w1, hw1⟩ : ∃ w1, w.alloc (.cells #[.int .u32 0, .int .u32 0, .int .u32 0, .int .u32 0] 51) = w1 := ⟨_, rfl⟩
  have hb1 : Below w.heap.size w w1 := by rw [← hw1]; exact al1' _ _
  have g1 : Holds4 w1 w.heap.size (fun _ => 0) := by rw [← hw1]; exact new_at rfl
  simp only [sv] at hf ⊢
  go_enter Tryz.func32, Tryz.ntmps32
  go_wp2_with (first
    | (go_at_call 123; (with_reducible refine (hf _).mono ?_); rintro e u ⟨rfl, hb2⟩; obtain ⟨u3, hu3⟩ : ∃ u3, u.alloc (.cells #[.int .u32 0, .int .u32 0, .int .u32 0, .int .u32 0] 51) = u3 := ⟨_, rfl⟩; have k1 : Hid (Holds4 u3 u.heap.size (fun _ => 0)) := (by rw [← hu3]; exact new_at rfl); have k2 : Hid (Holds4 u3 w.heap.size (fun _ => 0)) := (by rw [← hu3]; exact old_at (g1.carry hb2)); have k3 : Hid (Below w.heap.size w u3) := (by rw [← hu3]; exact bel2 (bel2 hb1 hb2) (al1' _ _)); have k4 : w.heap.size < u.heap.size := Nat.lt_of_lt_of_le g1.lt hb2.size)
    | (refine wpList_store_row rfl 51 (.tmp 3) (.tmp 8) rfl u.heap.size (cells4 (wd M)) rfl rfl 51 _ k1.out infoS rfl (by simp [cells4, Value.oneCell']) ?_; obtain ⟨w4, hw4⟩ : ∃ v, u3.setRow u.heap.size (cells4 (wd M)) = v := ⟨_, rfl⟩; have j1 : Hid (Holds4 w4 u.heap.size (wd M)) := (by rw [← hw4]; exact setRow_heap _ _ _ _ _ _ k1.out); have j2 : Hid (Holds4 w4 w.heap.size (fun _ => 0)) := (by rw [← hw4]; exact hold_row k2.out (by omega) _); have j3 : Hid (Below w.heap.size w w4) := (by rw [← hw4]; exact below_row k3.out (by omega) _); rw [hw4])
    | (refine wpList_load_row rfl 51 (.tmp 3) rfl u.heap.size rfl 51 _ (0, 0) _ j1.out Tryz.underlying51 rfl infoS ?_)
    | (refine wpList_store_row rfl 51 (.tmp 2) (.tmp 10) rfl w.heap.size (cells4 (wd M)) rfl rfl 51 _ j2.out infoS rfl (by simp [cells4, Value.oneCell']) ?_; obtain ⟨w6, hw6⟩ : ∃ v, w4.setRow w.heap.size (cells4 (wd M)) = v := ⟨_, rfl⟩; have g6 : Hid (Holds4 w6 w.heap.size (wd M)) := (by rw [← hw6]; exact setRow_heap _ _ _ _ _ _ j2.out); have hb6 : Hid (Below w.heap.size w w6) := (by rw [← hw6]; exact below_row j3.out (Nat.le_refl _) _); rw [hw6]))

  exact ret4 rfl rfl rfl g6.out ⟨rfl, hb6.out⟩
theorem field_r3 (W : World) (q o : Nat) : (Instr.fieldAt 55 (.pointer (some ⟨q, o, none⟩)) 3).run Tryz.prog W = .ok (.pointer (some ⟨q, o + 3, none⟩)) W := by go_simp
theorem load_si {W : World} {B o n c : Nat} {a : Option Addr} (h : W.cell? ⟨B, o, none⟩ = some (.slice a n c)) : (Instr.loadAt 52 (.pointer (some ⟨B, o, none⟩))).run Tryz.prog W = .ok (.slice a n c) W := by go_simp
theorem idx_i (g off n cap k : Nat) (h : k < n) (w : World) : (Instr.indexAt 52 (.slice (some ⟨g, off, none⟩) n cap) (.int .i64 (k : Int))).run Tryz.prog w = .ok (.pointer (some ⟨g, off + k, none⟩)) w := by
  have h1 : (k : Int) < (n : Int) := by omega
  go_simp
set_option maxHeartbeats 4000000 in
set_option maxRecDepth 100000 in
/-- Repliers of a tally that has one reply, wherever it lies. -/
theorem rReps1 {w : World} {p o g c s : Nat} (hs : s < 100) (h3 : w.cell? ⟨p, o + 3, none⟩ = some (.slice (some ⟨g, 0, none⟩) 1 c)) (hp : p < w.heap.size) (hg : w.cell? ⟨g, 0, none⟩ = some (.int .i64 (s : Int))) (hgl : g < w.heap.size) : Calls Tryz.prog 128 #[.pointer (some ⟨p, o, none⟩)] w fun e w' => e = .returned (sv (2 ^ s)) ∧ Below w.heap.size w w' := by
  have hmx : Tryz.prog.follows .mixedOrders = true := by kernel_rfl
  obtain ⟨w1, hw1⟩ : ∃ w1, (w.alloc (.cells #[.int .u32 0, .int .u32 0, .int .u32 0, .int .u32 0] 51)).alloc (.cells #[.int .u32 0, .int .u32 0, .int .u32 0, .int .u32 0] 51) = w1 := ⟨_, rfl⟩
  have hb1 : Below w.heap.size w w1 := by rw [← hw1]; exact bel2 (al1' _ _) (al1' _ _)
  have g1 : Holds4 w1 w.heap.size (fun _ => 0) := by rw [← hw1]; exact old_at (new_at rfl)
  have g2 : Holds4 w1 (w.heap.size + 1) (wd 0) := by
    rw [← hw1, wd0f]
    exact new_at (by simp)
  have hc3 : ∀ V, Below w.heap.size w V → V.cell? ⟨p, o + 3, none⟩ = some (.slice (some ⟨g, 0, none⟩) 1 c) := fun V hV => (World.cell?_of_block (a := ⟨p, o + 3, none⟩) (hV.block _ hp)).trans h3
  have hcg : ∀ V, Below w.heap.size w V → V.cell? ⟨g, 0, none⟩ = some (.int .i64 (s : Int)) := fun V hV => (World.cell?_of_block (a := ⟨g, 0, none⟩) (hV.block _ hgl)).trans hg
  have hput : ∀ V : World, Calls Tryz.prog 190 #[sv 0, .int .i64 (s : Int)] V fun e w' => e = .returned (sv (2 ^ s)) ∧ Below V.heap.size V w' := fun V => by
    have := rPut_any 0 (by decide) s hs V
    rw [Nat.zero_or] at this
    exact this
  go_enter Tryz.func128, Tryz.ntmps128
  go_wp2
  go_loopw [4] (fun i wz => ∃ k : Nat, i = .int .i64 (k : Int) ∧ k ≤ 1 ∧ Holds4 wz w.heap.size (fun _ => 0) ∧ Holds4 wz (w.heap.size + 1) (wd (if k = 0 then 0 else 2 ^ s)) ∧ Below w.heap.size w wz) (fun i _ => 1 - vnat i)
  case atStart => exact ⟨0, rfl, by omega, g1, g2, hb1⟩
  case round =>
    obtain ⟨k, rfl, hk, h1, h2, hb⟩ := hrel
    have c3 := hc3 wr hb
    by_cases hkl : k = 0
    · subst hkl
      rw [if_pos rfl] at h2
      have hki : ((0 : Nat) : Int) < 1 := by decide
      go_wp2
      refine wp_region_any hmx ?_
      refine wpAny_last 9 (fun i__ => ([(sv 0), (.pointer (some ⟨p, o, none⟩)), (.pointer (some ⟨p, o, none⟩)), (.pointer (some ⟨p, o + 3, none⟩)), (.slice (some ⟨g, 0, none⟩) 1 c), (.int .i64 ((0 : Nat) : Int)), (.pointer (some ⟨g, 0 + 0, none⟩)), (.int .i64 (s : Int)), (sv (2 ^ s)), undef] : List Value).getD i__ undef) (fun V => Below wr.heap.size wr V) (fun V => Holds4 V w.heap.size (fun _ => 0) ∧ Holds4 V (w.heap.size + 1) (wd (2 ^ s)) ∧ Below w.heap.size w V) rfl (by kernel_rfl) (by kernel_rfl) (Below.refl _ _).drew ?_ ?_  ?_
      · refine (stepsFrom_cons ?_ (stepsFrom_cons ?_ (stepsFrom_cons ?_ (stepsFrom_cons ?_ (stepsFrom_cons ?_ (stepsFrom_cons ?_ (stepsFrom_cons ?_ (stepsFrom_cons ?_ (stepsFrom_cons ?_ trivial)))))))))
        · exact step_load rfl trivial _ _ _ rfl rfl (fun v hw => whole4 v _ 0 (h2.carry hw))
        · exact step_move rfl trivial _ rfl (by kernel_rfl)
        · exact step_nilCheck rfl trivial _ _ _ rfl rfl rfl
        · exact step_fieldAddr rfl trivial _ _ _ _ rfl rfl (fun v hw => field_r3 v _ _)
        · exact step_load rfl trivial _ _ _ rfl rfl (fun v hw => load_si (hc3 v (bel2 hb hw)))
        · exact step_move rfl trivial _ rfl (by kernel_rfl)
        · exact step_indexAddr rfl trivial _ _ _ _ _ rfl rfl rfl (fun v hw => idx_i g 0 _ _ 0 (by decide) v)
        · exact step_load rfl trivial _ _ _ rfl rfl (fun v hw => load_i64 (hcg v (bel2 hb hw)))
        · exact step_call rfl trivial 190 _ _ [(sv 0), (.int .i64 (s : Int))] rfl (by kernel_rfl) (enters_of Tryz.func190 (by kernel_rfl) rfl) (fun v hw => (hput v).mono (by rintro e w2 ⟨rfl, hb2⟩; exact ⟨rfl, bel2 hw hb2⟩))
      · intro o ho
        cases ho
        exact step_store rfl trivial rfl _ _ _ _ _ rfl rfl rfl (fun v hw => ⟨set4 v (w.heap.size + 1) (2 ^ s), store_s (h2.carry hw) _, (hold4 (by omega)).trans (h1.carry hw), fin4 (h2.carry hw) _, below4 (bel2 hb hw) (by omega) _⟩)
      intro W hW
      first | refine hK _ _ ?_ | refine (‹∀ (a : Act) (w : World), Code.wp Tryz.prog _ _ a w → _›) _ _ ?_ | skip
      simp only [finL, List.getD_cons_zero, List.getD_cons_succ, Nat.zero_add, Nat.reduceAdd, List.setIfInBounds_toArray, List.set_cons_zero, List.set_cons_succ]
      obtain ⟨hW1, hW2, hW3⟩ := hW
      go_wp2
      go_roundw
      case rel => exact ⟨1, by simp, by omega, hW1, by rw [if_neg (by decide)]; exact hW2, hW3⟩
      case measure => simp [vnat]
    · obtain rfl : k = 1 := by omega
      rw [if_neg hkl] at h2
      have hki : ¬ (((1 : Nat) : Int) < 1) := by decide
      obtain ⟨y0, y1, y2, y3, z0, z1, z2, z3⟩ := h1.facts
      obtain ⟨x0, x1, x2, x3, _⟩ := h2.facts
      have H1 : Hid (Holds4 wr w.heap.size (fun _ => 0)) := h1
      clear h1 h2
      go_wp2
      exact ret4 rfl rfl rfl (fin4 H1.out _) ⟨rfl, below4 hb (Nat.le_refl _) _⟩

theorem filter_all (l : List N3) : l.filter pAll = l := List.filter_eq_self.2 (fun _ _ => rfl)
attribute [local go_sem] Oper.semAt_some

end Go.Proofs.YtklnfbanfgdgcaaGreatDoor
namespace Go.Proofs.YtklnfbanfgdgcaaGreatDoor
open Go.RowKit Go.Shelf Go.Lib
attribute [local go_sem] Oper.semAt_some

end Go.Proofs.YtklnfbanfgdgcaaGreatDoor
