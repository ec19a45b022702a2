/- bag's kept, Len, Room, refuse, round, bytes.Clone, slices.Clone and told: what they answer. -/
import Derived.Test.YtjfbnikbmadgkaaGreatProg
import Derived.Test.YtjfbnikbmadgkaaGreatBga
import Derived.Test.YtjfbnikbmadgkaaGreatBin
import Derived.Shelf.Abstract
import Derived.Shelf.RegionOpen
import Derived.WalkKit
import Derived.WalkSpells
import Derived.OwnWalkIn
import Derived.TacticsInMore
import Derived.LoopNIn
import Derived.LoopIn
import Derived.Lib.OthersKept
import Derived.Deep.Light
namespace Go.Proofs.YtjfbnikbmadgkaaGreat
open Go.RowKit Go.Shelf

section
variable {W : World} {base p : Nat} {ad : Option Addr} {cap : Nat} {room last : Int} {ps : List Nat} {l : List Gr}
theorem Bg.c0 {σ : Nat → Prop} (h : Bg σ W base p ad cap room last ps l) : W.cell? ⟨p, 0, none⟩ = some (.int .i64 room) := cell_at h.obj 0
theorem Bg.c1 {σ : Nat → Prop} (h : Bg σ W base p ad cap room last ps l) : W.cell? ⟨p, 1, none⟩ = some (.int .i64 last) := cell_at h.obj 1
theorem Bg.c2 {σ : Nat → Prop} (h : Bg σ W base p ad cap room last ps l) : W.cell? ⟨p, 2, none⟩ = some (.slice ad ps.length cap) := cell_at h.obj 2
set_option maxHeartbeats 1000000 in
theorem kept_any {σ : Nat → Prop} (h : Bg σ W base p ad cap room last ps l) : Calls Tryz.prog 91 #[.pointer (some ⟨p, 0, none⟩)] W fun e w' => e = .returned (.slice ad ps.length cap) ∧ w' = W := by
  have c2 := h.c2
  go_enter Tryz.func91, Tryz.ntmps91
  go_wp2
  go_ret
  exact ⟨rfl, rfl⟩
set_option maxHeartbeats 1000000 in
theorem blen_any {σ : Nat → Prop} (h : Bg σ W base p ad cap room last ps l) : Calls Tryz.prog 30 #[.pointer (some ⟨p, 0, none⟩)] W fun e w' => e = .returned (.int .i64 (l.length : Int)) ∧ w' = W := by
  have hk := kept_any h
  have hn := h.len
  go_enter Tryz.func30, Tryz.ntmps30
  go_wp2_with (go_at_call 91; (with_reducible refine hk.mono ?_); rintro e u1 ⟨rfl, rfl⟩)
  go_ret
  exact ⟨rfl, rfl⟩
theorem field_b0 (W : World) (B : Nat) : (Instr.fieldAt 54 (.pointer (some ⟨B, 0, none⟩)) 0).run Tryz.prog W = .ok (.pointer (some ⟨B, 0, none⟩)) W := by go_simp
theorem field_b1 (W : World) (B : Nat) : (Instr.fieldAt 54 (.pointer (some ⟨B, 0, none⟩)) 1).run Tryz.prog W = .ok (.pointer (some ⟨B, 1, none⟩)) W := by go_simp
theorem field_b2 (W : World) (B : Nat) : (Instr.fieldAt 54 (.pointer (some ⟨B, 0, none⟩)) 2).run Tryz.prog W = .ok (.pointer (some ⟨B, 2, none⟩)) W := by go_simp
theorem load_i {V : World} {B j : Nat} {x : Int} (h : V.cell? ⟨B, j, none⟩ = some (.int .i64 x)) : (Instr.loadAt 3 (.pointer (some ⟨B, j, none⟩))).run Tryz.prog V = .ok (.int .i64 x) V := by go_simp
theorem load_ps {V : World} {B j : Nat} {a : Option Addr} {n c : Nat} (h : V.cell? ⟨B, j, none⟩ = some (.slice a n c)) : (Instr.loadAt 52 (.pointer (some ⟨B, j, none⟩))).run Tryz.prog V = .ok (.slice a n c) V := by go_simp
theorem i64_id (x : Int) (h1 : -9223372036854775808 ≤ x) (h2 : x ≤ 9223372036854775807) : IntKind.i64.wrap x = x := by
  rw [IntKind.wrap_i64]
  omega
set_option maxHeartbeats 1000000 in
set_option maxRecDepth 100000 in
theorem broom_any {σ : Nat → Prop} (h : Bg σ W base p ad cap room last ps l) : Calls Tryz.prog 12 #[.pointer (some ⟨p, 0, none⟩)] W fun e w' => e = .returned (.int .i64 (room - (l.length : Int))) ∧ Below W.heap.size W w' := by
  have hmx : Tryz.prog.follows .mixedOrders = true := by kernel_rfl
  have h1 := h.le
  have h2 := h.most
  go_enter Tryz.func12, Tryz.ntmps12
  go_wp2
  rename_i Q0 K0 hK
  refine wp_region_any hmx ?_
  refine wpAny_pure (fun i__ => ([(.pointer (some ⟨p, 0, none⟩)), (.pointer (some ⟨p, 0, none⟩)), (.pointer (some ⟨p, 0, none⟩)), (.int .i64 room), (.pointer (some ⟨p, 0, none⟩)), (.int .i64 (l.length : Int)), (.int .i64 (room - (l.length : Int))), (.int .i64 (room - (l.length : Int)))] : List Value).getD i__ undef) (fun V => Bg σ V base p ad cap room last ps l ∧ Below W.heap.size W V) (by kernel_rfl) ⟨h.carry (Below.refl _ _).drew, (Below.refl _ _).drew⟩ ?_ ?_
  · refine (stepsFrom_cons ?_ (stepsFrom_cons ?_ (stepsFrom_cons ?_ (stepsFrom_cons ?_ (stepsFrom_cons ?_ (stepsFrom_cons ?_ (stepsFrom_cons ?_ (stepsFrom_cons ?_ trivial))))))))
    · exact step_move rfl trivial _ rfl (by kernel_rfl)
    · exact step_nilCheck rfl trivial _ _ _ rfl rfl rfl
    · exact step_fieldAddr rfl trivial _ _ _ _ rfl rfl (fun w hw => field_b0 w _)
    · exact step_load rfl trivial _ _ _ rfl rfl (fun w hw => load_i hw.1.c0)
    · exact step_move rfl trivial _ rfl (by kernel_rfl)
    · exact step_call rfl trivial 30 _ _ [(.pointer (some ⟨p, 0, none⟩))] rfl (by kernel_rfl) (enters_of Tryz.func30 (by kernel_rfl) rfl) (fun w hw => (blen_any hw.1).mono (by rintro e w' ⟨rfl, rfl⟩; exact ⟨rfl, hw⟩))
    · exact step_binOp rfl trivial _ _ _ _ _ _ _ rfl rfl rfl (fun w hw => bin_sub64 _ _ _ (i64_id _ (by omega) (by omega)))
    · exact step_assign rfl trivial _ rfl (by kernel_rfl) (fun _ h => h)
  intro W hW
  first | refine hK _ _ ?_ | refine (‹∀ (a : Act) (w : World), Code.wp Tryz.prog _ _ a w → _›) _ _ ?_ | skip
  simp only [finL, List.getD_cons_zero, List.getD_cons_succ, Nat.zero_add, Nat.reduceAdd, List.setIfInBounds_toArray, List.set_cons_zero, List.set_cons_succ]
  clear hK
  go_wp2
  go_ret
  exact ⟨rfl, hW.2⟩
end
def vnat (v : Value) : Nat := match v with | .int _ n => n.toNat | _ => 0
/-- What refuse says of places. -/
def rfs (n : Int) : List Int → Int
  | [] => 0
  | i :: r => if i < 0 ∨ n ≤ i then 91 else rfs n r
theorem rfs_bad {n i : Int} (r : List Int) (h : i < 0 ∨ n ≤ i) : rfs n (i :: r) = 91 := if_pos h
theorem rfs_ok {n i : Int} (r : List Int) (h : ¬ (i < 0 ∨ n ≤ i)) : rfs n (i :: r) = rfs n r := if_neg h
section
variable {W : World} {base p : Nat} {ad : Option Addr} {cap : Nat} {room last : Int} {ps : List Nat} {l : List Gr}
set_option maxHeartbeats 1000000 in
set_option maxRecDepth 100000 in
theorem refuse_any {σ : Nat → Prop} (h : Bg σ W base p ad cap room last ps l) (b : Nat) (is : List Int) (c : Nat) (hb : ∀ (k : Nat) (i : Int), is[k]? = some i → W.cell? ⟨b, k, none⟩ = some (.int .i64 i)) (hs : is.length ≤ 2) : Calls Tryz.prog 80 #[.pointer (some ⟨p, 0, none⟩), .slice (some ⟨b, 0, none⟩) is.length c] W fun e w' => e = .returned (.int .i64 (rfs (l.length : Int) is)) ∧ w' = W := by
  have hl := blen_any h
  obtain ⟨R, hR⟩ : ∃ R, rfs (l.length : Int) is = R := ⟨_, rfl⟩
  rw [hR]
  have HR : Hid (rfs (l.length : Int) (is.drop 0) = R) := hR
  clear hR
  obtain ⟨n, hn⟩ : ∃ n : Nat, n = is.length := ⟨_, rfl⟩
  have HN : Hid (n = is.length) := hn
  rw [← hn] at hs ⊢
  clear hn
  go_enter Tryz.func80, Tryz.ntmps80
  go_wp2
  go_loopw [11] (fun i wz => ∃ k : Nat, i = .int .i64 k ∧ k ≤ n ∧ Hid (rfs (l.length : Int) (is.drop k) = R) ∧ wz = W) (fun i _ => n - vnat i)
  case atStart => exact ⟨0, rfl, Nat.zero_le _, HR, rfl⟩
  case round =>
    obtain ⟨k, rfl, hk, hd, rfl⟩ := hrel
    by_cases hkn : k < n
    · have hki : (k : Int) < (n : Int) := by omega
      obtain ⟨i, hi⟩ : ∃ i, is[k]? = some i := ⟨_, List.getElem?_eq_getElem (by rw [← HN.out]; exact hkn)⟩
      have c0 := hb k i hi
      have hdr : is.drop k = i :: is.drop (k + 1) := by
        obtain ⟨h1, rfl⟩ := List.getElem?_eq_some_iff.1 hi
        exact List.drop_eq_getElem_cons h1
      have hd1 := hd.out
      rw [hdr] at hd1
      by_cases hbad : i < 0 ∨ (l.length : Int) ≤ i
      · rw [rfs_bad _ hbad] at hd1
        subst hd1
        clear hb hdr hi hd
        by_cases h0 : i < 0
        · clear hbad
          go_wp2
          go_ret
          exact ⟨rfl, rfl⟩
        · have h1 : (l.length : Int) ≤ i := by omega
          have h2 : decide (i < 0) = false := by simpa using h0
          clear hbad
          go_wp2_with (go_at_call 30; (with_reducible refine hl.mono ?_); rintro e u1 ⟨rfl, rfl⟩)
          go_ret
          exact ⟨rfl, rfl⟩
      · rw [rfs_ok _ hbad] at hd1
        have HD : Hid (rfs (l.length : Int) (is.drop (k + 1)) = R) := hd1
        have h0 : ¬ i < 0 := by omega
        have h1 : ¬ ((l.length : Int) ≤ i) := by omega
        clear hb hdr hi hd hd1 hbad
        go_wp2_with (go_at_call 30; (with_reducible refine hl.mono ?_); rintro e u1 ⟨rfl, rfl⟩)
        go_roundw
        case rel => exact ⟨k + 1, by simp, by omega, HD, trivial⟩
        case measure => simp [vnat]; omega
    · have hkk : k = n := by omega
      subst hkk
      have e : rfs (l.length : Int) (is.drop k) = 0 := by rw [List.drop_of_length_le (by rw [HN.out]; exact Nat.le_refl _)]; rfl
      have e2 : R = 0 := hd.out.symm.trans e
      subst e2
      clear hb e hd
      go_wp2
      go_ret
      exact ⟨rfl, rfl⟩
end
theorem bs0B (W : World) : (Instr.buildSlice 55 0 #[]).run Tryz.prog W = .ok (.slice (some ⟨W.heap.size, 0, none⟩) 0 0) (W.alloc (.cells #[] 5)) := by go_simp
theorem nilB_no (a : Addr) (n c : Nat) (w : World) : (binOp .eql 55 (.slice (some a) n c) (.slice none 0 0)).run Tryz.prog w = .ok (.bool false) w := by kernel_rfl
theorem nilB_yes (n c : Nat) (w : World) : (binOp .eql 55 (.slice none n c) (.slice none 0 0)).run Tryz.prog w = .ok (.bool true) w := by kernel_rfl
theorem infoB : (Tryz.prog.info? 5).map (fun i => (i.zero, i.size, i.bytes)) = some (some (.int .u8 0), 1, 1) := by kernel_rfl
theorem infoP : (Tryz.prog.info? 104).map (fun i => (i.zero, i.size, i.bytes)) = some (some (.pointer none), 1, 8) := by kernel_rfl
theorem info_parts {t : TypeId} {z : Option Value} {s b : Nat} (h : (Tryz.prog.info? t).map (fun i => (i.zero, i.size, i.bytes)) = some (z, s, b)) : ∃ i, Tryz.prog.info? t = some i ∧ i.zero = z ∧ i.size = s ∧ i.bytes = b := by
  cases hi : Tryz.prog.info? t with
  | none => rw [hi] at h; cases h
  | some i =>
    rw [hi] at h
    simp only [Option.map_some, Option.some.injEq, Prod.mk.injEq] at h
    exact ⟨i, rfl, h.1, h.2.1, h.2.2⟩
set_option maxHeartbeats 1000000 in
set_option maxRecDepth 100000 in
theorem cloneB_any (ad : Option Addr) (cap : Nat) (l : List Nat) (w : World) (h : RdB w ad l) (hl : l.length ≤ 100000000000) : Calls Tryz.prog 115 #[.slice ad l.length cap] w fun e w' => ∃ a c, e = .returned (.slice a l.length c) ∧ w'.ownsRow w.heap.size 5 1 (.slice a l.length c) l.length (cB l) ∧ Below w.heap.size w w' := by
  obtain ⟨ic, hic, hz0, hz1, hz2⟩ := info_parts infoB
  have hb := bs0B
  have n1 := nilB_no
  have n2 := nilB_yes
  cases ad with
  | none =>
    have hl0 : l = [] := Classical.byContradiction fun q => by obtain ⟨_, _, e, _⟩ := h q; cases e
    subst hl0
    go_enter Tryz.func115, Tryz.ntmps115
    go_wp2
    go_ret
    exact ⟨none, 0, rfl, World.ownsRow_nil _ _ _ _, Below.refl _ _⟩
  | some a =>
    have hb0 := al1' w (.cells #[] 5)
    have hnews : ∀ j u, (cB l)[j]? = some u → (w.alloc (.cells #[] 5)).cell? (a.add j) = some u := by
      intro j u hj
      obtain ⟨b, off, e, _, hat⟩ := (h.carry hb0) (fun e => by subst e; simp [cB] at hj)
      obtain rfl := Option.some.inj e
      exact b_src hat j u hj
    have hown := World.ownsRow_lit (base := w.heap.size) (e := 5) (size := 1) w #[] 0 (Nat.le_refl _) (by unfold maxLen; omega) (by simp)
    go_enter Tryz.func115, Tryz.ntmps115
    go_wp2_with (at_builtin; refine wpList_append_own_at _ rfl _ _ 55 rfl w.heap.size 5 ic _ 1 1 Tryz.underlying55 hic hz0 hz1 hz2 rfl (by decide) _ 0 [] rfl hown a l.length cap (cB l) rfl (by rw [cB_len]; omega) hnews (cB_one l) (by unfold maxLen; omega) (by omega) (by simp) ?_; intro v u ho0 hgu hnn _; have hbu : Below w.heap.size w u := hb0.grown hgu (by simp) (fun q e => own_block hown q e); have ho : u.ownsRow w.heap.size 5 1 v l.length (cB l) := (by simpa using ho0))
    go_ret
    rcases own_form ho with ⟨e1, e2⟩ | ⟨g, c, e1, _⟩
    · exact ⟨none, 0, by rw [e1, e2]; rfl, by rw [e1, e2] at ho; rw [e2]; exact ho, hbu⟩
    · exact ⟨_, c, by rw [e1]; rfl, e1 ▸ ho, hbu⟩
end Go.Proofs.YtjfbnikbmadgkaaGreat
