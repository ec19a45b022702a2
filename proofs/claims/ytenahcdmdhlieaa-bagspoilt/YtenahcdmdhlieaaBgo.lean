/- The statements' run of a script over a bag: what it answers. -/
import Derived.Test.YtenahcdmdhlieaaBgn
namespace Go.Proofs.Ytenahcdmdhlieaa
open Go.RowKit Go.Shelf

def stE (room : Int) (o : Op6) (s : Int × List Gr) : Int := if o.1 = 1 then (sSend room s.1 s.2 o.2.2.1 o.2.2.2.1 o.2.2.2.2.2).2.1 else if o.1 = 4 then (sDb room s.1 s.2 o.2.2.1).2.1 else 1
def stT (o : Op6) (s : Int × List Gr) : Int := if o.1 = 3 then (sTk s.2 o.2.2.1).2.1 else 1
def stS (room : Int) (o : Op6) (s : Int × List Gr) : Int × List Gr :=
  if o.1 = 1 then (sSend room s.1 s.2 o.2.2.1 o.2.2.2.1 o.2.2.2.2.2).2.2 else if o.1 = 3 then (s.1, (sTk s.2 o.2.2.1).2.2) else if o.1 = 4 then (sDb room s.1 s.2 o.2.2.1).2.2
  else if o.1 = 5 then (s.1, (sMv s.2 o.2.2.1 o.2.2.2.1).2) else if o.1 = 6 then (s.1, (sSp s.2 o.2.2.1 o.2.2.2.1 o.2.2.2.2.1).2) else s
/-- One step: what was made, what was taken, the bag. -/
def rS (room : Int) (q : Nat × Nat × Int × List Gr) (o : Op6) : Nat × Nat × Int × List Gr := (q.1 + (if stE room o q.2.2 = 0 then 1 else 0), q.2.1 + (if stT o q.2.2 = 0 then 1 else 0), stS room o q.2.2)
def rst (room last : Int) (l : List Gr) (ops : List Op6) : Nat × Nat × Int × List Gr := ops.foldl (rS room) (0, 0, last, l)
theorem sAdd_last (room last : Int) (l : List Gr) (f t : Int) (d : List Nat) : last ≤ (sAdd room last l f t d).2.2.1 ∧ (sAdd room last l f t d).2.2.1 ≤ last + 1 := by
  unfold sAdd
  split <;> dsimp only <;> omega
theorem stS_last (room : Int) (o : Op6) (s : Int × List Gr) : s.1 ≤ (stS room o s).1 ∧ (stS room o s).1 ≤ s.1 + 1 := by
  unfold stS
  split
  · unfold sSend
    split
    · dsimp only; omega
    · exact sAdd_last ..
  · split
    · dsimp only; omega
    · split
      · unfold sDb
        split
        · exact sAdd_last ..
        · dsimp only; omega
      · split
        · dsimp only; omega
        · split
          · dsimp only; omega
          · omega
set_option maxHeartbeats 8000000 in
set_option maxRecDepth 100000 in
theorem run_any {w : World} {base p : Nat} {ad : Option Addr} {cap : Nat} {room last : Int} {ps : List Nat} {l : List Gr} (h : Bg w base p ad cap room last ps l) (h0 : 0 ≤ last) (h1 : last ≤ 1000) (adO : Option Addr) (capO : Nat) (ops : List Op6) (hO : RdO w base adO ops) (hn : ops.length ≤ 150) : Calls Try.prog 10 #[.pointer (some ⟨p, 0, none⟩), .slice adO ops.length capO] w fun e w' => e = .returned (.tuple #[.int .i64 ((rst room last l ops).1 : Int), .int .i64 ((rst room last l ops).2.1 : Int)]) ∧ ∃ ad' cap' ps', Bg w' base p ad' cap' room (rst room last l ops).2.2.1 ps' (rst room last l ops).2.2.2 ∧ Tn p (ob ad) (ob ad') w w' := by
  obtain ⟨n, hN⟩ : ∃ n, ops.length = n := ⟨_, rfl⟩
  have HN : Hid (ops.length = n) := hN
  rw [hN] at hn ⊢
  clear hN
  go_enter Try.func10, Try.ntmps10
  go_wp2
  go_loopw [6, 7, 8] (fun ma ta i wz => ∃ (k m t : Nat) (la : Int) (lz : List Gr) (ad' : Option Addr) (cap' : Nat) (ps' : List Nat), ma = .int .i64 m ∧ ta = .int .i64 t ∧ i = .int .i64 k ∧ k ≤ n ∧ m ≤ k ∧ t ≤ k ∧ 0 ≤ la ∧ la ≤ 1000 + k ∧ Hid (rst room last l (ops.take k) = (m, t, la, lz)) ∧ Bg wz base p ad' cap' room la ps' lz ∧ Tn p (ob ad) (ob ad') w wz) (fun _ _ i _ => n - vnat i)
  case atStart => exact ⟨0, 0, 0, last, l, ad, cap, ps, rfl, rfl, rfl, Nat.zero_le _, Nat.le_refl _, Nat.le_refl _, h0, by omega, rfl, h, Tn.of p _ (Below.refl _ _)⟩
  case round =>
    obtain ⟨k, m, t, la, lz, ad', cap', ps', rfl, rfl, rfl, hk, hmk, htk, hla0, hla1, HR, hB, hT⟩ := hrel
    by_cases hkl : k < n
    · have hki : (k : Int) < (n : Int) := by omega
      obtain ⟨⟨kd, wh, oi, oj, ok, od⟩, ho⟩ : ∃ o, ops[k]? = some o := ⟨_, List.getElem?_eq_getElem (by rw [HN.out]; exact hkl)⟩
      have hO1 := hO.carry (h.below hT)
      obtain ⟨b, off, a, c, rfl, hb, c0, c1, c2, c3, c4, c5, hu, hy⟩ := hO1 k _ ho
      dsimp only at c0 c1 c2 c3 c4 c5 hu hy
      have hR' : rst room last l (ops.take (k + 1)) = rS room (m, t, la, lz) (kd, wh, oi, oj, ok, od) := by
        rw [List.take_add_one, ho, Option.toList_some, ← HR.out]
        unfold rst
        rw [List.foldl_append]
        rfl
      have hlb := stS_last room (kd, wh, oi, oj, ok, od) (la, lz)
      dsimp only at hlb
      have hix := idx_O b off n capO k hkl
      have hlo := load_O c0 c1 c2 c3 c4 c5
      obtain ⟨V, hV⟩ : ∃ V, wr.alloc (.cells #[.int .i64 kd, .int .i64 wh, .int .i64 oi, .int .i64 oj, .int .i64 ok, .slice a od.length c] 52) = V := ⟨_, rfl⟩
      have hbV : Below wr.heap.size wr V := by rw [← hV]; exact al1' _ _
      have hbx : V.heap[wr.heap.size]? = some (.cells #[.int .i64 kd, .int .i64 wh, .int .i64 oi, .int .i64 oj, .int .i64 ok, .slice a od.length c] 52 (0, 0)) := by rw [← hV]; exact new_at rfl
      have f0 : V.cell? ⟨wr.heap.size, 0, none⟩ = some (.int .i64 kd) := cell_at hbx 0
      have f2 : V.cell? ⟨wr.heap.size, 2, none⟩ = some (.int .i64 oi) := cell_at hbx 2
      have f3 : V.cell? ⟨wr.heap.size, 3, none⟩ = some (.int .i64 oj) := cell_at hbx 3
      have f4 : V.cell? ⟨wr.heap.size, 4, none⟩ = some (.int .i64 ok) := cell_at hbx 4
      have f5 : V.cell? ⟨wr.heap.size, 5, none⟩ = some (.slice a od.length c) := cell_at hbx 5
      have hBV := hB.carry hbV
      have hTV := hT.trans (Tn.of p (ob ad') hbV)
      have hbw : base ≤ wr.heap.size := by have := hB.pb; have := hB.plt; omega
      have hbV2 : Below base wr V := hbV.mono hbw
      clear hbx ho hO1 hlo
      by_cases hk1 : kd = 1
      · subst hk1
        have hc := send_any hBV oi oj a c od (fun hd => by
          obtain ⟨b', off', e1, e2, e3⟩ := hu hd
          exact ⟨b', off', e1, by have := hbV.size; omega, e3.carry (hbV2.block _ e2)⟩) (fun hd a' e => by
          obtain ⟨b', off', e1, e2, _⟩ := hu hd
          rw [e1] at e
          cases e
          have := hB.pb
          show b' ≠ p
          omega) hy hla0 (by omega)
        have e1 : stE room (1, wh, oi, oj, ok, od) (la, lz) = (sSend room la lz oi oj od).2.1 := if_pos rfl
        have e2 : stT (1, wh, oi, oj, ok, od) (la, lz) = 1 := if_neg (by simp)
        have e3 : stS room (1, wh, oi, oj, ok, od) (la, lz) = (sSend room la lz oi oj od).2.2 := if_pos rfl
        rw [e3] at hlb
        unfold rS at hR'
        dsimp only at hR'
        rw [e1, e2, e3] at hR'
        obtain ⟨r, hr⟩ : ∃ r, sSend room la lz oi oj od = r := ⟨_, rfl⟩
        rw [hr] at hc hR' hlb
        obtain ⟨r1, r2, r3, r4⟩ := r
        dsimp only at hc hR' hlb
        clear e1 e2 e3 hr hu
        by_cases hz : r2 = 0
        · subst hz
          have HR' : Hid (rst room last l (ops.take (k + 1)) = (m + 1, t, r3, r4)) := hR'
          clear hR'
          go_wp2_with (go_at_call 21; (with_reducible refine hc.mono ?_); rintro e u1 ⟨rfl, ad2, cap2, ps2, hB2, hT2⟩)
          go_roundw
          case rel => exact ⟨k + 1, m + 1, t, r3, r4, ad2, cap2, ps2, by simp, rfl, by simp, by omega, by omega, by omega, by omega, by omega, HR', hB2, hTV.trans hT2⟩
          case measure => simp [vnat]; omega
        · have HR' : Hid (rst room last l (ops.take (k + 1)) = (m, t, r3, r4)) := by rw [if_neg hz] at hR'; exact hR'
          have hz2 : (r2 == 0) = false := by simpa using hz
          clear hR'
          go_wp2_with (go_at_call 21; (with_reducible refine hc.mono ?_); rintro e u1 ⟨rfl, ad2, cap2, ps2, hB2, hT2⟩)
          go_roundw
          case rel => exact ⟨k + 1, m, t, r3, r4, ad2, cap2, ps2, rfl, rfl, by simp, by omega, by omega, by omega, by omega, by omega, HR', hB2, hTV.trans hT2⟩
          case measure => simp [vnat]; omega
      by_cases hk3 : kd = 3
      · subst hk3
        have hc := take_any hBV oi
        have e1 : stE room (3, wh, oi, oj, ok, od) (la, lz) = 1 := by unfold stE; rw [if_neg (by simp), if_neg (by simp)]
        have e2 : stT (3, wh, oi, oj, ok, od) (la, lz) = (sTk lz oi).2.1 := if_pos rfl
        have e3 : stS room (3, wh, oi, oj, ok, od) (la, lz) = (la, (sTk lz oi).2.2) := by unfold stS; rw [if_neg (by simp), if_pos rfl]
        unfold rS at hR'
        dsimp only at hR'
        rw [e1, e2, e3] at hR'
        obtain ⟨r, hr⟩ : ∃ r, sTk lz oi = r := ⟨_, rfl⟩
        rw [hr] at hc hR'
        obtain ⟨⟨x0, x1, x2, x3⟩, r2, r4⟩ := r
        unfold gV at hc
        dsimp only at hc hR'
        clear e1 e2 e3 hr hu hlb
        by_cases hz : r2 = 0
        · subst hz
          have HR' : Hid (rst room last l (ops.take (k + 1)) = (m, t + 1, la, r4)) := hR'
          clear hR'
          go_wp2_with (go_at_call 22; (with_reducible refine hc.mono ?_); rintro e u1 ⟨ya, yc, rfl, hown, ad2, cap2, ps2, hB2, hT2⟩)
          go_roundw
          case rel => exact ⟨k + 1, m, t + 1, la, r4, ad2, cap2, ps2, rfl, by simp, by simp, by omega, by omega, by omega, by omega, by omega, HR', hB2, hTV.trans hT2⟩
          case measure => simp [vnat]; omega
        · have HR' : Hid (rst room last l (ops.take (k + 1)) = (m, t, la, r4)) := by rw [if_neg hz] at hR'; exact hR'
          have hz2 : (r2 == 0) = false := by simpa using hz
          clear hR'
          go_wp2_with (go_at_call 22; (with_reducible refine hc.mono ?_); rintro e u1 ⟨ya, yc, rfl, hown, ad2, cap2, ps2, hB2, hT2⟩)
          go_roundw
          case rel => exact ⟨k + 1, m, t, la, r4, ad2, cap2, ps2, rfl, rfl, by simp, by omega, by omega, by omega, by omega, by omega, HR', hB2, hTV.trans hT2⟩
          case measure => simp [vnat]; omega
      by_cases hk4 : kd = 4
      · subst hk4
        have hc := double_any hBV oi hla0 (by omega)
        have e1 : stE room (4, wh, oi, oj, ok, od) (la, lz) = (sDb room la lz oi).2.1 := by unfold stE; rw [if_neg (by simp), if_pos rfl]
        have e2 : stT (4, wh, oi, oj, ok, od) (la, lz) = 1 := if_neg (by simp)
        have e3 : stS room (4, wh, oi, oj, ok, od) (la, lz) = (sDb room la lz oi).2.2 := by unfold stS; rw [if_neg (by simp), if_neg (by simp), if_pos rfl]
        rw [e3] at hlb
        unfold rS at hR'
        dsimp only at hR'
        rw [e1, e2, e3] at hR'
        obtain ⟨r, hr⟩ : ∃ r, sDb room la lz oi = r := ⟨_, rfl⟩
        rw [hr] at hc hR' hlb
        obtain ⟨r1, r2, r3, r4⟩ := r
        dsimp only at hc hR' hlb
        clear e1 e2 e3 hr hu
        by_cases hz : r2 = 0
        · subst hz
          have HR' : Hid (rst room last l (ops.take (k + 1)) = (m + 1, t, r3, r4)) := hR'
          clear hR'
          go_wp2_with (go_at_call 19; (with_reducible refine hc.mono ?_); rintro e u1 ⟨rfl, ad2, cap2, ps2, hB2, hT2⟩)
          go_roundw
          case rel => exact ⟨k + 1, m + 1, t, r3, r4, ad2, cap2, ps2, by simp, rfl, by simp, by omega, by omega, by omega, by omega, by omega, HR', hB2, hTV.trans hT2⟩
          case measure => simp [vnat]; omega
        · have HR' : Hid (rst room last l (ops.take (k + 1)) = (m, t, r3, r4)) := by rw [if_neg hz] at hR'; exact hR'
          have hz2 : (r2 == 0) = false := by simpa using hz
          clear hR'
          go_wp2_with (go_at_call 19; (with_reducible refine hc.mono ?_); rintro e u1 ⟨rfl, ad2, cap2, ps2, hB2, hT2⟩)
          go_roundw
          case rel => exact ⟨k + 1, m, t, r3, r4, ad2, cap2, ps2, rfl, rfl, by simp, by omega, by omega, by omega, by omega, by omega, HR', hB2, hTV.trans hT2⟩
          case measure => simp [vnat]; omega
      by_cases hk5 : kd = 5
      · subst hk5
        have hc := move_any hBV oi oj
        have e1 : stE room (5, wh, oi, oj, ok, od) (la, lz) = 1 := by unfold stE; rw [if_neg (by simp), if_neg (by simp)]
        have e2 : stT (5, wh, oi, oj, ok, od) (la, lz) = 1 := if_neg (by simp)
        have e3 : stS room (5, wh, oi, oj, ok, od) (la, lz) = (la, (sMv lz oi oj).2) := by unfold stS; rw [if_neg (by simp), if_neg (by simp), if_neg (by simp), if_pos rfl]
        unfold rS at hR'
        dsimp only at hR'
        rw [e1, e2, e3] at hR'
        obtain ⟨r, hr⟩ : ∃ r, sMv lz oi oj = r := ⟨_, rfl⟩
        rw [hr] at hc hR'
        obtain ⟨r2, r4⟩ := r
        dsimp only at hc hR'
        have HR' : Hid (rst room last l (ops.take (k + 1)) = (m, t, la, r4)) := hR'
        clear e1 e2 e3 hr hu hlb hR'
        go_wp2_with (go_at_call 14; (with_reducible refine hc.mono ?_); rintro e u1 ⟨rfl, ad2, cap2, ps2, hB2, hT2⟩)
        go_roundw
        case rel => exact ⟨k + 1, m, t, la, r4, ad2, cap2, ps2, rfl, rfl, by simp, by omega, by omega, by omega, by omega, by omega, HR', hB2, hTV.trans hT2⟩
        case measure => simp [vnat]; omega
      by_cases hk6 : kd = 6
      · subst hk6
        have hc := spoil_any hBV oi oj ok
        have e1 : stE room (6, wh, oi, oj, ok, od) (la, lz) = 1 := by unfold stE; rw [if_neg (by simp), if_neg (by simp)]
        have e2 : stT (6, wh, oi, oj, ok, od) (la, lz) = 1 := if_neg (by simp)
        have e3 : stS room (6, wh, oi, oj, ok, od) (la, lz) = (la, (sSp lz oi oj ok).2) := by unfold stS; rw [if_neg (by simp), if_neg (by simp), if_neg (by simp), if_neg (by simp), if_pos rfl]
        unfold rS at hR'
        dsimp only at hR'
        rw [e1, e2, e3] at hR'
        obtain ⟨r, hr⟩ : ∃ r, sSp lz oi oj ok = r := ⟨_, rfl⟩
        rw [hr] at hc hR'
        obtain ⟨r2, r4⟩ := r
        dsimp only at hc hR'
        have HR' : Hid (rst room last l (ops.take (k + 1)) = (m, t, la, r4)) := hR'
        clear e1 e2 e3 hr hu hlb hR'
        go_wp2_with (go_at_call 18; (with_reducible refine hc.mono ?_); rintro e u1 ⟨rfl, ad2, cap2, ps2, hB2, hT2⟩)
        go_roundw
        case rel => exact ⟨k + 1, m, t, la, r4, ad2, cap2, ps2, rfl, rfl, by simp, by omega, by omega, by omega, by omega, by omega, HR', hB2, hTV.trans hT2⟩
        case measure => simp [vnat]; omega
      have e1 : stE room (kd, wh, oi, oj, ok, od) (la, lz) = 1 := by unfold stE; rw [if_neg hk1, if_neg hk4]
      have e2 : stT (kd, wh, oi, oj, ok, od) (la, lz) = 1 := if_neg hk3
      have e3 : stS room (kd, wh, oi, oj, ok, od) (la, lz) = (la, lz) := by unfold stS; rw [if_neg hk1, if_neg hk3, if_neg hk4, if_neg hk5, if_neg hk6]
      unfold rS at hR'
      dsimp only at hR'
      rw [e1, e2, e3] at hR'
      have HR' : Hid (rst room last l (ops.take (k + 1)) = (m, t, la, lz)) := hR'
      clear e1 e2 e3 hu hlb hR'
      have q1 : (kd == 1) = false := by simpa using hk1
      have q3 : (kd == 3) = false := by simpa using hk3
      have q4 : (kd == 4) = false := by simpa using hk4
      have q5 : (kd == 5) = false := by simpa using hk5
      have q6 : (kd == 6) = false := by simpa using hk6
      go_wp2
      go_roundw
      case rel => exact ⟨k + 1, m, t, la, lz, ad', cap', ps', rfl, rfl, by simp, by omega, by omega, by omega, by omega, by omega, HR', hBV, hTV⟩
      case measure => simp [vnat]; omega
    · have hkk : k = n := by omega
      subst hkk
      rw [List.take_of_length_le (by rw [HN.out]; exact Nat.le_refl _)] at HR
      have hki : ¬ ((k : Int) < (k : Int)) := by omega
      go_wp2
      go_ret2
      exact ⟨by rw [HR.out]; rfl, ad', ⟨cap', ps', by rw [HR.out]; exact hB⟩, hT⟩
end Go.Proofs.Ytenahcdmdhlieaa
