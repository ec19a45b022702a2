import Derived.Test.YtekjhcnaabpfmaaGreatDoorJnJ23
import Derived.Test.YtekjhcnaabpfmaaGreatDoorJnJ13
import Derived.Test.YtekjhcnaabpfmaaGreatDoorJnJ16
import Derived.Test.YtekjhcnaabpfmaaGreatDoorJnJ22
import Derived.Test.YtekjhcnaabpfmaaGreatDoorJnJ21
import Derived.Test.YtekjhcnaabpfmaaGreatDoorJnJ19
import Derived.Maps.AppendAt
import Derived.Maps.OwnIn
set_option maxHeartbeats 40000000
set_option maxRecDepth 100000
set_option linter.unusedVariables false
namespace Go.Proofs.YtekjhcnaabpfmaaGreatDoor
open Go.RowKit Go.Shelf Go.Lib
theorem retNtt {f : Func} {p q r : Tmp} {R : Ending → World → Prop} {a : Act} {w : World} {b : Nat} {o t k : Int} {x y : Value} (hres : f.results = #[.cell p 65, .tmp q, .tmp r]) (hp : a.tmps.getD p undef = .pointer (some ⟨b, 0, none⟩)) (hq : a.tmps.getD q undef = x) (hr : a.tmps.getD r undef = y) (hd : a.defers = []) (h : NB w b o t k) (hR : R (.returned (.tuple #[nt o t k, x, y])) w) : bodyPost Tryz.prog f R .ret a w := by
 refine bodyPost_ret (v := .tuple #[nt o t k, x, y]) ?_ hd hR
 have hp' : a.tmps[p]?.getD undef = .pointer (some ⟨b, 0, none⟩) := by simpa using hp
 have hq' : a.tmps[q]?.getD undef = x := by simpa using hq
 have hr' : a.tmps[r]?.getD undef = y := by simpa using hr
 have c0 := h.c0
 have c1 := h.c1
 have c2 := h.c2
 simp [results, hres, hp', hq', hr', asAddr]
 unfold nt
 go_simp
theorem defend_no {w : World} (v m : Value) (self : Int) (hv : v = .pointer none ∨ ∃ p, v = .pointer (some ⟨p, 0, none⟩)) (hd : ∀ W, Below w.heap.size w W → Calls Tryz.prog 125 #[.agg #[v, .int .i64 self]] W fun e w' => e = .returned (dueV none) ∧ Below W.heap.size W w') : Calls Tryz.prog 87 #[v, .int .i64 self, m] w fun e w' => e = .returned (.tuple #[nt 0 0 0, .bool false, .int .i64 0]) ∧ Below w.heap.size w w' := by
 have h1 := hd _ (al2 w (.cells #[.int .i64 0, .int .i64 0, .int .i64 0] 65) (.cells #[v, .int .i64 self] 206))
 unfold dueV nt at *
 clear hd
 rcases hv with rfl | ⟨p, rfl⟩
 all_goals
  go_enter Tryz.func87, Tryz.ntmps87
  go_wp2_with (go_at_call 125; (with_reducible refine h1.mono ?_); rintro e u1 ⟨rfl, hb1⟩; have hn1 : NB u1 w.heap.size 0 0 0 := NB.carry ((NB.new w 0 0 0).old _) hb1; obtain ⟨u2, hu2⟩ : ∃ u2, u1.alloc (.cells #[.int .i64 0, .int .i64 0, .int .i64 0] 65) = u2 := ⟨_, rfl⟩; have hb2 : Below u1.heap.size u1 u2 := (by rw [← hu2]; exact al1 _ _); have hm2 : NB u2 u1.heap.size 0 0 0 := (by rw [← hu2]; exact NB.new _ _ _ _); have c0 := hm2.c0; have c1 := hm2.c1; have c2 := hm2.c2; have z0 := hm2.thaw 0; have z1 := hm2.thaw 1; have z2 := hm2.thaw 2; obtain ⟨u3, hu3⟩ : ∃ u3, W3 u2 u1.heap.size 0 0 0 = u3 := ⟨_, rfl⟩; have hb3 : Below u1.heap.size u1 u3 := (by rw [← hu3]; exact below3 hb2 (Nat.le_refl _) _ _ _); have hn3 := hn1.carry hb3; unfold W3 at hu3; have d0 := hn3.c0; have d1 := hn3.c1; have d2 := hn3.c2; have y0 := hn3.thaw 0; have y1 := hn3.thaw 1; have y2 := hn3.thaw 2)
  exact retNtt rfl rfl rfl rfl rfl (hn3.set 0 0 0) ⟨rfl, below3 (bel2 (bel2 (al2 _ _ _) hb1) hb3) (Nat.le_refl _) _ _ _⟩
def DfV (x : N3) (E : Int) : Value := if E = 0 then .tuple #[nt x.1 x.2.1 x.2.2, .bool true, .int .i64 0] else .tuple #[nt 0 0 0, .bool false, .int .i64 E]
theorem defend_of {w : World} (p : Nat) (m : Value) (self : Int) (x : N3) (E : Int) (Φ : World → World → Prop)
  (hΦ : ∀ W V, Below w.heap.size w W → Φ W V → ∀ k, w.heap.size ≤ k → k < W.heap.size → V.heap[k]? = W.heap[k]?)
  (hd : ∀ W, Below w.heap.size w W → Calls Tryz.prog 125 #[.agg #[.pointer (some ⟨p, 0, none⟩), .int .i64 self]] W fun e w' => e = .returned (dueV (some x)) ∧ Below W.heap.size W w')
  (hu : ∀ W, Below w.heap.size w W → Calls Tryz.prog 126 #[m, nt x.1 x.2.1 x.2.2, .func (.func 127) #[.agg #[.pointer (some ⟨p, 0, none⟩), .int .i64 self]] #[]] W fun e w' => e = .returned (.int .i64 E) ∧ Φ W w') :
  Calls Tryz.prog 87 #[.pointer (some ⟨p, 0, none⟩), .int .i64 self, m] w fun e w' => e = .returned (DfV x E) ∧ ∃ W V, Below w.heap.size w W ∧ Φ W V ∧ Below w.heap.size V w' := by
 have h1 := hd _ (al2 w (.cells #[.int .i64 0, .int .i64 0, .int .i64 0] 65) (.cells #[.pointer (some ⟨p, 0, none⟩), .int .i64 self] 206))
 obtain ⟨o, t, k⟩ := x
 dsimp only at hu
 unfold dueV at h1
 dsimp only at h1
 clear hd
 have HΦ : Hid (∀ W V, Below w.heap.size w W → Φ W V → ∀ k, w.heap.size ≤ k → k < W.heap.size → V.heap[k]? = W.heap[k]?) := hΦ
 have HU : Hid (∀ W, Below w.heap.size w W → Calls Tryz.prog 126 #[m, nt o t k, .func (.func 127) #[.agg #[.pointer (some ⟨p, 0, none⟩), .int .i64 self]] #[]] W fun e w' => e = .returned (.int .i64 E) ∧ Φ W w') := hu
 clear hΦ hu
 by_cases hE : E = 0
 case pos =>
  subst hE
  unfold DfV
  rw [if_pos rfl]
  unfold nt at h1 ⊢
  go_enter Tryz.func87, Tryz.ntmps87
  go_wp2_with (first | (go_at_call 125; (with_reducible refine h1.mono ?_); rintro e u1 ⟨rfl, hb1⟩; have hn1 : NB u1 w.heap.size 0 0 0 := NB.carry ((NB.new w 0 0 0).old _) hb1; have hd1 : u1.heap[w.heap.size + 1]? = some (.cells #[.pointer (some ⟨p, 0, none⟩), .int .i64 self] 206 (0, 0)) := (hb1.block _ (by simp)).trans (zna (by simp)); obtain ⟨u2, hu2⟩ : ∃ u2, u1.alloc (.cells #[.int .i64 o, .int .i64 t, .int .i64 k] 65) = u2 := ⟨_, rfl⟩; have hb2 : Below u1.heap.size u1 u2 := (by rw [← hu2]; exact al1 _ _); have hw2 : Below w.heap.size w u2 := bel2 (bel2 (al2 _ _ _) hb1) hb2; have hm2 : NB u2 u1.heap.size o t k := (by rw [← hu2]; exact NB.new _ _ _ _); have hn2 := hn1.carry hb2; have hd2 := (hb2.block _ (zla hd1)).trans hd1; have c0 := hm2.c0; have c1 := hm2.c1; have c2 := hm2.c2; have f0 := zca hd2 0; have f1 := zca hd2 1; simp at f0 f1; have h2 := HU.out u2 hw2; unfold nt at h2) | (go_at_call 126; (with_reducible refine h2.mono ?_); rintro e u3 ⟨rfl, hp3⟩; have hk3 := HΦ.out u2 u3 hw2 hp3; have hz1 := hb1.size; simp at hz1; have hm3 : NB u3 u1.heap.size o t k := (hk3 _ (by omega) hm2.lt).trans hm2; have hn3 : NB u3 w.heap.size 0 0 0 := (hk3 _ (Nat.le_refl _) hn2.lt).trans hn2; have HK : Hid (∀ k, w.heap.size ≤ k → k < u2.heap.size → u3.heap[k]? = u2.heap[k]?) := hk3; clear hk3; have d0 := hn3.c0; have d1 := hn3.c1; have d2 := hn3.c2; have y0 := hn3.thaw 0; have y1 := hn3.thaw 1; have y2 := hn3.thaw 2; have g0 := hm3.c0; have g1 := hm3.c1; have g2 := hm3.c2))
  exact retNtt rfl rfl rfl rfl rfl (hn3.set o t k) ⟨rfl, u2, u3, hw2, hp3, below3 (Below.refl _ _) (Nat.le_refl _) _ _ _⟩
 case neg =>
  unfold DfV
  rw [if_neg hE]
  have hE' : (E != 0) = true := by simpa using hE
  unfold nt at h1 ⊢
  go_enter Tryz.func87, Tryz.ntmps87
  go_wp2_with (first | (go_at_call 125; (with_reducible refine h1.mono ?_); rintro e u1 ⟨rfl, hb1⟩; have hn1 : NB u1 w.heap.size 0 0 0 := NB.carry ((NB.new w 0 0 0).old _) hb1; have hd1 : u1.heap[w.heap.size + 1]? = some (.cells #[.pointer (some ⟨p, 0, none⟩), .int .i64 self] 206 (0, 0)) := (hb1.block _ (by simp)).trans (zna (by simp)); obtain ⟨u2, hu2⟩ : ∃ u2, u1.alloc (.cells #[.int .i64 o, .int .i64 t, .int .i64 k] 65) = u2 := ⟨_, rfl⟩; have hb2 : Below u1.heap.size u1 u2 := (by rw [← hu2]; exact al1 _ _); have hw2 : Below w.heap.size w u2 := bel2 (bel2 (al2 _ _ _) hb1) hb2; have hm2 : NB u2 u1.heap.size o t k := (by rw [← hu2]; exact NB.new _ _ _ _); have hn2 := hn1.carry hb2; have hd2 := (hb2.block _ (zla hd1)).trans hd1; have c0 := hm2.c0; have c1 := hm2.c1; have c2 := hm2.c2; have f0 := zca hd2 0; have f1 := zca hd2 1; simp at f0 f1; have h2 := HU.out u2 hw2; unfold nt at h2) | (go_at_call 126; (with_reducible refine h2.mono ?_); rintro e u3 ⟨rfl, hp3⟩; have hk3 := HΦ.out u2 u3 hw2 hp3; have hz1 := hb1.size; simp at hz1; have hn3 : NB u3 w.heap.size 0 0 0 := (hk3 _ (Nat.le_refl _) hn2.lt).trans hn2; have HK : Hid (∀ k, w.heap.size ≤ k → k < u2.heap.size → u3.heap[k]? = u2.heap[k]?) := hk3; clear hk3; have d0 := hn3.c0; have d1 := hn3.c1; have d2 := hn3.c2; have y0 := hn3.thaw 0; have y1 := hn3.thaw 1; have y2 := hn3.thaw 2))
  exact retNtt rfl rfl rfl rfl rfl (hn3.set 0 0 0) ⟨rfl, u2, u3, hw2, hp3, below3 (Below.refl _ _) (Nat.le_refl _) _ _ _⟩
theorem bR_ge {x : Int} (h : x < 1099511627775) : x + 1 ≤ bR x ∧ bR x ≤ 1099511627775 := by
 unfold bR
 split <;> constructor <;> omega
theorem bR_le {x : Int} (h : x ≤ 1099511627775) : x ≤ bR x ∧ bR x ≤ 1099511627775 := by
 unfold bR
 split <;> constructor <;> omega
theorem bT_ge {x : Int} (h : x < 1048576) : x + 1 ≤ bT x ∧ bT x ≤ 1048576 := by
 unfold bT
 split <;> constructor <;> omega
theorem bT_le {x : Int} (h : x ≤ 1048576) : x ≤ bT x ∧ bT x ≤ 1048576 := by
 unfold bT
 split <;> constructor <;> omega
structure Sd0 (d : Dst) (n : Nat) (r : Rec) : Prop where
 ss : Ss d.l n r
 fz : Fz d
 may : 1 ≤ n → May r
 zr : n = 0 → r = rec0
structure Lv (d : Dst) (n : Nat) (b : Bo) : Prop where
 ss : Ss d.l n b.r
 n1 : 1 ≤ n
 fz : Fz d
 may : May b.r
 ro : 0 ≤ b.ro ∧ b.ro ≤ b.r.ro
 ta : 0 ≤ b.ta ∧ b.ta ≤ b.r.ta
section
variable {d : Dst} {n : Nat} {b : Bo} {r : Rec}
theorem Lv.ok (h : Lv d n b) : OkB b := by
 obtain ⟨⟨m1, m2⟩, ⟨m3, m4⟩, m5, m6⟩ := h.may
 have h1 := h.ro
 have h2 := h.ta
 refine ⟨⟨?_, ?_⟩, ⟨?_, ?_⟩, ⟨?_, ?_⟩, ⟨?_, ?_⟩, ?_, ?_⟩ <;> omega
theorem Sd0.nr (h : Sd0 d n r) (ho : d.off = false) : (nwTZ d).r = r := by
 rw [h.ss.nt ho]
 split
 · rename_i e
   rw [h.zr e]
 · rfl
theorem Sd0.bd (h : Sd0 d n r) : (0 ≤ r.li ∧ r.li ≤ 1073741824) ∧ (0 ≤ r.ro ∧ r.ro ≤ 1099511627775) ∧ 0 ≤ r.ta ∧ r.ta ≤ 1048576 := by
 rcases Nat.eq_zero_or_pos n with e | e
 · rw [h.zr e]
   decide
 · obtain ⟨⟨m1, m2⟩, ⟨m3, m4⟩, m5, m6⟩ := h.may e
   exact ⟨⟨by omega, m2⟩, ⟨m3, m4⟩, m5, m6⟩
theorem Sd0.open (h : Sd0 d n r) (ho : d.off = false) (hl : r.li < 1073741824) (hn : n ≤ 999999) : ((dOp d).e = 0 ∧ Lv (dOp d).d (n + 1) (dOp d).b ∧ (dOp d).b.r.li = r.li + 1 ∧ (dOp d).b.ro = r.ro ∧ (dOp d).b.ta = r.ta ∧ (dOp d).d.writes = d.writes + 2) ∨ ((dOp d).e = 100 ∧ Sd0 (dOp d).d n r ∧ d.writes ≤ (dOp d).d.writes ∧ (dOp d).d.writes ≤ d.writes + 2) := by
 have hb := h.bd
 rw [dOp, if_neg (by rw [ho]; decide), h.nr ho, if_neg (by omega)]
 have h1 := bR_le (x := r.ro) (by omega)
 have h2 := bT_le (x := r.ta) (by omega)
 have hmay : May (nxL r) := ⟨⟨by show 1 ≤ r.li + 1; omega, by show r.li + 1 ≤ _; omega⟩, ⟨by show 0 ≤ bR r.ro; omega, h1.2⟩, by show 0 ≤ bT r.ta; omega, h2.2⟩
 rcases h.ss.save ho h.fz hmay (by omega) with ⟨s1, s2, s3, s4, s5⟩ | ⟨s1, s2, s3, s4, s5, s6, s7⟩
 · exact .inl ⟨s1, ⟨s5, by omega, s4, hmay, ⟨hb.2.1.1, h1.1⟩, ⟨hb.2.2.1, h2.1⟩⟩, rfl, rfl, rfl, s3⟩
 · exact .inr ⟨s1, ⟨s7, s6, h.may, h.zr⟩, s4, by dsimp only; omega⟩
end
theorem Sd0.zero : Sd0 d0 0 rec0 := ⟨Ss.zero _, fun e => (by cases e), fun e => absurd e (by omega), fun _ => rfl⟩
theorem on0 : d0.off = false := rfl
theorem op0 : (dOp d0).e = 0 ∧ (dOp d0).b = ⟨⟨1, 16, 4⟩, 0, 0⟩ ∧ (dOp d0).d.writes = 2 ∧ (dOp d0).d.off = false ∧ Lv (dOp d0).d 1 ⟨⟨1, 16, 4⟩, 0, 0⟩ ∧ (dOp d0).d.fused = false := by
 have hr := Sd0.zero.nr on0
 have e : dOp d0 = ⟨(dSv d0 ⟨1, 16, 4⟩).1, (dSv d0 ⟨1, 16, 4⟩).2, ⟨⟨1, 16, 4⟩, 0, 0⟩⟩ := by
   rw [dOp, if_neg (by rw [on0]; decide), hr, if_neg (by decide)]
   rfl
 have hd : dSv d0 ⟨1, 16, 4⟩ = (0, ⟨put2 d0.l 0 (slB ⟨1, 16, 4⟩ 1), false, false, 0, 2⟩) := by
   rw [(Ss.zero rec0).dsv on0 (by decide) (by omega), dW2_ok on0 (by omega) (slB_len _ _) (fun h => by cases h)]
   rfl
 rcases Sd0.zero.open on0 (by decide) (by omega) with ⟨h1, h2, _⟩ | ⟨h1, _⟩
 · refine ⟨h1, by rw [e], by rw [e]; dsimp only; rw [hd], by rw [e]; dsimp only; rw [hd], ?_, by rw [e]; dsimp only; rw [hd]⟩
   have e2 : (dOp d0).b = ⟨⟨1, 16, 4⟩, 0, 0⟩ := by rw [e]
   rw [e2] at h2
   exact h2
 · rw [e] at h1
   dsimp only at h1
   rw [hd] at h1
   exact absurd h1 (by decide)
structure Df where
 x : N3
 did : Bool
 e : Int
 l : List N3
 d : Dst
 b : Bo
def dDf (l : List N3) (self : Int) (d : Dst) (b : Bo) : Df :=
 match dueN l self with
 | none => ⟨(0, 0, 0), false, 0, l, d, b⟩
 | some x => if (dRa d b x.2.1).e = 0 then ⟨x, true, 0, tke l x, (dRa d b x.2.1).d, (dRa d b x.2.1).b⟩ else ⟨(0, 0, 0), false, (dRa d b x.2.1).e, l, (dRa d b x.2.1).d, (dRa d b x.2.1).b⟩
def Df.v (f : Df) : Value := .tuple #[nt f.x.1 f.x.2.1 f.x.2.2, .bool f.did, .int .i64 f.e]
theorem due_tk {l : List N3} {self : Int} {x : N3} (hb : Bok l) (hl : l.length ≤ 100) (h : dueN l self = some x) : tkb l x = true ∧ x.1 = self ∧ 0 ≤ self ∧ self < (l.length : Int) ∧ 1 ≤ x.2.1 ∧ x.2.1 ≤ 1048576 ∧ x.2.2 = 1 := by
 by_cases hi : 0 ≤ self ∧ self < (l.length : Int)
 case neg => rw [dueN_out hi] at h; cases h
 obtain ⟨i, rfl⟩ : ∃ i : Nat, self = (i : Int) := ⟨self.toNat, by omega⟩
 obtain ⟨⟨o, t, k⟩, hx⟩ : ∃ x, l[i]? = some x := ⟨_, List.getElem?_eq_getElem (by omega)⟩
 obtain ⟨ho, hr⟩ := hb i _ hx
 dsimp only at ho
 subst ho
 have ht : ¬ (t < 0 ∨ 1048576 < t) := fun e => hr (rk_lo e)
 rw [dueN_in hx] at h
 dsimp only at h
 split at h
 case isFalse => cases h
 rename_i hk
 obtain rfl := (Option.some.inj h).symm
 obtain ⟨rfl, hk2⟩ := hk
 have hr2 : rkx ((i : Int), t + 1, 1) = 2 * (t + 1) := (show rk (t + 1) 1 = 2 * (t + 1) from rk_m (by omega))
 have hv : vlx l.length ((i : Int), t + 1, 1) = true := vlx_iff.2 ⟨by omega, hl, by dsimp only; omega, by dsimp only; omega, by rw [hr2]; omega⟩
 refine ⟨?_, rfl, by omega, by omega, by dsimp only; omega, by dsimp only; omega, rfl⟩
 unfold tkb
 rw [hv, bat_iff hb hv, Bool.true_and]
 refine decide_eq_true ?_
 rw [hr2]
 dsimp only
 rw [Int.toNat_natCast, rkl_some hx]
 show rk t 2 < _
 rw [rk_s ht]
 omega
section
variable {w W : World} {bp g q p n : Nat} {l : List N3} {b : Bo} {d : Dst} {a : Addr} {P : Option Addr}
theorem Bk.low (h : Bk w bp g l) (hb : Below n w W) (h1 : bp < n) (h2 : g < n) : Bk W bp g l := ⟨(hb.block _ h1).trans h.obj, (hb.block _ h2).trans h.row⟩
theorem Bt.low (h : Bt w q P b) (hb : Below n w W) (h1 : q < n) : Bt W q P b := (hb.block _ h1).trans h
theorem Dk.low (h : Dk w p d) (hb : Below n w W) (h1 : p < n) : Dk W p d := ⟨(hb.block _ h1).trans h.obj, h.len, h.byt⟩
theorem Td.low {V : World} (h : Below w.heap.size w W) (ht : Td g q p W V) {U : World} (hb : Below w.heap.size V U) : Td g q p w U :=
 ⟨hb.os.trans (ht.os.trans h.os), hb.tape.trans (ht.tape.trans h.tape), hb.output.trans (ht.output.trans h.output), Nat.le_trans h.size (Nat.le_trans ht.size hb.size), fun k hk h1 h2 h3 => (hb.block k hk).trans ((ht.block k (Nat.lt_of_lt_of_le hk h.size) h1 h2 h3).trans (h.block k hk))⟩
theorem defend_any (h : Bk w bp g l) (hbo : Bok l) (hl : l.length ≤ 100) (hB : Bt w q (some ⟨p, 0, none⟩) b) (hD : Dk w p d) (hf : Fz d) (hw0 : 0 ≤ d.writes) (hw : d.writes ≤ 4611686018427387903) (hs : Sn w a) (g0 : 1 < g) (q0 : 1 < q) (p0 : 1 < p) (self : Int) :
   Calls Tryz.prog 87 #[.pointer (some ⟨bp, 0, none⟩), .int .i64 self, .pointer (some ⟨q, 0, none⟩)] w fun e w' => e = .returned (dDf l self d b).v ∧ Bk w' bp g (dDf l self d b).l ∧ Dk w' p (dDf l self d b).d ∧ Bt w' q (some ⟨p, 0, none⟩) (dDf l self d b).b ∧ Td g q p w w' := by
 have hdu : ∀ W, Below w.heap.size w W → Calls Tryz.prog 125 #[.agg #[.pointer (some ⟨bp, 0, none⟩), .int .i64 self]] W fun e w' => e = .returned (dueV (dueN l self)) ∧ Below W.heap.size W w' := fun W hW => due_any (h.carry hW) hbo self
 rcases hdn : dueN l self with _ | x
 · rw [hdn] at hdu
   have e : dDf l self d b = ⟨(0, 0, 0), false, 0, l, d, b⟩ := by unfold dDf; rw [hdn]
   rw [e]
   exact (defend_no _ _ self (.inr ⟨bp, rfl⟩) hdu).mono (by
     rintro e w' ⟨rfl, hb⟩
     exact ⟨rfl, h.carry hb, hD.carry hb, hB.carry hb, Td.of _ _ _ hb⟩)
 rw [hdn] at hdu
 obtain ⟨htk, -⟩ := due_tk hbo hl hdn
 have e : dDf l self d b = if (dRa d b x.2.1).e = 0 then ⟨x, true, 0, tke l x, (dRa d b x.2.1).d, (dRa d b x.2.1).b⟩ else ⟨(0, 0, 0), false, (dRa d b x.2.1).e, l, (dRa d b x.2.1).d, (dRa d b x.2.1).b⟩ := by unfold dDf; rw [hdn]
 rw [e]
 have hpl := h.plt
 have hgl := h.glt
 have hql := zla hB
 have hdl := hD.lt
 by_cases he : (dRa d b x.2.1).e = 0
 · rw [if_pos he]
   refine (defend_of (w := w) bp (.pointer (some ⟨q, 0, none⟩)) self x 0 (fun W V => Bk V bp g (tke l x) ∧ Dk V p (dRa d b x.2.1).d ∧ Bt V q (some ⟨p, 0, none⟩) (dRa d b x.2.1).b ∧ Td g q p W V) ?_ hdu ?_).mono ?_
   · rintro W V hW ⟨_, _, _, ht⟩ k hk1 hk2
     exact ht.block k hk2 (by omega) (by omega) (by omega)
   · intro W hW
     exact durably_ok (h.carry hW) (hB.carry hW) (hD.carry hW) hf hw0 hw (hs.carry hW) g0 q0 p0 self x.1 x.2.1 x.2.2 htk he
   · rintro e w' ⟨rfl, W, V, hW, ⟨k1, k2, k3, k4⟩, hV⟩
     exact ⟨by unfold DfV Df.v; rw [if_pos rfl], k1.low hV hpl hgl, k2.low hV hdl, k3.low hV hql, Td.low hW k4 hV⟩
 · rw [if_neg he]
   refine (defend_of (w := w) bp (.pointer (some ⟨q, 0, none⟩)) self x (dRa d b x.2.1).e (fun W V => Bk V bp g l ∧ Dk V p (dRa d b x.2.1).d ∧ Bt V q (some ⟨p, 0, none⟩) (dRa d b x.2.1).b ∧ Tq p q W V) ?_ hdu ?_).mono ?_
   · rintro W V hW ⟨_, _, _, ht⟩ k hk1 hk2
     exact ht.block k hk2 (by omega) (by omega)
   · intro W hW
     exact durably_no (h.carry hW) (hB.carry hW) (hD.carry hW) hf hw0 hw self x.1 x.2.1 x.2.2 he
   · rintro e w' ⟨rfl, W, V, hW, ⟨k1, k2, k3, k4⟩, hV⟩
     exact ⟨by unfold DfV Df.v; rw [if_neg he], k1.low hV hpl hgl, k2.low hV hdl, k3.low hV hql, Td.low hW (Td.tq g k4) hV⟩
end
attribute [local go_sem] Oper.semAt_some
def dbF (l : List N3) (i : Nat) : Option N3 := match l[i]? with
 | some x => if x.2.2 = 1 then some ((i : Int), x.2.1, 2) else none
 | none => none
def dbs (l : List N3) (pre : List Nat) : List N3 := pre.filterMap (dbF l)
theorem dbs_snoc (l : List N3) (pre : List Nat) (x : Nat) : dbs l (pre ++ [x]) = dbs l pre ++ (dbF l x).toList := by
 unfold dbs
 rw [List.filterMap_append]
 cases h : dbF l x <;> simp [h]
theorem dbs_len (l : List N3) (pre : List Nat) : (dbs l pre).length ≤ pre.length := List.length_filterMap_le _ _
theorem wpListIn_store_run {F : Fence} {n : Nat} {P : Program} {ops : Array Oper} {rest : List Oper} {o : Oper} {a : Act} {w : World} {Q : Exit → Act → World → Prop} (hg : o.guard = none) (ty : TypeId) (x y : Operand) (ho : o.op = .store ty x y) (vx vy : Value) (hx : a.eval x = vx) (hy : a.eval y = vy)
  (w' : World) (hr : (Instr.storeAt ty vx vy).run P w = .ok () w') (h : wpListIn F n P ops Q rest (a.put o.dst undef) w') : wpListIn F n P ops Q (o :: rest) a w := by
 refine wpListIn_plain hg fun K hK => ?_
 unfold Oper.wpIn
 refine ⟨by simp [Oper.about, ho], ?_⟩
 rw [Oper.semAt_plain F _ _ (by rw [ho]; intro c hc'; cases hc')]
 simp [execOp, ho, hx, hy, hr, Result.andThen]
 exact hK _ _ h
theorem doubts_in {w : World} {p g : Nat} {l : List N3} (h : Bk w p g l) (M0 : Nat) (hT : Tab w) : CallsIn Fence.wide 0 Tryz.prog 135 #[.pointer (some ⟨p, 0, none⟩), sv M0] w fun e w' => ∃ v, e = .returned v ∧ Made w w' v (dbs l (idsTo (cln M0) 128)) ∧ Below w.heap.size w w' := by
 obtain ⟨ic, hic, hz0, hz1, hz2⟩ := info_partsN
 have hal := all_any M0
 obtain ⟨M, hM⟩ : ∃ M, cln M0 = M := ⟨_, rfl⟩
 rw [hM]
 simp only [hM] at hal
 clear hM
 have hidl : (idsTo M 128).length ≤ 128 := by rw [idsTo_length]; exact cnt_le _
 simp only [sv] at hal ⊢
 refine callsIn_of_wp_marks Tryz.func135 rfl trivial ?_ rfl
 simp only [Tryz.ntmps135, List.size_toArray, List.length_cons, List.length_nil, Nat.reduceAdd, Nat.reduceSub, Array.replicate_succ, Array.replicate_zero, List.push_toArray, List.append_toArray, List.nil_append, List.cons_append]
 gi_wp2
 with_reducible (refine And.intro (wfn _) (And.intro wdep ?_))
 refine (callsIn_wide.2 (hal _)).mono ?_
 rintro e W0 ⟨rfl, hb, hh⟩
 have zz : w.heap.size + 4 ≤ W0.heap.size := by have := hh.lt; simp at this; omega
 have b0 : Below w.heap.size w W0 := bel2 (bel2 (bel2 (al1' _ _) (al1' _ _)) (al1' _ _)) hb
 have p0 : Boxed W0 w.heap.size 79 (.pointer (some ⟨p, 0, none⟩)) := (hb.block _ (by simp; omega)).trans (zoa (zoa (zna rfl)))
 have v0 : Boxed W0 (w.heap.size + 1 + 1) 36 (.slice none 0 0) := (hb.block _ (by simp)).trans (zna (by simp))
 have o0 : W0.ownsRow w.heap.size 65 3 (.slice none 0 0) 0 [] := World.ownsRow_nil _ _ _ _
 have hh' : Zh4 W0 (w.heap.size + 1 + 1 + 1) (wd M) := by simpa using hh
 clear hb hal
 gi_wp2
 refine wp_rangeE (kb := 0) (gf := 172) (lb := #[.pointer (some ⟨w.heap.size + 1 + 1 + 1, 0, none⟩)]) rfl (enters_of Tryz.func172 (by kernel_rfl) rfl)
  (all1_seq M (w.heap.size + 1 + 1 + 1) _ hh') (by omega) (fun _ => rfl)
  (fun pre W => (∃ v, Boxed W (w.heap.size + 1 + 1) 36 v ∧ W.ownsRow w.heap.size 65 3 v (dbs l pre).length (fl (dbs l pre)) ∧ ∀ q, v.ownBlock = some q → W0.heap.size + 2 ≤ q) ∧ Boxed W w.heap.size 79 (.pointer (some ⟨p, 0, none⟩)) ∧ Below w.heap.size w W)
  (fun _ _ _ => False)
  (OwnFrom.and ((rowBoxP_own _ _ _ _ _ (fun pre : List Nat => (dbs l pre).length) (fun pre => fl (dbs l pre)) _).from _) (OwnFrom.and ((boxed_own _ _ (fun _ : List Nat => (.pointer (some ⟨p, 0, none⟩)))).from _) (ownFrom_below (Nat.le_refl _) (by omega))))
  (fun _ _ _ _ _ hs _ _ => hs)
  ⟨⟨_, v0, o0, fun q e => by cases e⟩, p0, b0⟩ (fun _ W h => hT.keep h.2.2 hT.lt)
  (fun x a' _ => a' = { tmps := #[.pointer (some ⟨p, 0, none⟩), sv M0, .pointer (some ⟨w.heap.size, 0, none⟩), .pointer (some ⟨w.heap.size + 1, 0, none⟩), .slice none 0 0, .pointer (some ⟨w.heap.size + 1 + 1, 0, none⟩), .int .i64 (x : Nat), undef, undef, sv M0, .func (.func 172) #[] #[.pointer (some ⟨w.heap.size + 1 + 1 + 1, 0, none⟩)], .int .i64 (x : Nat), undef, undef, undef, undef, undef, undef, undef, undef, undef, undef, undef, undef, undef, undef, undef, undef, undef, undef, undef, undef, undef], defers := [] })
  (fun _ _ _ _ _ _ hs _ _ => hs) ?assign ?body ?done ?stop
 case assign =>
  rintro l2 pre x W K hi hsz hK
  gi_wp2
  exact hK _ _ (Kept.refl _ _ _ _) hi rfl
 case body =>
  rintro l2 pre x a' W ⟨⟨v, hv, hrow, hq⟩, hp, hb⟩ rfl hsz hpr
  have hpl : (pre ++ [x]).length ≤ (idsTo M 128).length := hpr.length_le
  have hdl := dbs_len l pre
  simp only [List.length_append, List.length_cons, List.length_nil] at hpl
  have hcp := hp.cell
  have hat := at_any (h.carry (bel2 (Below.refl _ w) hb)) (x : Int)
  have hsn := dbs_snoc l pre x
  have hbs := hb.size
  by_cases hx : x < l.length
  case neg =>
    have hat' : atV l (x : Int) = .tuple #[nt 0 0 0, .int .i64 30] := if_neg (by omega)
    have hF : dbF l x = none := by unfold dbF; rw [List.getElem?_eq_none (by omega)]
    rw [hF] at hsn
    simp only [Option.toList_none, List.append_nil] at hsn
    rw [hat'] at hat
    clear hat' hF
    gi_wp2_with (first
      | (refine ⟨trivial, rfl, ?_⟩; gi_at_call 149; refine (callsIn_wide.2 hat).mono ?_; rintro e u1 ⟨rfl, hb1⟩; obtain ⟨u2, hu2⟩ : ∃ u2, u1.alloc (.cells #[.int .i64 0, .int .i64 0, .int .i64 0] 65) = u2 := ⟨_, rfl⟩; have k1 : NB u2 u1.heap.size 0 0 0 := (by rw [← hu2]; exact NB.new _ _ _ _); have k2 : Hid (Below W.heap.size W u2) := (by rw [← hu2]; exact bel2 hb1 (al1' _ _)); have k3 : W.heap.size ≤ u1.heap.size := hb1.size)
      | (refine wpListIn_store_run rfl 65 (.tmp 7) (.tmp 16) rfl _ _ rfl rfl _ (store_nt k1 0 0 0) ?_; obtain ⟨u3, hu3⟩ : ∃ u3, W3 u2 u1.heap.size 0 0 0 = u3 := ⟨_, rfl⟩; have k4 : Hid (Below W.heap.size W u3) := (by rw [← hu3]; exact ((k2.out.setCell k3 _).setCell k3 _).setCell k3 _); rw [hu3]))
    refine ⟨Kept.below k4.out (by omega) (by omega), ⟨v, (k4.out.block _ hv.lt).trans hv, ?_, hq⟩, (k4.out.block _ hp.lt).trans hp, bel2 hb k4.out⟩
    rw [hsn]
    exact zrb hrow k4.out
  obtain ⟨⟨yo, yt, yk⟩, hy⟩ : ∃ y, l[x]? = some y := ⟨_, List.getElem?_eq_getElem hx⟩
  rw [atV_in hy] at hat
  have hF : dbF l x = if yk = 1 then some ((x : Int), yt, 2) else none := by unfold dbF; rw [hy]
  rw [hF] at hsn
  clear hF
  dsimp only at hat
  by_cases hk1 : yk = 1
  case neg =>
    rw [if_neg hk1] at hsn
    simp only [Option.toList_none, List.append_nil] at hsn
    have hk2 : (yk == 1) = false := by simpa using hk1
    gi_wp2_with (first
      | (refine ⟨trivial, rfl, ?_⟩; gi_at_call 149; refine (callsIn_wide.2 hat).mono ?_; rintro e u1 ⟨rfl, hb1⟩; obtain ⟨u2, hu2⟩ : ∃ u2, u1.alloc (.cells #[.int .i64 0, .int .i64 0, .int .i64 0] 65) = u2 := ⟨_, rfl⟩; have k1 : NB u2 u1.heap.size 0 0 0 := (by rw [← hu2]; exact NB.new _ _ _ _); have k2 : Hid (Below W.heap.size W u2) := (by rw [← hu2]; exact bel2 hb1 (al1' _ _)); have k3 : W.heap.size ≤ u1.heap.size := hb1.size)
      | (refine wpListIn_store_run rfl 65 (.tmp 7) (.tmp 16) rfl _ _ rfl rfl _ (store_nt k1 yo yt yk) ?_; obtain ⟨u3, hu3⟩ : ∃ u3, W3 u2 u1.heap.size yo yt yk = u3 := ⟨_, rfl⟩; have k4 : Hid (Below W.heap.size W u3) := (by rw [← hu3]; exact ((k2.out.setCell k3 _).setCell k3 _).setCell k3 _); have k5 : NB u3 u1.heap.size yo yt yk := (by rw [← hu3]; exact k1.set _ _ _); rw [hu3]; have n1 := k5.c1; have n2 := k5.c2))
    refine ⟨Kept.below k4.out (by omega) (by omega), ⟨v, (k4.out.block _ hv.lt).trans hv, ?_, hq⟩, (k4.out.block _ hp.lt).trans hp, bel2 hb k4.out⟩
    rw [hsn]
    exact zrb hrow k4.out
  rw [if_pos hk1] at hsn
  simp only [Option.toList_some] at hsn
  subst hk1
  gi_wp2_with (first
    | (refine ⟨trivial, rfl, ?_⟩; gi_at_call 149; refine (callsIn_wide.2 hat).mono ?_; rintro e u1 ⟨rfl, hb1⟩; obtain ⟨u2, hu2⟩ : ∃ u2, u1.alloc (.cells #[.int .i64 0, .int .i64 0, .int .i64 0] 65) = u2 := ⟨_, rfl⟩; have k1 : NB u2 u1.heap.size 0 0 0 := (by rw [← hu2]; exact NB.new _ _ _ _); have k2 : Hid (Below W.heap.size W u2) := (by rw [← hu2]; exact bel2 hb1 (al1' _ _)); have k3 : W.heap.size ≤ u1.heap.size := hb1.size)
    | (refine wpListIn_store_run rfl 65 (.tmp 7) (.tmp 16) rfl _ _ rfl rfl _ (store_nt k1 yo yt 1) ?_; obtain ⟨u3, hu3⟩ : ∃ u3, W3 u2 u1.heap.size yo yt 1 = u3 := ⟨_, rfl⟩; have k4 : Hid (Below W.heap.size W u3) := (by rw [← hu3]; exact ((k2.out.setCell k3 _).setCell k3 _).setCell k3 _); have k5 : NB u3 u1.heap.size yo yt 1 := (by rw [← hu3]; exact k1.set _ _ _); rw [hu3]; have n1 := k5.c1; have n2 := k5.c2; have hv1 : Boxed u3 (w.heap.size + 1 + 1) 36 v := (k4.out.block _ hv.lt).trans hv; have hrow1 := zrb hrow k4.out; have hp1 : Boxed u3 w.heap.size 79 (.pointer (some ⟨p, 0, none⟩)) := (k4.out.block _ hp.lt).trans hp; have hbw1 := bel2 hb k4.out; have hcv1 := hv1.cell; have hz3 : W.heap.size ≤ u3.heap.size := k4.out.size)
    | (gi_at_builtin; refine wpListIn_append_own_at _ rfl _ _ 36 rfl w.heap.size 65 ic _ 3 24 Tryz.underlying36 hic hz0 hz1 hz2 rfl (by decide) _ _ _ rfl (hrow1.alloc _) ⟨u3.heap.size, 0, none⟩ 1 1 [_, _, _] rfl rfl (rowN _ #[_, _, _] _) (by simp [Value.oneCell']) (by unfold maxLen; omega) (by omega) (Nat.le_trans hbw1.size (by simp)) ?_; intro v' w2 hown' hgrow _ hob; obtain ⟨g', cap', rfl⟩ := ownsRow_succ hown'; have hv2 : Boxed w2 (w.heap.size + 1 + 1) 36 v := (hv1.alloc _).kept hgrow (fun e' => by have := hq _ e'.symm; omega); have hp2 := (hp1.alloc (.cells #[.int .i64 (x : Int), .int .i64 yt, .int .i64 2] 65)).kept hgrow (fun e' => by have := hq _ e'.symm; omega); have hc2 := hv2.cell; have hfz2 := hv2.frozen))
  refine ⟨?_, ⟨_, hv2.set _, ?_, ?_⟩, ?_, ?_⟩
  · refine (((Kept.below k4.out (by omega) (by omega)).trans (Kept.below (al1' _ _) (by omega) (by omega))).trans (Kept.grown hgrow (by simp; omega) (by simp; omega) (fun q hq' => ?_))).trans (Kept.setCell (by omega) (by omega))
    have := hq q hq'
    omega
  · rw [hsn, fl_append, List.length_append]
    refine ownsRow_set hown' (fun q hq' => ?_) _
    rcases hob with e | e
    · have := hq q (e ▸ hq'); omega
    · rw [e] at hq'; simp at hq'; omega
  · intro q hq'
    rcases hob with e | e
    · exact hq q (e ▸ hq')
    · rw [e] at hq'; simp at hq'; omega
  · exact (set_other (by omega)).trans hp2
  · exact ((hbw1.alloc hbw1.size _).grown hgrow (by have := hbw1.size; simp; omega) (fun q hq' => by have := hq q hq'; omega)).setCell (by simp; omega) _
 case done =>
  rintro W ⟨⟨v, hv, hrow, hq⟩, hp, hb⟩ hK
  have hcv := hv.cell
  gi_wp2
  refine ⟨by simp, .inl ⟨_, _, rfl, run_takeDeferred hK, ?_⟩⟩
  exact ⟨v, by simp [results, Tryz.results135, go_sem], v, rfl, ownsRow_putObj hrow _ hK rfl, below_taken _ hb (by omega)⟩
 case stop =>
  rintro c pre W _ h _
  exact h.elim
theorem doubts_any {w : World} {p g : Nat} {l : List N3} (h : Bk w p g l) (M0 : Nat) (hT : Tab w) : Calls Tryz.prog 135 #[.pointer (some ⟨p, 0, none⟩), sv M0] w fun e w' => ∃ v, e = .returned v ∧ Made w w' v (dbs l (idsTo (cln M0) 128)) ∧ Below w.heap.size w w' := callsIn_wide.1 (doubts_in h M0 hT)
end Go.Proofs.YtekjhcnaabpfmaaGreatDoor
