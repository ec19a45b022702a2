/- refute's take and durably: what they answer. -/
import Derived.Test.YtlpmehmoeladjaaGreatDoorJnJ11
import Derived.Test.YtlpmehmoeladjaaGreatDoorJnJ19
import Derived.LaidEql
import Derived.Deep.RegionWith
namespace Go.Proofs.YtlpmehmoeladjaaGreatDoor
open Go.RowKit Go.Shelf Go.Lib

/-- What turns a book's list, a boot and its disk alone. -/
structure Td (g q p : Nat) (W W' : World) : Prop where
  os : W'.os = W.os
  tape : W'.tape = W.tape
  output : W'.output = W.output
  size : W.heap.size ≤ W'.heap.size
  block : ∀ k, k < W.heap.size → k ≠ g → k ≠ q → k ≠ p → W'.heap[k]? = W.heap[k]?
section
variable {g q p base : Nat} {W W' W'' : World}
theorem Td.of (g q p : Nat) (hb : Below W.heap.size W W') : Td g q p W W' := ⟨hb.os, hb.tape, hb.output, hb.size, fun k hk _ _ _ => hb.block k hk⟩
theorem Td.tq (g : Nat) (h : Tq p q W W') : Td g q p W W' := ⟨h.os, h.tape, h.output, h.size, fun k hk _ h1 h2 => h.block k hk h2 h1⟩
theorem Td.gr (q p : Nat) (h : W.grownBy W' (some g)) : Td g q p W W' := ⟨h.os, h.tape, h.output, h.size, fun k hk h1 _ _ => h.block k hk (by simpa using h1)⟩
theorem Td.trans (h : Td g q p W W') (k : Td g q p W' W'') : Td g q p W W'' :=
  ⟨k.os.trans h.os, k.tape.trans h.tape, k.output.trans h.output, Nat.le_trans h.size k.size, fun j hj h1 h2 h3 => (k.block j (Nat.lt_of_lt_of_le hj h.size) h1 h2 h3).trans (h.block j hj h1 h2 h3)⟩
theorem Td.below (h : Td g q p W W') (hg : base ≤ g) (hp : base ≤ p) (hq : base ≤ q) (hb : base ≤ W.heap.size) : Below base W W' :=
  ⟨h.os, h.tape, h.output, h.size, fun k hk => h.block k (by omega) (by omega) (by omega) (by omega)⟩
end
/-- What the package's own error is. -/
def Sn (W : World) (a : Addr) : Prop := W.cell? ⟨0, 0, none⟩ = some (.iface 176 (.pointer (some a)))
section
variable {a : Addr} {g q p : Nat} {W W' : World}
theorem Sn.lt (h : Sn W a) : 0 < W.heap.size := World.block_lt_of_cell? _ _ h
theorem Sn.same (h : Sn W a) (he : W'.heap[0]? = W.heap[0]?) : Sn W' a := by
  unfold Sn at *
  simp only [World.cell?] at h ⊢
  rw [he]
  exact h
theorem Sn.carry (h : Sn W a) (hb : Below W.heap.size W W') : Sn W' a := h.same (hb.block 0 h.lt)
theorem Sn.td (h : Sn W a) (ht : Td g q p W W') (h1 : 0 < g) (h2 : 0 < q) (h3 : 0 < p) : Sn W' a := h.same (ht.block 0 h.lt (by omega) (by omega) (by omega))
theorem Sn.drew (h : Sn W a) : Sn W.drew a := h
theorem Bk.tq {l : List N3} {b : Bo} {d : Dst} {P : Option Addr} {bp : Nat} (h : Bk W bp g l) (hb : Bt W q P b) (hd : Dk W p d) (ht : Tq p q W W') : Bk W' bp g l := by
  have n1 : bp ≠ p := fun e => by
    have := h.obj; rw [e, hd.obj] at this
    injection (Option.some.inj this) with _ e2; exact absurd e2 (by decide)
  have n2 : bp ≠ q := fun e => by
    have := h.obj; rw [e, show W.heap[q]? = _ from hb] at this
    injection (Option.some.inj this) with _ e2; exact absurd e2 (by decide)
  have n3 : g ≠ p := fun e => by
    have := h.row; rw [e, hd.obj] at this
    injection (Option.some.inj this) with _ e2; exact absurd e2 (by decide)
  have n4 : g ≠ q := fun e => by
    have := h.row; rw [e, show W.heap[q]? = _ from hb] at this
    injection (Option.some.inj this) with _ e2; exact absurd e2 (by decide)
  exact ⟨(ht.block _ h.plt n1 n2).trans h.obj, (ht.block _ h.glt n3 n4).trans h.row⟩
theorem Bt.gr {l : List N3} {b : Bo} {P : Option Addr} {bp : Nat} (hb : Bt W q P b) (h : Bk W bp g l) (hg : W.grownBy W' (some g)) : Bt W' q P b :=
  (hg.block _ (lt_at hb) (by
    intro e
    have e' : q = g := by simpa using e
    have := h.row; rw [← e', show W.heap[q]? = _ from hb] at this
    injection (Option.some.inj this) with _ e2; exact absurd e2 (by decide))).trans hb
theorem Dk.gr {l : List N3} {d : Dst} {bp : Nat} (hd : Dk W p d) (h : Bk W bp g l) (hg : W.grownBy W' (some g)) : Dk W' p d :=
  ⟨(hg.block _ hd.lt (by
    intro e
    have e' : p = g := by simpa using e
    have := h.row; rw [← e', hd.obj] at this
    injection (Option.some.inj this) with _ e2; exact absurd e2 (by decide))).trans hd.obj, hd.len, hd.byt⟩
end
theorem is_nil (b : Addr) (w : World) : Calls Tryz.prog 69 #[.nilIface, .iface 176 (.pointer (some b))] w fun e w' => e = .returned (.bool false) ∧ w' = w := by
  have hn := run_eql_iface_nil_left (P := Tryz.prog) w 176 (.pointer (some b)) Tryz.underlying135
  go_enter Tryz.func69, Tryz.ntmps69
  go_wp2
  go_ret
  exact ⟨rfl, rfl⟩
set_option maxHeartbeats 1000000 in
set_option maxRecDepth 100000 in
theorem dtake_any {w : World} {p g : Nat} {l : List N3} (h : Bk w p g l) (self o t k : Int) (ht : tkb l (o, t, k) = true) : Calls Tryz.prog 46 #[.agg #[.pointer (some ⟨p, 0, none⟩), .int .i64 self], nt o t k] w fun e w' => e = .returned .nilIface ∧ Bk w' p g (tke l (o, t, k)) ∧ w.grownBy w' (some g) := by
  obtain ⟨w1, hw1⟩ : ∃ w1, (w.alloc (.cells #[.pointer (some ⟨p, 0, none⟩), .int .i64 self] 103)).alloc (.cells #[.int .i64 o, .int .i64 t, .int .i64 k] 60) = w1 := ⟨_, rfl⟩
  have hb1 : Below w.heap.size w w1 := by rw [← hw1]; exact al2 _ _ _
  have h1 := take_any (h.carry hb1) o t k
  rw [ht] at h1
  obtain ⟨E, hE⟩ : ∃ E : Int, (if vlx l.length (o, t, k) = true then (0 : Int) else 50) = E := ⟨_, rfl⟩
  rw [hE] at h1
  obtain ⟨M, hM⟩ : ∃ M, tke l (o, t, k) = M := ⟨_, rfl⟩
  rw [hM] at h1 ⊢
  clear hE hM ht
  have hd : w1.heap[w.heap.size]? = some (.cells #[.pointer (some ⟨p, 0, none⟩), .int .i64 self] 103 (0, 0)) := by rw [← hw1]; exact old_at (new_at rfl)
  have e0 := cell_at hd 0
  simp at e0
  have hn : NB w1 (w.heap.size + 1) o t k := by rw [← hw1]; exact NB.at _ _ _ (by simp)
  have c0 := hn.c0
  have c1 := hn.c1
  have c2 := hn.c2
  unfold nt at *
  go_enter Tryz.func46, Tryz.ntmps46
  go_wp2_with (go_at_call 24; (with_reducible refine h1.mono ?_); rintro e u1 ⟨rfl, hk1, hg1⟩)
  go_ret
  exact ⟨rfl, hk1, grown_then hb1 hg1⟩
end Go.Proofs.YtlpmehmoeladjaaGreatDoor
namespace Go.Proofs.YtlpmehmoeladjaaGreatDoor
open Go.RowKit Go.Shelf Go.Lib

section
variable {w : World} {bp g q p : Nat} {l : List N3} {b : Bo} {d : Dst} {a : Addr}
set_option maxHeartbeats 1000000 in
set_option maxRecDepth 100000 in
theorem durably_no (h : Bk w bp g l) (hB : Bt w q (some ⟨p, 0, none⟩) b) (hD : Dk w p d) (hf : Fz d) (hw0 : 0 ≤ d.writes) (hw : d.writes ≤ 4611686018427387903) (self o t k : Int) (he : (dRa d b t).e ≠ 0) : Calls Tryz.prog 45 #[.pointer (some ⟨q, 0, none⟩), nt o t k, .func (.func 46) #[.agg #[.pointer (some ⟨bp, 0, none⟩), .int .i64 self]] #[]] w fun e w' => e = .returned (.int .i64 (dRa d b t).e) ∧ Bk w' bp g l ∧ Dk w' p (dRa d b t).d ∧ Bt w' q (some ⟨p, 0, none⟩) (dRa d b t).b ∧ Tq p q w w' := by
  obtain ⟨w1, hw1⟩ : ∃ w1, w.alloc (.cells #[.int .i64 o, .int .i64 t, .int .i64 k] 60) = w1 := ⟨_, rfl⟩
  have hb1 : Below w.heap.size w w1 := by rw [← hw1]; exact al1 _ _
  have hn : NB w1 w.heap.size o t k := by rw [← hw1]; exact NB.new _ _ _ _
  have c0 := hn.c0
  have c1 := hn.c1
  have c2 := hn.c2
  have h1 := h.carry hb1
  have hB1 := hB.carry hb1
  have hD1 := hD.carry hb1
  have hr := braise_any hB1 hD1 hf hw0 hw t
  obtain ⟨E, hE⟩ : ∃ E, (dRa d b t).e = E := ⟨_, rfl⟩
  obtain ⟨D2, hD2⟩ : ∃ D2, (dRa d b t).d = D2 := ⟨_, rfl⟩
  obtain ⟨B2, hB2⟩ : ∃ B2, (dRa d b t).b = B2 := ⟨_, rfl⟩
  rw [hE] at hr he ⊢
  rw [hD2, hB2] at hr ⊢
  have he' : (E != 0) = true := by simpa using he
  clear hE hD2 hB2 he
  unfold nt at *
  go_enter Tryz.func45, Tryz.ntmps45
  go_wp2_with (go_at_call 68; (with_reducible refine hr.mono ?_); rintro e u1 ⟨rfl, k1, k2, k3⟩)
  go_ret
  exact ⟨rfl, h1.tq hB1 hD1 k3, k1, k2, (Tq.of _ _ hb1).trans k3⟩
set_option maxHeartbeats 4000000 in
set_option maxRecDepth 100000 in
theorem durably_ok (h : Bk w bp g l) (hB : Bt w q (some ⟨p, 0, none⟩) b) (hD : Dk w p d) (hf : Fz d) (hw0 : 0 ≤ d.writes) (hw : d.writes ≤ 4611686018427387903) (hs : Sn w a) (g0 : 0 < g) (q0 : 0 < q) (p0 : 0 < p) (self o t k : Int) (ht : tkb l (o, t, k) = true) (he : (dRa d b t).e = 0) : Calls Tryz.prog 45 #[.pointer (some ⟨q, 0, none⟩), nt o t k, .func (.func 46) #[.agg #[.pointer (some ⟨bp, 0, none⟩), .int .i64 self]] #[]] w fun e w' => e = .returned (.int .i64 0) ∧ Bk w' bp g (tke l (o, t, k)) ∧ Dk w' p (dRa d b t).d ∧ Bt w' q (some ⟨p, 0, none⟩) (dRa d b t).b ∧ Td g q p w w' := by
  obtain ⟨w1, hw1⟩ : ∃ w1, w.alloc (.cells #[.int .i64 o, .int .i64 t, .int .i64 k] 60) = w1 := ⟨_, rfl⟩
  have hb1 : Below w.heap.size w w1 := by rw [← hw1]; exact al1 _ _
  have hn : NB w1 w.heap.size o t k := by rw [← hw1]; exact NB.new _ _ _ _
  have c0 := hn.c0
  have c1 := hn.c1
  have c2 := hn.c2
  have h1 := h.carry hb1
  have hB1 := hB.carry hb1
  have hD1 := hD.carry hb1
  have hs1 := hs.carry hb1
  have hr := braise_any hB1 hD1 hf hw0 hw t
  have hq := lt_at hB
  have hp := hD.lt
  obtain ⟨D2, hD2⟩ : ∃ D2, (dRa d b t).d = D2 := ⟨_, rfl⟩
  obtain ⟨B2, hB2⟩ : ∃ B2, (dRa d b t).b = B2 := ⟨_, rfl⟩
  rw [he] at hr
  rw [hD2, hB2] at hr ⊢
  have htk := fun (W : World) (hW : Bk W bp g l) => dtake_any hW self o t k ht
  obtain ⟨M, hM⟩ : ∃ M, tke l (o, t, k) = M := ⟨_, rfl⟩
  rw [hM] at htk ⊢
  have hgn : g ≠ w.heap.size := by have := h.glt; omega
  clear hD2 hB2 he hM ht
  unfold nt at *
  go_enter Tryz.func45, Tryz.ntmps45
  go_wp2_with (go_at_call 68; (with_reducible refine hr.mono ?_); rintro e u1 ⟨rfl, k1, k2, k3⟩; have hn1 : NB u1 w.heap.size o t k := (k3.block _ hn.lt (by omega) (by omega)).trans hn; have e0 := hn1.c0; have e1 := hn1.c1; have e2 := hn1.c2; have hs2 : Sn u1 a := hs1.same (k3.block 0 hs1.lt (by omega) (by omega)); have hk1 := h1.tq hB1 hD1 k3; have s2 : u1.cell? ⟨0, 0, none⟩ = some (.iface 176 (.pointer (some a))) := hs2)
  go_region_with (first
    | (go_at_call 46; refine (htk _ (hk1.carry (Below.refl _ _).drew)).mono ?_; rintro e u2 ⟨rfl, hk2, hg2⟩; have s3 : u2.cell? ⟨0, 0, none⟩ = some (.iface 176 (.pointer (some a))) := hs2.same (hg2.block 0 hs2.lt (by simp; omega)))
    | (go_at_call 69; refine (is_nil a _).mono ?_; rintro e u3 ⟨rfl, hu3⟩; obtain rfl := hu3.symm))
  all_goals (try go_wp2)
  all_goals (go_ret)
  all_goals
    have gd : u1.grownBy u2 (some g) := grown_then (Below.refl _ _).drew hg2
    exact ⟨rfl, hk2, k1.gr hk1 gd, k2.gr hk1 gd, (Td.tq g ((Tq.of _ _ hb1).trans k3)).trans (Td.gr q p gd)⟩
end
end Go.Proofs.YtlpmehmoeladjaaGreatDoor
namespace Go.Proofs.YtlpmehmoeladjaaGreatDoor
open Go.RowKit Go.Shelf Go.Lib

theorem retNtt {f : Func} {p q r : Tmp} {R : Ending → World → Prop} {a : Act} {w : World} {b : Nat} {o t k : Int} {x y : Value} (hres : f.results = #[.cell p 60, .tmp q, .tmp r]) (hp : a.tmps.getD p undef = .pointer (some ⟨b, 0, none⟩)) (hq : a.tmps.getD q undef = x) (hr : a.tmps.getD r undef = y) (hd : a.defers = []) (h : NB w b o t k) (hR : R (.returned (.tuple #[nt o t k, x, y])) w) : bodyPost Tryz.prog f R .ret a w := by
  refine bodyPost_ret (v := .tuple #[nt o t k, x, y]) ?_ hd hR
  have hp' : a.tmps[p]?.getD undef = .pointer (some ⟨b, 0, none⟩) := by simpa using hp
  have hq' : a.tmps[q]?.getD undef = x := by simpa using hq
  have hr' : a.tmps[r]?.getD undef = y := by simpa using hr
  have c0 := h.c0
  have c1 := h.c1
  have c2 := h.c2
  simp [results, hres, hp', hq', hr', asAddr]
  unfold nt
  go_simp
set_option maxHeartbeats 1000000 in
set_option maxRecDepth 100000 in
theorem defend_no {w : World} (v m : Value) (self : Int) (hv : v = .pointer none ∨ ∃ p, v = .pointer (some ⟨p, 0, none⟩)) (hd : ∀ W, Below w.heap.size w W → Calls Tryz.prog 44 #[.agg #[v, .int .i64 self]] W fun e w' => e = .returned (dueV none) ∧ Below W.heap.size W w') : Calls Tryz.prog 16 #[v, .int .i64 self, m] w fun e w' => e = .returned (.tuple #[nt 0 0 0, .bool false, .int .i64 0]) ∧ Below w.heap.size w w' := by
  have h1 := hd _ (al2 w (.cells #[.int .i64 0, .int .i64 0, .int .i64 0] 60) (.cells #[v, .int .i64 self] 103))
  unfold dueV nt at *
  clear hd
  rcases hv with rfl | ⟨p, rfl⟩
  all_goals
    go_enter Tryz.func16, Tryz.ntmps16
    go_wp2_with (go_at_call 44; (with_reducible refine h1.mono ?_); rintro e u1 ⟨rfl, hb1⟩; have hn1 : NB u1 w.heap.size 0 0 0 := NB.carry ((NB.new w 0 0 0).old _) hb1; obtain ⟨u2, hu2⟩ : ∃ u2, u1.alloc (.cells #[.int .i64 0, .int .i64 0, .int .i64 0] 60) = u2 := ⟨_, rfl⟩; have hb2 : Below u1.heap.size u1 u2 := (by rw [← hu2]; exact al1 _ _); have hm2 : NB u2 u1.heap.size 0 0 0 := (by rw [← hu2]; exact NB.new _ _ _ _); have c0 := hm2.c0; have c1 := hm2.c1; have c2 := hm2.c2; have z0 := hm2.thaw 0; have z1 := hm2.thaw 1; have z2 := hm2.thaw 2; obtain ⟨u3, hu3⟩ : ∃ u3, W3 u2 u1.heap.size 0 0 0 = u3 := ⟨_, rfl⟩; have hb3 : Below u1.heap.size u1 u3 := (by rw [← hu3]; exact below3 hb2 (Nat.le_refl _) _ _ _); have hn3 := hn1.carry hb3; unfold W3 at hu3; have d0 := hn3.c0; have d1 := hn3.c1; have d2 := hn3.c2; have y0 := hn3.thaw 0; have y1 := hn3.thaw 1; have y2 := hn3.thaw 2)
    exact retNtt rfl rfl rfl rfl rfl (hn3.set 0 0 0) ⟨rfl, below3 (bel2 (bel2 (al2 _ _ _) hb1) hb3) (Nat.le_refl _) _ _ _⟩
/-- Defend, by what durably answers. -/
def DfV (x : N3) (E : Int) : Value := if E = 0 then .tuple #[nt x.1 x.2.1 x.2.2, .bool true, .int .i64 0] else .tuple #[nt 0 0 0, .bool false, .int .i64 E]
set_option maxHeartbeats 1000000 in
set_option maxRecDepth 100000 in
theorem defend_of {w : World} (p : Nat) (m : Value) (self : Int) (x : N3) (E : Int) (Φ : World → World → Prop)
    (hΦ : ∀ W V, Below w.heap.size w W → Φ W V → ∀ k, w.heap.size ≤ k → k < W.heap.size → V.heap[k]? = W.heap[k]?)
    (hd : ∀ W, Below w.heap.size w W → Calls Tryz.prog 44 #[.agg #[.pointer (some ⟨p, 0, none⟩), .int .i64 self]] W fun e w' => e = .returned (dueV (some x)) ∧ Below W.heap.size W w')
    (hu : ∀ W, Below w.heap.size w W → Calls Tryz.prog 45 #[m, nt x.1 x.2.1 x.2.2, .func (.func 46) #[.agg #[.pointer (some ⟨p, 0, none⟩), .int .i64 self]] #[]] W fun e w' => e = .returned (.int .i64 E) ∧ Φ W w') :
    Calls Tryz.prog 16 #[.pointer (some ⟨p, 0, none⟩), .int .i64 self, m] w fun e w' => e = .returned (DfV x E) ∧ ∃ W V, Below w.heap.size w W ∧ Φ W V ∧ Below w.heap.size V w' := by
  have h1 := hd _ (al2 w (.cells #[.int .i64 0, .int .i64 0, .int .i64 0] 60) (.cells #[.pointer (some ⟨p, 0, none⟩), .int .i64 self] 103))
  obtain ⟨o, t, k⟩ := x
  dsimp only at hu
  unfold dueV at h1
  dsimp only at h1
  clear hd
  have HΦ : Hid (∀ W V, Below w.heap.size w W → Φ W V → ∀ k, w.heap.size ≤ k → k < W.heap.size → V.heap[k]? = W.heap[k]?) := hΦ
  have HU : Hid (∀ W, Below w.heap.size w W → Calls Tryz.prog 45 #[m, nt o t k, .func (.func 46) #[.agg #[.pointer (some ⟨p, 0, none⟩), .int .i64 self]] #[]] W fun e w' => e = .returned (.int .i64 E) ∧ Φ W w') := hu
  clear hΦ hu
  by_cases hE : E = 0
  case pos =>
    subst hE
    unfold DfV
    rw [if_pos rfl]
    unfold nt at h1 ⊢
    go_enter Tryz.func16, Tryz.ntmps16
    go_wp2_with (first | (go_at_call 44; (with_reducible refine h1.mono ?_); rintro e u1 ⟨rfl, hb1⟩; have hn1 : NB u1 w.heap.size 0 0 0 := NB.carry ((NB.new w 0 0 0).old _) hb1; have hd1 : u1.heap[w.heap.size + 1]? = some (.cells #[.pointer (some ⟨p, 0, none⟩), .int .i64 self] 103 (0, 0)) := (hb1.block _ (by simp)).trans (new_at (by simp)); obtain ⟨u2, hu2⟩ : ∃ u2, u1.alloc (.cells #[.int .i64 o, .int .i64 t, .int .i64 k] 60) = u2 := ⟨_, rfl⟩; have hb2 : Below u1.heap.size u1 u2 := (by rw [← hu2]; exact al1 _ _); have hw2 : Below w.heap.size w u2 := bel2 (bel2 (al2 _ _ _) hb1) hb2; have hm2 : NB u2 u1.heap.size o t k := (by rw [← hu2]; exact NB.new _ _ _ _); have hn2 := hn1.carry hb2; have hd2 := (hb2.block _ (lt_at hd1)).trans hd1; have c0 := hm2.c0; have c1 := hm2.c1; have c2 := hm2.c2; have f0 := cell_at hd2 0; have f1 := cell_at hd2 1; simp at f0 f1; have h2 := HU.out u2 hw2; unfold nt at h2) | (go_at_call 45; (with_reducible refine h2.mono ?_); rintro e u3 ⟨rfl, hp3⟩; have hk3 := HΦ.out u2 u3 hw2 hp3; have hz1 := hb1.size; simp at hz1; have hm3 : NB u3 u1.heap.size o t k := (hk3 _ (by omega) hm2.lt).trans hm2; have hn3 : NB u3 w.heap.size 0 0 0 := (hk3 _ (Nat.le_refl _) hn2.lt).trans hn2; have HK : Hid (∀ k, w.heap.size ≤ k → k < u2.heap.size → u3.heap[k]? = u2.heap[k]?) := hk3; clear hk3; have d0 := hn3.c0; have d1 := hn3.c1; have d2 := hn3.c2; have y0 := hn3.thaw 0; have y1 := hn3.thaw 1; have y2 := hn3.thaw 2; have g0 := hm3.c0; have g1 := hm3.c1; have g2 := hm3.c2))
    exact retNtt rfl rfl rfl rfl rfl (hn3.set o t k) ⟨rfl, u2, u3, hw2, hp3, below3 (Below.refl _ _) (Nat.le_refl _) _ _ _⟩
  case neg =>
    unfold DfV
    rw [if_neg hE]
    have hE' : (E != 0) = true := by simpa using hE
    unfold nt at h1 ⊢
    go_enter Tryz.func16, Tryz.ntmps16
    go_wp2_with (first | (go_at_call 44; (with_reducible refine h1.mono ?_); rintro e u1 ⟨rfl, hb1⟩; have hn1 : NB u1 w.heap.size 0 0 0 := NB.carry ((NB.new w 0 0 0).old _) hb1; have hd1 : u1.heap[w.heap.size + 1]? = some (.cells #[.pointer (some ⟨p, 0, none⟩), .int .i64 self] 103 (0, 0)) := (hb1.block _ (by simp)).trans (new_at (by simp)); obtain ⟨u2, hu2⟩ : ∃ u2, u1.alloc (.cells #[.int .i64 o, .int .i64 t, .int .i64 k] 60) = u2 := ⟨_, rfl⟩; have hb2 : Below u1.heap.size u1 u2 := (by rw [← hu2]; exact al1 _ _); have hw2 : Below w.heap.size w u2 := bel2 (bel2 (al2 _ _ _) hb1) hb2; have hm2 : NB u2 u1.heap.size o t k := (by rw [← hu2]; exact NB.new _ _ _ _); have hn2 := hn1.carry hb2; have hd2 := (hb2.block _ (lt_at hd1)).trans hd1; have c0 := hm2.c0; have c1 := hm2.c1; have c2 := hm2.c2; have f0 := cell_at hd2 0; have f1 := cell_at hd2 1; simp at f0 f1; have h2 := HU.out u2 hw2; unfold nt at h2) | (go_at_call 45; (with_reducible refine h2.mono ?_); rintro e u3 ⟨rfl, hp3⟩; have hk3 := HΦ.out u2 u3 hw2 hp3; have hz1 := hb1.size; simp at hz1; have hn3 : NB u3 w.heap.size 0 0 0 := (hk3 _ (Nat.le_refl _) hn2.lt).trans hn2; have HK : Hid (∀ k, w.heap.size ≤ k → k < u2.heap.size → u3.heap[k]? = u2.heap[k]?) := hk3; clear hk3; have d0 := hn3.c0; have d1 := hn3.c1; have d2 := hn3.c2; have y0 := hn3.thaw 0; have y1 := hn3.thaw 1; have y2 := hn3.thaw 2))
    exact retNtt rfl rfl rfl rfl rfl (hn3.set 0 0 0) ⟨rfl, u2, u3, hw2, hp3, below3 (Below.refl _ _) (Nat.le_refl _) _ _ _⟩
end Go.Proofs.YtlpmehmoeladjaaGreatDoor
