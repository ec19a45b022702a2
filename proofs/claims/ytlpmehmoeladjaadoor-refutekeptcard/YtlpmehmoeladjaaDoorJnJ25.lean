/- RefuteKept: what holds from round to round. -/
import Derived.Test.YtlpmehmoeladjaaDoorJnJ24
import Derived.Test.YtlpmehmoeladjaaDoorRgf
namespace Go.Proofs.YtlpmehmoeladjaaDoor
open Go.RowKit Go.Shelf Go.Lib

theorem step_field {P : Program} {md : Region.Mode} {ops : Array Oper} {Q : Exit → Act → World → Prop} {X0 : Array Value} {val : Nat → Value} {J : World → Prop} {i : Nat} {o : Oper} (hi : ops[i]? = some o) (hg : GOk md ops X0 val i o) (t : TypeId) (x : Operand) (f : Nat) (p : Value) (ho : o.op = .field t x f) (hx : rdo md ops X0 val i o x = some p) (hr : ∀ w, J w → (Instr.field t p f).run P w = .ok (val i) w) : StepAt P md ops Q X0 val J J i o :=
  step_of hi hg fun a w hJ hS => by
    unfold Oper.wp execOp
    simp only [ho, hS.eval hx, Sem.run_bind, hr w hJ, Result.andThen_ok, Sem.run_pure, Oper.upon_value]
    exact ⟨trivial, hJ⟩
theorem field_R2 (x y z : Int) (w : World) : (Instr.field 55 (.agg #[.int .i64 x, .int .i64 y, .int .i64 z]) 2).run Tryd.prog w = .ok (.int .i64 z) w := by kernel_rfl
/-- Of itself the book has a suspicion, or a mistake that is not above the boot's tag. -/
def OwnT (L : List N3) (s : Nat) (ta : Int) : Prop := ∀ x : N3, L[s]? = some x → x.2.2 = 2 ∨ x.2.1 ≤ ta
theorem OwnT.tke {L : List N3} {s : Nat} {ta : Int} (h : OwnT L s ta) {x : N3} (hx : x.1 ≠ (s : Int) ∨ x.2.2 = 2) : OwnT (tke L x) s ta := by
  unfold Go.Proofs.YtlpmehmoeladjaaDoor.tke
  split
  case isFalse => exact h
  rename_i hv
  unfold rse
  split
  case isFalse => exact h
  intro y hy
  obtain ⟨_, _, h0, _⟩ := vlx_iff.1 hv
  by_cases e : x.1.toNat = s
  · rcases hx with hx | hx
    · exact absurd (show x.1 = (s : Int) by omega) hx
    · have hs : s < L.length := by
        have := (List.getElem?_eq_some_iff.1 hy).1
        simpa using this
      rw [e, List.getElem?_set_self hs] at hy
      obtain rfl := Option.some.inj hy
      exact .inl hx
  · rw [List.getElem?_set_ne e] at hy
    exact h y hy
/-- The numbers. -/
structure KM (N s : Nat) (L : List N3) (d : Dst) (b : Bo) (m : Nat) : Prop where
  bo : Bok L
  len : L.length = N
  lv : ∃ n, n ≤ m + 1 ∧ Lv d n b
  w0 : 0 ≤ d.writes
  w1 : d.writes ≤ 2 + 2 * (m : Int)
  own : OwnT L s b.ta
/-- The memory. -/
structure KW (w : World) (bp g q : Nat) (L : List N3) (d : Dst) (b : Bo) (V : World) : Prop where
  bk : Bk V bp g L
  bt : Bt V q (some ⟨w.heap.size, 0, none⟩) b
  dk : Dk V w.heap.size d
  bl : Below w.heap.size w V
section
variable {w V V' : World} {bp g q N s m : Nat} {L L' : List N3} {d d' : Dst} {b b' : Bo}
theorem KW.carry (h : KW w bp g q L d b V) (hb : Below V.heap.size V V') : KW w bp g q L d b V' := ⟨h.bk.carry hb, h.bt.carry hb, h.dk.carry hb, h.bl.trans (hb.mono h.bl.size)⟩
theorem KW.take (h : KW w bp g q L d b V) (hk : Bk V' bp g L') (hg : V.grownBy V' (some g)) (hw : w.heap.size ≤ g) : KW w bp g q L' d b V' := ⟨hk, h.bt.gr h.bk hg, h.dk.gr h.bk hg, h.bl.trans (grown_low hg hw h.bl.size)⟩
theorem KW.def (h : KW w bp g q L d b V) (hk : Bk V' bp g L') (hd : Dk V' w.heap.size d') (hb : Bt V' q (some ⟨w.heap.size, 0, none⟩) b') (ht : Td g q w.heap.size V V') (hg : w.heap.size ≤ g) (hq : w.heap.size ≤ q) : KW w bp g q L' d' b' V' := ⟨hk, hb, hd, h.bl.trans (ht.below hg (Nat.le_refl _) hq h.bl.size)⟩
theorem KM.take (h : KM N s L d b m) {x : N3} (hx : x.1 ≠ (s : Int) ∨ x.2.2 = 2) : KM N s (tke L x) d b m := ⟨tke_bok h.bo x, (tke_len L x).trans h.len, h.lv, h.w0, h.w1, h.own.tke hx⟩
/-- What Defend leaves. -/
theorem KM.defend (h : KM N s L d b m) (hN : N ≤ 100) (hm : m ≤ 900000) : ∃ D : Df, dDf L (s : Int) d b = D ∧ KM N s D.l D.d D.b (m + 1) ∧ ((D.e = 0 ∧ D.did = false ∧ D.x = (0, 0, 0)) ∨ (D.e = 0 ∧ D.did = true ∧ D.x.2.1 ≤ D.b.ta ∧ D.x.2.1 ≤ D.b.r.ta) ∨ (D.e = 100 ∧ D.did = false ∧ D.x = (0, 0, 0) ∧ D.l = L)) := by
  obtain ⟨n, hn, hlv⟩ := h.lv
  have w0 := h.w0
  have w1 := h.w1
  refine ⟨_, rfl, ?_⟩
  unfold dDf
  rcases hdn : dueN L (s : Int) with _ | x
  · exact ⟨⟨h.bo, h.len, ⟨n, by omega, hlv⟩, w0, by dsimp only; omega, h.own⟩, .inl ⟨rfl, rfl, rfl⟩⟩
  dsimp only
  obtain ⟨htk, hx1, _, _, ht1, ht2, hx3⟩ := due_tk h.bo (by rw [h.len]; exact hN) hdn
  obtain ⟨hx, hbo2, hlen2⟩ := tke_due h.bo (by rw [h.len]; exact hN) hdn
  obtain ⟨n', hn1, hn2, hlv2, hw1, hw2, hre⟩ := hlv.raised (by omega) ht1 ht2
  have h3 := hlv2.ta
  rcases hre with ⟨he, hta, hta2⟩ | ⟨he, hbb, _⟩
  · rw [if_pos he]
    refine ⟨⟨hbo2, hlen2.trans h.len, ⟨n', by omega, hlv2⟩, by dsimp only; omega, by dsimp only; omega, ?_⟩, .inr (.inl ⟨rfl, rfl, hta, by dsimp only; omega⟩)⟩
    intro y hy
    rw [hx] at hy
    obtain rfl := Option.some.inj hy
    exact .inr hta
  · rw [if_neg (by rw [he]; decide)]
    refine ⟨⟨h.bo, h.len, ⟨n', by omega, hlv2⟩, by dsimp only; omega, by dsimp only; omega, ?_⟩, .inr (.inr ⟨he, rfl, rfl, rfl⟩)⟩
    dsimp only
    rw [hbb]
    exact h.own
/-- What is loaded in the end. -/
theorem KM.load (h : KM N s L d b m) : ∃ sq a, nwT { d with off := false } = ⟨b.r, sq, a, 0⟩ ∧ b.ta ≤ b.r.ta := by
  obtain ⟨n, hn, hlv⟩ := h.lv
  have h1 := hlv.n1
  have := Ss.nt (d := { d with off := false }) hlv.ss rfl
  rw [if_neg (by omega)] at this
  exact ⟨_, _, this, hlv.ta.2⟩
theorem KM.own_at (h : KM N s L d b m) (hs : s < N) : ∃ t k, L[s]? = some ((s : Int), t, k) ∧ (k = 1 ∨ k = 2) ∧ (k = 2 ∨ t ≤ b.ta) := by
  obtain ⟨t, k, hx, _, hk, _⟩ := bok_at h.bo (show s < L.length by rw [h.len]; exact hs)
  exact ⟨t, k, hx, hk, h.own _ hx⟩
end
/-- What holds while the tags are held against what was told. -/
def JTg (w : World) (bp g q B : Nat) (L : List N3) (d : Dst) (b : Bo) (x : N3) (V : World) : Prop := KW w bp g q L d b V ∧ NB V B x.1 x.2.1 x.2.2
theorem JTg.carry {w V V' : World} {bp g q B : Nat} {L : List N3} {d : Dst} {b : Bo} {x : N3} (h : JTg w bp g q B L d b x V) (hb : Below V.heap.size V V') : JTg w bp g q B L d b x V' := ⟨h.1.carry hb, h.2.carry hb⟩
end Go.Proofs.YtlpmehmoeladjaaDoor
