/- Sets held against each other; replies read; Take in a drawn region. -/
import Derived.Test.YtgehmidalfajgaaTyf
import Derived.Test.YtgehmidalfajgaaOpp
import Derived.Test.YtgehmidalfajgaaSsr
import Derived.Test.YtgehmidalfajgaaStg
namespace Go.Proofs.Ytgehmidalfajgaa
open Go.RowKit Go.Shelf

theorem idx_rp (b off n cap m : Nat) (h : m < n) (W : World) : (Instr.indexAt 25 (.slice (some ⟨b, off, none⟩) n cap) (.int .i64 (m : Int))).run Try.prog W = .ok (.pointer (some ⟨b, off + m * 6, none⟩)) W := by
  have h1 : (m : Int) < (n : Int) := by omega
  go_simp
theorem field_rp0 (W : World) (b off : Nat) : (Instr.fieldAt 37 (.pointer (some ⟨b, off, none⟩)) 0).run Try.prog W = .ok (.pointer (some ⟨b, off, none⟩)) W := by go_simp
theorem field_rp1 (W : World) (b off : Nat) : (Instr.fieldAt 37 (.pointer (some ⟨b, off, none⟩)) 1).run Try.prog W = .ok (.pointer (some ⟨b, off + 1, none⟩)) W := by go_simp
theorem field_rp2 (W : World) (b off : Nat) : (Instr.fieldAt 37 (.pointer (some ⟨b, off, none⟩)) 2).run Try.prog W = .ok (.pointer (some ⟨b, off + 2, none⟩)) W := by go_simp
section
variable {W V : World} {b off : Nat} {o : Rp}
theorem RpAt.f0 (h : RpAt W b off o) : (Instr.loadAt 3 (.pointer (some ⟨b, off, none⟩))).run Try.prog W = .ok (.int .i64 o.f) W := load_i64 h.1
theorem RpAt.f1 (h : RpAt W b off o) : (Instr.loadAt 3 (.pointer (some ⟨b, off + 1, none⟩))).run Try.prog W = .ok (.int .i64 o.r) W := load_i64 h.2.1
theorem RpAt.f2 (h : RpAt W b off o) : (Instr.loadAt 24 (.pointer (some ⟨b, off + 2, none⟩))).run Try.prog W = .ok (sv o.N) W := load_s h.2.2.1 h.2.2.2.1 h.2.2.2.2.1 h.2.2.2.2.2
end
/-- A reply is taken. -/
def tko (t : Tl) (o : Rp) : Tl := tk t o.f o.r o.N
def fto (t : Tl) (o : Rp) : Nat := fate t o.f o.r o.N
/-- Replies are taken, one behind the other. -/
def run (t : Tl) (l : List Rp) : Tl := l.foldl tko t
theorem run_succ (t : Tl) (l : List Rp) (k : Nat) (o : Rp) (h : l[k]? = some o) : run t (l.take (k + 1)) = tko (run t (l.take k)) o := by
  have e : l.take (k + 1) = l.take k ++ [o] := by rw [List.take_add_one, h]; rfl
  rw [e, run, List.foldl_append]
  rfl
theorem Tv.run {t : Tl} (h : Tv t) : ∀ (l : List Rp), (∀ o ∈ l, o.N < S128) → Tv (run t l) := by
  intro l
  induction l generalizing t with
  | nil => exact fun _ => h
  | cons o l ih => exact fun hl => ih (h.tk (hl o (by simp))) (fun x hx => hl x (by simp [hx]))
/-- Ahead of a Take, and behind it. -/
def Jt (w : World) (base q : Nat) (ad : Option Addr) (cap : Nat) (t : Tl) (o : Rp) (d : Bool) (V : World) : Prop := match d with
  | false => Below w.heap.size w V
  | true => ∃ ad' cap', Ta V base q ad' cap' (tko t o) ∧ Tn q (ob ad) (ob ad') w V ∧ (fto t o ≠ 5 → ad' = ad ∧ cap' = cap ∧ Below w.heap.size w V)
theorem Jt.go {w V : World} {base q cap : Nat} {ad : Option Addr} {t : Tl} {o : Rp} (h : Jt w base q ad cap t o false V) (hT : Ta w base q ad cap t) (hv : Tv t) (hb : base ≤ w.heap.size) (hN : o.N < S128) : Calls Try.prog 10 #[.pointer (some ⟨q, 0, none⟩), .int .i64 o.f, .int .i64 o.r, sv o.N] V fun e w' => e = .returned (.tuple #[.int .i64 (kd (fto t o)), .int .i64 (ke (fto t o))]) ∧ Jt w base q ad cap t o true w' := by
  have h' : Below w.heap.size w V := h
  refine (take_any (hT.carry h') hv (Nat.le_trans hb h'.size) o.f o.r o.N hN).mono ?_
  rintro e w' ⟨rfl, ad', cap', h1, h2, h3⟩
  exact ⟨rfl, ad', cap', h1, (Tn.of q _ h').trans h2, fun e => by obtain ⟨e1, e2, e3⟩ := h3 e; exact ⟨e1, e2, bel2 h' e3⟩⟩
/-- While all is looked at: the list that Heards tells. -/
def Jh (w : World) (l : List Nat) (g : Option Addr × Nat) (d : Bool) (V : World) : Prop := Below w.heap.size w V ∧ (d = true → RdS V g.1 l)
theorem Jh.carry {w V V' : World} {l : List Nat} {g : Option Addr × Nat} {d : Bool} (h : Jh w l g d V) (hb : Below V.heap.size V V') : Jh w l g d V' := ⟨bel2 h.1 hb, fun e => (h.2 e).carry hb⟩
end Go.Proofs.Ytgehmidalfajgaa
