/- Two events are compared. -/
import Derived.Test.YtgnhainfcfcodaaGreatAua
namespace Go.Proofs.YtgnhainfcfcodaaGreat
open Go.RowKit Go.Shelf Go.Lib
attribute [local go_sem] Oper.semAt_some

theorem eqStepD (A B j : Nat) (hj : j < 4) (is : List Nat) (w : World) : (Op.eqItems 9998 55 1 (cells4 (wd A)) (cells4 (wd B)) (j :: is)).run Tryz.prog w = if wd A j = wd B j then (Op.eqItems 9998 55 1 (cells4 (wd A)) (cells4 (wd B)) is).run Tryz.prog w else .ok false w := by
  have he : Tryz.prog.plainKey 55 = true := by kernel_rfl
  have p1 := run_part_plain (P := Tryz.prog) w he (off := j * 1) (by rw [Nat.mul_one]; exact cells4_get (wd A) j hj)
  have p2 := run_part_plain (P := Tryz.prog) w he (off := j * 1) (by rw [Nat.mul_one]; exact cells4_get (wd B) j hj)
  have p3 := run_equalIn_int (P := Tryz.prog) w 9997 55 .u32 .u32 (wd A j : Int) (wd B j : Int) Tryz.underlying55
  rw [Op.eqItems]
  simp only [Sem.run_bind, p1, p2, Result.andThen_ok]
  rw [p3]
  simp only [Result.andThen_ok]
  by_cases h : wd A j = wd B j
  · simp [h]
  · have h2 : ((wd A j : Int) == (wd B j : Int)) = false := by simp; omega
    simp [h, h2]
theorem eqn4D (A B : Nat) (hA : A < S128) (hB : B < S128) (w : World) : (Op.equalIn 9999 57 (sv A) (sv B)).run Tryz.prog w = .ok (decide (A = B)) w := by
  have hi : (Tryz.prog.info? 55).isSome = true := by kernel_rfl
  obtain ⟨i, hi⟩ := Option.isSome_iff_exists.1 hi
  have hc : Tryz.prog.cellsOf 55 = 1 := by kernel_rfl
  rw [sv_cells, sv_cells, run_equalIn_array w 9998 _ _ Tryz.underlying57 hi, hc, show List.range 4 = [0, 1, 2, 3] from rfl]
  rw [eqStepD A B 0 (by decide), eqStepD A B 1 (by decide), eqStepD A B 2 (by decide), eqStepD A B 3 (by decide)]
  by_cases e : A = B
  · subst e; simp [Op.eqItems]
  · have hn : ¬ (wd A 0 = wd B 0 ∧ wd A 1 = wd B 1 ∧ wd A 2 = wd B 2 ∧ wd A 3 = wd B 3) := fun h => e (ext_wd hA hB h.1 h.2.1 h.2.2.1 h.2.2.2)
    simp only [e, decide_false]
    by_cases h0 : wd A 0 = wd B 0
    · by_cases h1 : wd A 1 = wd B 1
      · by_cases h2 : wd A 2 = wd B 2
        · by_cases h3 : wd A 3 = wd B 3
          · exact absurd ⟨h0, h1, h2, h3⟩ hn
          · simp [h0, h1, h2, h3]
        · simp [h0, h1, h2]
      · simp [h0, h1]
    · simp [h0]
/-- Are two events the same? -/
def eqEv (a c : Ev) : Bool := (a.k == c.k) && ((a.nd == c.nd) && ((a.li == c.li) && ((a.ro == c.ro) && ((a.ta == c.ta) && ((a.of == c.of) && ((a.du == c.du) && (decide (a.he = c.he) && decide (a.un = c.un))))))))
theorem eqEv_iff (a c : Ev) : eqEv a c = true ↔ a = c := by
  obtain ⟨k, nd, li, ro, ta, of, du, he, un⟩ := a
  obtain ⟨k', nd', li', ro', ta', of', du', he', un'⟩ := c
  simp [eqEv]
set_option maxRecDepth 100000 in
set_option maxHeartbeats 2000000 in
theorem eqE (x y : Operand) (a c : Ev) (h1 : a.he < S128) (h2 : a.un < S128) (h3 : c.he < S128) (h4 : c.un < S128) (w : World) : binRun Tryz.prog .eql 59 x y (evV a) (evV c) w = .ok (.bool (eqEv a c)) w := by
  have q1 := eqn4D a.he c.he h1 h3 w
  have q2 := eqn4D a.un c.un h2 h4 w
  unfold sv at q1 q2
  unfold binRun evV ecA eqEv
  go_simp
  (repeat' split) <;> simp [*]
end Go.Proofs.YtgnhainfcfcodaaGreat
