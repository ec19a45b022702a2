/- Numbers that are held against each other, in a region that draws. -/
import Derived.Test.YtjleggnkacmbbaaBin
namespace Go.Proofs.Ytjleggnkacmbbaa
open Go.RowKit

theorem neqK_f {P : Program} {t : TypeId} {x y : Operand} {w : World} (k : IntKind) (a : Int) : binRun P .neq t x y (.int k a) (.int k a) w = .ok (.bool false) w := by simp [binRun, go_sem]
theorem neqK_t {P : Program} {t : TypeId} {x y : Operand} {w : World} {k : IntKind} {a b : Int} (h : ¬ a = b) : binRun P .neq t x y (.int k a) (.int k b) w = .ok (.bool true) w := by simp [binRun, go_sem, h]
end Go.Proofs.Ytjleggnkacmbbaa
