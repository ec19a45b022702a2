/- What Count, Plain and Chars of the document answer: at every text of at most 2^20 bytes; and how two lists of characters are compared. -/
import Derived.Test.YtakobmhnochlhaaRefL
import Derived.Deep.QuietTactic
import Derived.BigQuiet
namespace Go.Proofs.Ytakobmhnochlhaa
open Go.RowKit Go.Shelf

theorem below_drewN {n : Nat} {w a : World} (h : Below n w a) (k : Nat) : Below n w (a.drewN k) := h.trans ⟨rfl, rfl, rfl, Nat.le_refl _, fun _ _ => rfl⟩

end Go.Proofs.Ytakobmhnochlhaa
