/- The three notes behind their interface: assertions and calls. -/
import Derived.Test.YtligjdmbjkppkaaWrp
import Derived.Test.YtligjdmbjkppkaaWrn
import Derived.Test.YtligjdmbjkppkaaWrf
namespace Go.Proofs.Ytligjdmbjkppkaa
open Go.RowKit Go.Shelf

def qZ : Value := .agg #[.int .i64 0, .int .i64 0, .slice none 0 0]
def pZ : Value := .agg #[.int .i64 0, .int .i64 0, .int .u32 0, .int .u32 0, .int .u32 0, .int .u32 0, .slice none 0 0]
def uZ : Value := .agg #[.int .i64 0, .slice none 0 0]
theorem asQ_Q (v : Value) (w : World) : (Instr.typeAssert (.iface 52 v) 34 52 true).run Try.prog w = .ok (.tuple #[v, .bool true]) w := by kernel_rfl
theorem asQ_P (v : Value) (w : World) : (Instr.typeAssert (.iface 52 v) 34 55 true).run Try.prog w = .ok (.tuple #[pZ, .bool false]) w := by kernel_rfl
theorem asQ_U (v : Value) (w : World) : (Instr.typeAssert (.iface 52 v) 34 58 true).run Try.prog w = .ok (.tuple #[uZ, .bool false]) w := by kernel_rfl
theorem asP_Q (v : Value) (w : World) : (Instr.typeAssert (.iface 55 v) 34 52 true).run Try.prog w = .ok (.tuple #[qZ, .bool false]) w := by kernel_rfl
theorem asP_P (v : Value) (w : World) : (Instr.typeAssert (.iface 55 v) 34 55 true).run Try.prog w = .ok (.tuple #[v, .bool true]) w := by kernel_rfl
theorem asP_U (v : Value) (w : World) : (Instr.typeAssert (.iface 55 v) 34 58 true).run Try.prog w = .ok (.tuple #[uZ, .bool false]) w := by kernel_rfl
theorem asU_Q (v : Value) (w : World) : (Instr.typeAssert (.iface 58 v) 34 52 true).run Try.prog w = .ok (.tuple #[qZ, .bool false]) w := by kernel_rfl
theorem asU_P (v : Value) (w : World) : (Instr.typeAssert (.iface 58 v) 34 55 true).run Try.prog w = .ok (.tuple #[pZ, .bool false]) w := by kernel_rfl
theorem asU_U (v : Value) (w : World) : (Instr.typeAssert (.iface 58 v) 34 58 true).run Try.prog w = .ok (.tuple #[v, .bool true]) w := by kernel_rfl
theorem asN_Q (w : World) : (Instr.typeAssert .nilIface 34 52 true).run Try.prog w = .ok (.tuple #[qZ, .bool false]) w := by kernel_rfl
theorem asN_P (w : World) : (Instr.typeAssert .nilIface 34 55 true).run Try.prog w = .ok (.tuple #[pZ, .bool false]) w := by kernel_rfl
theorem asN_U (w : World) : (Instr.typeAssert .nilIface 34 58 true).run Try.prog w = .ok (.tuple #[uZ, .bool false]) w := by kernel_rfl
theorem nil_no (t : TypeId) (v : Value) (w : World) : (binOp .eql 34 (.iface t v) .nilIface).run Try.prog w = .ok (.bool false) w := by kernel_rfl
theorem nil_yes (w : World) : (binOp .eql 34 .nilIface .nilIface).run Try.prog w = .ok (.bool true) w := by kernel_rfl
theorem invQ_Kind (v : Value) (w : World) : (method 217 52 v "Kind").run Try.prog w = .ok (29, v) w := by kernel_rfl
theorem invQ_Sender (v : Value) (w : World) : (method 217 52 v "Sender").run Try.prog w = .ok (77, v) w := by kernel_rfl
theorem invQ_Bytes (v : Value) (w : World) : (method 217 52 v "Bytes").run Try.prog w = .ok (19, v) w := by kernel_rfl
theorem invQ_Notices (v : Value) (w : World) : (method 217 52 v "Notices").run Try.prog w = .ok (54, v) w := by kernel_rfl
theorem kindQ_any (f r : Int) (a : Option Addr) (m c : Nat) (w : World) : Calls Try.prog 29 #[.agg #[.int .i64 f, .int .i64 r, .slice a m c]] w fun e w' => e = .returned (.int .i64 1) ∧ Below w.heap.size w w' := by
  go_enter Try.func29, Try.ntmps29
  go_wp2
  go_ret
  exact ⟨rfl, by first | exact Below.refl _ _ | exact al1' w _⟩
theorem senderQ_any (f r : Int) (a : Option Addr) (m c : Nat) (w : World) : Calls Try.prog 77 #[.agg #[.int .i64 f, .int .i64 r, .slice a m c]] w fun e w' => e = .returned (.int .i64 f) ∧ Below w.heap.size w w' := by
  go_enter Try.func77, Try.ntmps77
  go_wp2
  go_ret
  exact ⟨rfl, by first | exact Below.refl _ _ | exact al1' w _⟩
theorem invP_Kind (v : Value) (w : World) : (method 217 55 v "Kind").run Try.prog w = .ok (31, v) w := by kernel_rfl
theorem invP_Sender (v : Value) (w : World) : (method 217 55 v "Sender").run Try.prog w = .ok (80, v) w := by kernel_rfl
theorem invP_Bytes (v : Value) (w : World) : (method 217 55 v "Bytes").run Try.prog w = .ok (79, v) w := by kernel_rfl
theorem invP_Notices (v : Value) (w : World) : (method 217 55 v "Notices").run Try.prog w = .ok (55, v) w := by kernel_rfl
theorem kindP_any (f r x0 x1 x2 x3 : Int) (a : Option Addr) (m c : Nat) (w : World) : Calls Try.prog 31 #[.agg #[.int .i64 f, .int .i64 r, .int .u32 x0, .int .u32 x1, .int .u32 x2, .int .u32 x3, .slice a m c]] w fun e w' => e = .returned (.int .i64 2) ∧ Below w.heap.size w w' := by
  go_enter Try.func31, Try.ntmps31
  go_wp2
  go_ret
  exact ⟨rfl, by first | exact Below.refl _ _ | exact al1' w _⟩
theorem senderP_any (f r x0 x1 x2 x3 : Int) (a : Option Addr) (m c : Nat) (w : World) : Calls Try.prog 80 #[.agg #[.int .i64 f, .int .i64 r, .int .u32 x0, .int .u32 x1, .int .u32 x2, .int .u32 x3, .slice a m c]] w fun e w' => e = .returned (.int .i64 f) ∧ Below w.heap.size w w' := by
  go_enter Try.func80, Try.ntmps80
  go_wp2
  go_ret
  exact ⟨rfl, by first | exact Below.refl _ _ | exact al1' w _⟩
theorem invU_Kind (v : Value) (w : World) : (method 217 58 v "Kind").run Try.prog w = .ok (33, v) w := by kernel_rfl
theorem invU_Sender (v : Value) (w : World) : (method 217 58 v "Sender").run Try.prog w = .ok (83, v) w := by kernel_rfl
theorem invU_Bytes (v : Value) (w : World) : (method 217 58 v "Bytes").run Try.prog w = .ok (82, v) w := by kernel_rfl
theorem invU_Notices (v : Value) (w : World) : (method 217 58 v "Notices").run Try.prog w = .ok (56, v) w := by kernel_rfl
theorem kindU_any (f : Int) (a : Option Addr) (m c : Nat) (w : World) : Calls Try.prog 33 #[.agg #[.int .i64 f, .slice a m c]] w fun e w' => e = .returned (.int .i64 3) ∧ Below w.heap.size w w' := by
  go_enter Try.func33, Try.ntmps33
  go_wp2
  go_ret
  exact ⟨rfl, by first | exact Below.refl _ _ | exact al1' w _⟩
theorem senderU_any (f : Int) (a : Option Addr) (m c : Nat) (w : World) : Calls Try.prog 83 #[.agg #[.int .i64 f, .slice a m c]] w fun e w' => e = .returned (.int .i64 f) ∧ Below w.heap.size w w' := by
  go_enter Try.func83, Try.ntmps83
  go_wp2
  go_ret
  exact ⟨rfl, by first | exact Below.refl _ _ | exact al1' w _⟩
end Go.Proofs.Ytligjdmbjkppkaa
