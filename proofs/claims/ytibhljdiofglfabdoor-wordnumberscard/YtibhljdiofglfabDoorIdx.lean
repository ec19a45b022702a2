/- What strings.Index answers of a text and a line's end: at every text. -/
import Derived.Shelf.Strings.Search1
import Derived.Test.YtibhljdiofglfabDoorBas2
namespace Go.Proofs.YtibhljdiofglfabDoor
open Go.RowKit Go.Shelf

def ren217 : Go.Shelf.Ren := ⟨fun | 217 => 46 | 266 => 52 | n => n, fun | 3 => 3 | 5 => 5 | 9 => 9 | n => n, fun | n => n⟩
theorem lays217 : Lays.n217 Tryd.prog ren217 := {
  mixed := by kernel_rfl
  f217 := Tryd.func46.trans (congrArg some (by kernel_rfl))
  f266 := Tryd.func52.trans (congrArg some (by kernel_rfl))
  t3 := Tryd.underlying3
  a3 := Tryd.isAgg3
  z3 := Tryd.sizeOf3
  v3 := Tryd.zeroValue3
  t5 := Tryd.underlying5
  a5 := Tryd.isAgg5
  z5 := Tryd.sizeOf5
  v5 := Tryd.zeroValue5
  t9 := Tryd.underlying9
  a9 := Tryd.isAgg9
  z9 := Tryd.sizeOf9
  v9 := Tryd.zeroValue9 }

/-- Where the first line ends; -1: nowhere. -/
def nlAt (s : ByteArray) : Int := Lib.indexByte s.data.toList 10
theorem indexByte_any (s : ByteArray) (w : World) :
    Calls Tryd.prog 46 #[.string s, .int .u8 10] w fun e w' => e = .returned (.int .i64 (nlAt s)) ∧ w' = w := Any.stringslite_IndexByte lays217 s 10 w
set_option maxHeartbeats 1000000 in
set_option maxRecDepth 100000 in
theorem liteIndex_any (s : ByteArray) (w : World) :
    Calls Tryd.prog 39 #[.string s, .string ⟨#[10]⟩] w fun e w' => e = .returned (.int .i64 (nlAt s)) ∧ w' = w := by
  cases hq : (([10] : List UInt8) == s.toList) with
  | true =>
    have HN : Hid (nlAt s = 0) := by
      show nlAt s = 0
      have h := eq_of_beq hq
      rw [Lib.toList_data] at h
      unfold nlAt
      rw [← h]
      rfl
    go_enter Tryd.func39, Tryd.ntmps39
    go_wp2
    go_ret
    rw [HN.out]
    exact ⟨rfl, rfl⟩
  | false =>
    go_enter Tryd.func39, Tryd.ntmps39
    go_wp2_with (go_at_call 46; refine (indexByte_any s _).mono ?_; rintro e w9 ⟨rfl, rfl⟩)
    go_ret
    exact ⟨rfl, rfl⟩
set_option maxHeartbeats 1000000 in
theorem index_any (s : ByteArray) (w : World) :
    Calls Tryd.prog 30 #[.string s, .string ⟨#[10]⟩] w fun e w' => e = .returned (.int .i64 (nlAt s)) ∧ w' = w := by
  go_enter Tryd.func30, Tryd.ntmps30
  go_wp2_with (go_at_call 39; refine (liteIndex_any s _).mono ?_; rintro e w9 ⟨rfl, rfl⟩)
  go_ret
  exact ⟨rfl, rfl⟩
end Go.Proofs.YtibhljdiofglfabDoor
