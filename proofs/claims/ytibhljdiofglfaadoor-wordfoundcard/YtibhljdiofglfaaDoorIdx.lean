/- What strings.Index answers of a text and a line's end: at every text. -/
import Derived.Shelf.Strings.Search1
import Derived.Test.YtibhljdiofglfaaDoorBas2
namespace Go.Proofs.YtibhljdiofglfaaDoor
open Go.RowKit Go.Shelf

def ren217 : Go.Shelf.Ren := ⟨fun | 217 => 63 | 266 => 70 | n => n, fun | 3 => 3 | 5 => 5 | 9 => 9 | n => n, fun | n => n⟩
theorem lays217 : Lays.n217 Tryd.prog ren217 := {
  mixed := by kernel_rfl
  f217 := Tryd.func63.trans (congrArg some (by kernel_rfl))
  f266 := Tryd.func70.trans (congrArg some (by kernel_rfl))
  t3 := Tryd.underlying3
  a3 := Tryd.isAgg3
  z3 := Tryd.sizeOf3
  v3 := Tryd.zeroValue3
  t5 := Tryd.underlying5
  a5 := Tryd.isAgg5
  z5 := Tryd.sizeOf5
  v5 := Tryd.zeroValue5
  t9 := Tryd.underlying9
  a9 := Tryd.isAgg9
  z9 := Tryd.sizeOf9
  v9 := Tryd.zeroValue9 }

/-- Where the first line ends; -1: nowhere. -/
def nlAt (s : ByteArray) : Int := Lib.indexByte s.data.toList 10
theorem indexByte_any (s : ByteArray) (w : World) :
    Calls Tryd.prog 63 #[.string s, .int .u8 10] w fun e w' => e = .returned (.int .i64 (nlAt s)) ∧ w' = w := Any.stringslite_IndexByte lays217 s 10 w
set_option maxHeartbeats 1000000 in
set_option maxRecDepth 100000 in
theorem liteIndex_any (s : ByteArray) (w : World) :
    Calls Tryd.prog 56 #[.string s, .string ⟨#[10]⟩] w fun e w' => e = .returned (.int .i64 (nlAt s)) ∧ w' = w := by
  cases hq : (([10] : List UInt8) == s.toList) with
  | true =>
    have HN : Hid (nlAt s = 0) := by
      show nlAt s = 0
      have h := eq_of_beq hq
      rw [Lib.toList_data] at h
      unfold nlAt
      rw [← h]
      rfl
    go_enter Tryd.func56, Tryd.ntmps56
    go_wp2
    go_ret
    rw [HN.out]
    exact ⟨rfl, rfl⟩
  | false =>
    go_enter Tryd.func56, Tryd.ntmps56
    go_wp2_with (go_at_call 63; refine (indexByte_any s _).mono ?_; rintro e w9 ⟨rfl, rfl⟩)
    go_ret
    exact ⟨rfl, rfl⟩
set_option maxHeartbeats 1000000 in
theorem index_any (s : ByteArray) (w : World) :
    Calls Tryd.prog 45 #[.string s, .string ⟨#[10]⟩] w fun e w' => e = .returned (.int .i64 (nlAt s)) ∧ w' = w := by
  go_enter Tryd.func45, Tryd.ntmps45
  go_wp2_with (go_at_call 56; refine (liteIndex_any s _).mono ?_; rintro e w9 ⟨rfl, rfl⟩)
  go_ret
  exact ⟨rfl, rfl⟩
end Go.Proofs.YtibhljdiofglfaaDoor
