/- notice.cutFirst, kindOf: what they answer, at every text. -/
import Derived.Test.YtebpngapkkdifaaDoorDcd
import Derived.Test.YtebpngapkkdifaaDoorSlg
import Derived.Test.YtebpngapkkdifaaDoorNtd
import Derived.Test.YtebpngapkkdifaaDoorChr
namespace Go.Proofs.YtebpngapkkdifaaDoor
open Go.RowKit Go.Shelf Go.Lib

/-- The tables of utf8 lie in their variables. -/
def Ut (W : World) : Prop := Lib.Utf8Tabs (ren197.g 3) (ren197.g 4) W
theorem Ut.carry {W W' : World} (h : Ut W) (hb : Below W.heap.size W W') : Ut W' := Utf8Tabs_below h hb
/-- What stands behind the first character. -/
def cutR (s : ByteArray) : ByteArray := s.extract (decodeGo s).2 s.size
theorem dec_le (s : ByteArray) : (decodeGo s).2 ≤ s.size := by
  unfold decodeGo
  split
  · omega
  · have := wdt_le s 0 (by omega)
    unfold wdt at this
    omega
theorem slice_str {s : ByteArray} {k : Nat} (hk : k ≤ s.size) (w : World) : (Instr.sliceAt 9 (.string s) (some (.int .i64 (k : Int))) none none).run Tryd.prog w = .ok (.string (s.extract k s.size)) w := by
  go_simp
set_option maxHeartbeats 1000000 in
set_option maxRecDepth 100000 in
theorem cut_any (s : ByteArray) (w : World) (hT : Ut w) : Calls Tryd.prog 16 #[.string s] w fun e w' => e = .returned (.tuple #[.int .i32 (decodeGo s).1, .string (cutR s)]) ∧ Below w.heap.size w w' := by
  have hmx : Tryd.prog.follows .mixedOrders = true := by kernel_rfl
  have hd := dec_any s w hT
  have hk := dec_le s
  unfold cutR
  generalize (decodeGo s).1 = a at *
  generalize (decodeGo s).2 = k at *
  go_enter Tryd.func16, Tryd.ntmps16
  go_wp2_with (go_at_call 22; (with_reducible refine hd.mono ?_); rintro e u1 ⟨rfl, hb1⟩)
  rename_i Q0 K0 hK
  refine wp_region_any hmx ?_
  refine wpAny_pure (fun i__ => ([(.int .i32 (a : Int)), (.string s), (.int .i64 (k : Int)), (.string (s.extract k s.size)), (.int .i32 (a : Int)), (.string (s.extract k s.size))] : List Value).getD i__ undef) (fun W => Below w.heap.size w W) (by kernel_rfl) hb1.drew ?_ ?_
  · refine (stepsFrom_cons ?_ (stepsFrom_cons ?_ (stepsFrom_cons ?_ (stepsFrom_cons ?_ (stepsFrom_cons ?_ (stepsFrom_cons ?_ trivial))))))
    · exact step_move rfl trivial _ rfl (by kernel_rfl)
    · exact step_move rfl trivial _ rfl (by kernel_rfl)
    · exact step_move rfl trivial _ rfl (by kernel_rfl)
    · exact step_slice rfl trivial _ _ _ _ _ (some (.int .i64 (k : Int))) none rfl rfl rfl rfl (fun w hw => slice_str hk w)
    · exact step_assign rfl trivial _ rfl (by kernel_rfl) (fun _ h => h)
    · exact step_assign rfl trivial _ rfl (by kernel_rfl) (fun _ h => h)
  intro W hW
  first | refine hK _ _ ?_ | refine (‹∀ (a : Act) (w : World), Code.wp Tryd.prog _ _ a w → _›) _ _ ?_
  simp only [finL, List.getD_cons_zero, List.getD_cons_succ, Nat.zero_add, Nat.reduceAdd, List.setIfInBounds_toArray, List.set_cons_zero, List.set_cons_succ]
  go_wp2
  go_ret2
  exact ⟨rfl, hW⟩
/-- The kind of a mark. -/
def kd (c : Int) : Int := if c = 33 then 1 else if c = 63 then 2 else 0
set_option maxHeartbeats 400000 in
theorem kindOf_any (c : Int) (w : World) : Calls Tryd.prog 19 #[.int .i32 c] w fun e w' => e = .returned (.int .i64 (kd c)) ∧ Below w.heap.size w w' := by
  unfold kd
  by_cases h1 : c = 33
  · subst h1
    go_enter Tryd.func19, Tryd.ntmps19
    go_wp2
    go_ret
    exact ⟨rfl, Below.refl _ _⟩
  · rw [if_neg h1]
    by_cases h2 : c = 63
    · subst h2
      go_enter Tryd.func19, Tryd.ntmps19
      go_wp2
      go_ret
      exact ⟨rfl, Below.refl _ _⟩
    · rw [if_neg h2]
      go_enter Tryd.func19, Tryd.ntmps19
      go_wp2
      go_ret
      exact ⟨rfl, Below.refl _ _⟩
end Go.Proofs.YtebpngapkkdifaaDoor
