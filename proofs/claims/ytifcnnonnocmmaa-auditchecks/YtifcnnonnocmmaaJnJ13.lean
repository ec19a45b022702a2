import Derived.Test.YtifcnnonnocmmaaJnJ10
import Derived.Test.YtifcnnonnocmmaaJnJ12
set_option maxHeartbeats 40000000
set_option maxRecDepth 100000
set_option linter.unusedVariables false
namespace Go.Proofs.Ytifcnnonnocmmaa
open Go.RowKit Go.Shelf Go.Lib
attribute [local go_sem] Oper.semAt_some
structure Dn where
 up : Bool
 life : Int
 most : Int
 op : Int
 ask : Int
 tag : Int
def dnc (u : Dn) : List Value := [.bool u.up, .int .i64 u.life, .int .i64 u.most, .int .i64 u.op, .int .i64 u.ask, .int .i64 u.tag]
theorem dnc_len (u : Dn) : (dnc u).length = 6 := rfl
structure Ds where
 ds : List Dn
 rb : Bool
 c : Ev
 la : Int
def tlC (rb : Bool) (c : Ev) (la : Int) : List Value := [.bool rb] ++ (ec c ++ [.int .i64 la])
def deC (n f : Int) (D : Ds) : List Value := [.int .i64 n, .int .i64 f] ++ (D.ds.flatMap dnc ++ tlC D.rb D.c D.la)
structure De (W : World) (y : Nat) (n f : Int) (D : Ds) : Prop where
 box : W.heap[y]? = some (.cells (deC n f D).toArray 50 (0, 0))
 ln : D.ds.length = 100
theorem fm100 {D : Ds} (h : D.ds.length = 100) : (D.ds.flatMap dnc).length = 600 := by rw [fm_len dnc 6 dnc_len, h]
section
variable {W V : World} {y : Nat} {n f : Int} {D : Ds}
theorem De.carry (h : De W y n f D) (hb : Below W.heap.size W V) : De V y n f D := ⟨(hb.block _ (zla h.box)).trans h.box, h.ln⟩
theorem De.cell (h : De W y n f D) (k : Nat) : W.cell? ⟨y, k, none⟩ = (deC n f D)[k]? := by rw [zca h.box]; simp
theorem De.c0 (h : De W y n f D) : W.cell? ⟨y, 0, none⟩ = some (.int .i64 n) := (h.cell 0).trans rfl
theorem De.c1 (h : De W y n f D) : W.cell? ⟨y, 1, none⟩ = some (.int .i64 f) := (h.cell 1).trans rfl
theorem De.cn (h : De W y n f D) {m j : Nat} {u : Dn} {v : Value} (hm : D.ds[m]? = some u) (hj : j < 6) (hv : (dnc u)[j]? = some v) : W.cell? ⟨y, 2 + m * 6 + j, none⟩ = some v := by
 rw [h.cell, deC, List.getElem?_append_right (by simp; omega)]
 have hml : m < 100 := by rw [← h.ln]; exact (List.getElem?_eq_some_iff.1 hm).1
 rw [List.getElem?_append_left (by rw [fm100 h.ln]; simp; omega)]
 rw [show 2 + m * 6 + j - [Value.int .i64 n, Value.int .i64 f].length = m * 6 + j by simp; omega]
 rw [fm_get dnc 6 dnc_len _ _ _ u hm hj, hv]
theorem De.tail (h : De W y n f D) (k : Nat) : W.cell? ⟨y, 602 + k, none⟩ = (tlC D.rb D.c D.la)[k]? := by
 rw [h.cell, deC, List.getElem?_append_right (by simp; omega), List.getElem?_append_right (by rw [fm100 h.ln]; show 600 ≤ 602 + k - 2; omega), fm100 h.ln, show 602 + k - [Value.int .i64 n, Value.int .i64 f].length - 600 = k by show 602 + k - 2 - 600 = k; omega]
theorem De.crb (h : De W y n f D) : W.cell? ⟨y, 602, none⟩ = some (.bool D.rb) := (h.tail 0).trans rfl
theorem De.cla (h : De W y n f D) : W.cell? ⟨y, 618, none⟩ = some (.int .i64 D.la) := (h.tail 16).trans rfl
theorem De.cc (h : De W y n f D) {j : Nat} {v : Value} (hj : j < 15) (hv : (ec D.c)[j]? = some v) : W.cell? ⟨y, 603 + j, none⟩ = some v := by
 have := h.tail (1 + j)
 rw [show 602 + (1 + j) = 603 + j by omega] at this
 rw [this, tlC, List.getElem?_append_right (by simp), List.getElem?_append_left (by simp [ec_len]; omega)]
 rw [show 1 + j - [Value.bool D.rb].length = j by simp]
 exact hv
theorem De.frz (h : De W y n f D) (j : Nat) : W.frozen? ⟨y, j, none⟩ = false := zta h.box j
theorem De.nput (h : De W y n f D) {m j : Nat} {u u' : Dn} {v : Value} (hm : D.ds[m]? = some u) (hj : j < 6) (hv : dnc u' = (dnc u).set j v) : De (W.setCell ⟨y, 2 + m * 6 + j, none⟩ v) y n f { D with ds := D.ds.set m u' } := by
 refine ⟨?_, by simp [h.ln]⟩
 have := set_get (2 + m * 6 + j) v h.box
 rw [List.setIfInBounds_toArray] at this
 have hml : m < 100 := by rw [← h.ln]; exact (List.getElem?_eq_some_iff.1 hm).1
 have e : (deC n f D).set (2 + m * 6 + j) v = deC n f { D with ds := D.ds.set m u' } := by
  unfold deC
  rw [List.set_append_right _ _ (by simp; omega), List.set_append_left _ _ (by rw [fm100 h.ln]; simp; omega)]
  rw [show 2 + m * 6 + j - [Value.int .i64 n, Value.int .i64 f].length = m * 6 + j by simp; omega, fm_set dnc 6 dnc_len _ _ _ u u' v hm hj hv]
 rw [e] at this
 exact this
theorem De.tput (h : De W y n f D) (k : Nat) (v : Value) (rb : Bool) (c : Ev) (la : Int) (he : (tlC D.rb D.c D.la).set k v = tlC rb c la) : De (W.setCell ⟨y, 602 + k, none⟩ v) y n f ⟨D.ds, rb, c, la⟩ := by
 refine ⟨?_, h.ln⟩
 have := set_get (602 + k) v h.box
 rw [List.setIfInBounds_toArray] at this
 have e : (deC n f D).set (602 + k) v = deC n f ⟨D.ds, rb, c, la⟩ := by
  unfold deC
  rw [List.set_append_right _ _ (by simp; omega), List.set_append_right _ _ (by rw [fm100 h.ln]; show 600 ≤ 602 + k - 2; omega), fm100 h.ln, show 602 + k - [Value.int .i64 n, Value.int .i64 f].length - 600 = k by show 602 + k - 2 - 600 = k; omega, he]
 rw [e] at this
 exact this
theorem De.rput (h : De W y n f D) (v : Bool) : De (W.setCell ⟨y, 602, none⟩ (.bool v)) y n f ⟨D.ds, v, D.c, D.la⟩ := h.tput 0 _ _ _ _ rfl
theorem De.lput (h : De W y n f D) (v : Int) : De (W.setCell ⟨y, 618, none⟩ (.int .i64 v)) y n f ⟨D.ds, D.rb, D.c, v⟩ := h.tput 16 _ _ _ _ rfl
theorem De.cput (h : De W y n f D) (c : Ev) : De (W.setRow y (splice (deC n f D) 603 (ec c)).toArray) y n f ⟨D.ds, D.rb, c, D.la⟩ := by
 refine ⟨(setRow_heap W y _ _ _ _ h.box).trans ?_, h.ln⟩
 have e : splice (deC n f D) 603 (ec c) = deC n f ⟨D.ds, D.rb, c, D.la⟩ := by
  have hl : ([Value.int .i64 n, Value.int .i64 f] ++ (D.ds.flatMap dnc ++ [Value.bool D.rb])).length = 603 := by simp [fm100 h.ln]
  have e1 : deC n f D = ([Value.int .i64 n, Value.int .i64 f] ++ (D.ds.flatMap dnc ++ [Value.bool D.rb])) ++ (ec D.c ++ [.int .i64 D.la]) := by simp [deC, tlC]
  rw [e1, splice, ec_len, List.take_left' hl, ← List.drop_drop, List.drop_left' hl, List.drop_left' (ec_len _)]
  simp [deC, tlC]
 rw [e]
end
theorem deC_len {n f : Int} {D : Ds} (h : D.ds.length = 100) : (deC n f D).length = 619 := by simp [deC, tlC, fm100 h, ec_len]
end Go.Proofs.Ytifcnnonnocmmaa
