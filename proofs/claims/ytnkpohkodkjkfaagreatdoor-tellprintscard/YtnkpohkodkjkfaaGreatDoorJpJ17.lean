/- The words of the library at this program. -/
import Derived.Shelf.Strconv.Itoa3
import Derived.Test.YtnkpohkodkjkfaaGreatDoorProg
import Derived.Lib.SmallJoins
import Derived.Lib.AppendIntMem
import Derived.Lib.LaidU8
import Derived.LaidMore
import Derived.Lay
import Derived.MakeChecks
import Derived.Test.YtnkpohkodkjkfaaGreatDoorRows
import Derived.Test.YtnkpohkodkjkfaaGreatDoorJpJ16
import Derived.Lib.ItoaNum
import Derived.Lib.ItoaLen
set_option maxHeartbeats 40000000
set_option maxRecDepth 100000
set_option linter.unusedVariables false
namespace Go.Proofs.YtnkpohkodkjkfaaGreatDoor
open Go.Shelf Go.RowKit
def ren171 : Go.Shelf.Ren := ⟨fun | 171 => 45 | 243 => 74 | 246 => 95 | 283 => 120 | 284 => 121 | 285 => 122 | 286 => 123 | 129 => 140 | 317 => 139 | 318 => 141 | 319 => 142 | 320 => 143 | 337 => 99 | 338 => 151 | n => n, fun | 3 => 3 | 9 => 9 | 2 => 2 | 4 => 4 | 171 => 175 | 0 => 0 | 53 => 176 | 37 => 47 | 5 => 5 | 173 => 179 | 212 => 203 | 51 => 22 | 20 => 20 | 213 => 204 | 46 => 173 | 232 => 182 | 233 => 219 | n => n, fun | 17 => 4 | 18 => 0 | 19 => 5 | n => n⟩
set_option maxRecDepth 100000 in
theorem lays171 : LaysM.n171 Tryz.prog ren171 := {
  mixed := by kernel_rfl
  f129 := Tryz.func140.trans (congrArg some (by kernel_rfl))
  f171 := Tryz.func45.trans (congrArg some (by kernel_rfl))
  f243 := Tryz.func74.trans (congrArg some (by kernel_rfl))
  f246 := Tryz.func95.trans (congrArg some (by kernel_rfl))
  f283 := Tryz.func120.trans (congrArg some (by kernel_rfl))
  f284 := Tryz.func121.trans (congrArg some (by kernel_rfl))
  f285 := Tryz.func122.trans (congrArg some (by kernel_rfl))
  f286 := Tryz.func123.trans (congrArg some (by kernel_rfl))
  f317 := Tryz.func139.trans (congrArg some (by kernel_rfl))
  f318 := Tryz.func141.trans (congrArg some (by kernel_rfl))
  f319 := Tryz.func142.trans (congrArg some (by kernel_rfl))
  f320 := Tryz.func143.trans (congrArg some (by kernel_rfl))
  f337 := Tryz.func99.trans (congrArg some (by kernel_rfl))
  f338 := Tryz.func151.trans (congrArg some (by kernel_rfl))
  t0 := Tryz.underlying0
  a0 := Tryz.isAgg0
  z0 := Tryz.sizeOf0
  v0 := Tryz.zeroValue0
  t2 := Tryz.underlying2
  a2 := Tryz.isAgg2
  z2 := Tryz.sizeOf2
  v2 := Tryz.zeroValue2
  t3 := Tryz.underlying3
  a3 := Tryz.isAgg3
  z3 := Tryz.sizeOf3
  v3 := Tryz.zeroValue3
  t4 := Tryz.underlying4
  a4 := Tryz.isAgg4
  z4 := Tryz.sizeOf4
  v4 := Tryz.zeroValue4
  t5 := Tryz.underlying5
  a5 := Tryz.isAgg5
  z5 := Tryz.sizeOf5
  v5 := Tryz.zeroValue5
  t9 := Tryz.underlying9
  a9 := Tryz.isAgg9
  z9 := Tryz.sizeOf9
  v9 := Tryz.zeroValue9
  t20 := Tryz.underlying20
  a20 := Tryz.isAgg20
  z20 := Tryz.sizeOf20
  v20 := Tryz.zeroValue20
  t37 := Tryz.underlying47
  a37 := Tryz.isAgg47
  z37 := Tryz.sizeOf47
  v37 := Tryz.zeroValue47
  t46 := Tryz.underlying173
  a46 := Tryz.isAgg173
  z46 := Tryz.sizeOf173
  v46 := Tryz.zeroValue173
  t51 := Tryz.underlying22
  a51 := Tryz.isAgg22
  z51 := Tryz.sizeOf22
  v51 := Tryz.zeroValue22
  t53 := Tryz.underlying176
  a53 := Tryz.isAgg176
  z53 := Tryz.sizeOf176
  v53 := Tryz.zeroValue176
  t171 := Tryz.underlying175
  a171 := Tryz.isAgg175
  z171 := Tryz.sizeOf175
  v171 := Tryz.zeroValue175
  t173 := Tryz.underlying179
  a173 := Tryz.isAgg179
  z173 := Tryz.sizeOf179
  v173 := Tryz.zeroValue179
  t212 := Tryz.underlying203
  a212 := Tryz.isAgg203
  z212 := Tryz.sizeOf203
  v212 := Tryz.zeroValue203
  t213 := Tryz.underlying204
  a213 := Tryz.isAgg204
  z213 := Tryz.sizeOf204
  t232 := Tryz.underlying182
  a232 := Tryz.isAgg182
  z232 := Tryz.sizeOf182
  v232 := Tryz.zeroValue182
  t233 := Tryz.underlying219
  a233 := Tryz.isAgg219
  z233 := Tryz.sizeOf219
  v233 := Tryz.zeroValue219
  g17 := by kernel_rfl
  g18 := by kernel_rfl
  g19 := by kernel_rfl
  i0 := by kernel_rfl
  i2 := by kernel_rfl
  i3 := by kernel_rfl
  i4 := by kernel_rfl
  i5 := by kernel_rfl
  i9 := by kernel_rfl
  i20 := by kernel_rfl
  i37 := by kernel_rfl
  i46 := by kernel_rfl
  i51 := by kernel_rfl
  i53 := by kernel_rfl
  i171 := by kernel_rfl
  i173 := by kernel_rfl
  i212 := by kernel_rfl
  i232 := by kernel_rfl
  i233 := by kernel_rfl
  m17 := by kernel_rfl
  m18 := by kernel_rfl
  m19 := by kernel_rfl }
/-- The table of strconv lies in its variable. -/
def Pow (W : World) : Prop := Lib.TabIs Tryz.prog W "internal/strconv.uint64pow10" .u64 Lib.pow10Tab
theorem Pow.carry {W W' : World} (h : Pow W) (hb : Below W.heap.size W W') : Pow W' :=
  Go.Joins.tab_stays (show Tryz.prog.globalNamed "internal/strconv.uint64pow10" = some (ren171.g 17) by kernel_rfl) h hb (Nat.le_refl _)
theorem itoa_any (n : Int) (h0 : 0 ≤ n) (h1 : n ≤ 9223372036854775807) (w : World) (hT : Pow w) : Calls Tryz.prog 45 #[.int .i64 n] w fun e w' => e = .returned (.string ⟨(Lib.itoa n).toArray⟩) ∧ Below w.heap.size w w' :=
  (Any.strconv_Itoa lays171 n (by omega) h1 w hT).mono (by rintro e w' ⟨rfl, k, os, rfl⟩; exact ⟨rfl, Lib.below_grow _ _ (Nat.le_refl _) k os⟩)
set_option maxRecDepth 100000 in
theorem pow_eq : (Rows.laid_internal_strconv_uint64pow10 : DataW Unit) = Lib.tabData .u64 Lib.pow10Tab := by kernel_rfl
theorem pow_met {L : List (String × DataW Unit)} {W : World} (h : laidMet Tryz.prog L W) (h1 : ("internal/strconv.uint64pow10", (Rows.laid_internal_strconv_uint64pow10 : DataW Unit)) ∈ L) : Pow W := by
  have r1 := Lib.laidMet.reads h h1
  rw [pow_eq] at r1
  obtain ⟨g, t, cs, fuel, p, hg, hty, hvar, hd⟩ := r1
  obtain rfl := Option.some.inj ((show Tryz.prog.globalNamed "internal/strconv.uint64pow10" = some (ren171.g 17) by kernel_rfl).symm.trans hg)
  obtain rfl := Option.some.inj ((show (Tryz.prog.globals[ren171.g 17]?).map (·.type) = some (ren171.t 212) by kernel_rfl).symm.trans hty)
  unfold Pow Lib.TabIs
  rw [hvar, ← Lib.cells_of_tab lays171.t212 lays171.t53 (by kernel_rfl) (by kernel_rfl) hd]
end Go.Proofs.YtnkpohkodkjkfaaGreatDoor
namespace Go.Proofs.YtnkpohkodkjkfaaGreatDoor
open Go.RowKit Go.Shelf Go.Lib

section
variable {G : Type} {P : Program} {md : Region.Mode} {ops : Array Oper} {Q : Exit → Act → World → Prop} {X0 : Array Value} {val : G → Nat → Value} {J : G → (Nat → Bool) → World → Prop} {i : Nat} {o : Oper}
theorem stepG_build2 (hi : ops[i]? = some o) (hg : o.guard = none) (t : TypeId) (x y : Operand) (v u : Value) (ho : o.op = .buildSlice t 2 #[(0, x), (1, y)]) (hx : ∀ g, rdo md ops X0 (val g) i o x = some v) (hy : ∀ g, rdo md ops X0 (val g) i o y = some u)
    (h : ∀ g d w, J g d w → d i = false → (∀ j oj, ops[j]? = some oj → d j = true → ∀ k, bindsOn md oj k = true → d k = true) → ∃ g' w', (Instr.buildSlice t 2 #[(0, v), (1, u)]).run P w = .ok (val g' i) w' ∧ (∀ j, d j = true → val g' j = val g j) ∧ J g' (fun j => if j = i then true else d j) w') : StepG P md ops Q X0 val J i o := by
  intro g d a w hJ hun hdep hcl hS
  have hS' : Seen md ops X0 (val g) i o a := hS
  obtain ⟨g', w', h1, h2, h3⟩ := h g d w hJ hun hcl
  unfold wpOp
  rw [hi]
  simp only [Region.wanted, hg, if_true]
  refine .inl ?_
  unfold Oper.wp execOp
  simp only [ho, List.map_toArray, List.map_cons, List.map_nil, hS'.eval (hx g), hS'.eval (hy g), Sem.run_bind, h1, Result.andThen_ok, Sem.run_pure, Oper.upon_value]
  exact ⟨g', h2, rfl, h3⟩
end
theorem bin_adds {x y : Operand} {w : World} (a b : ByteArray) (h : a.size + b.size ≤ 9223372036854775807) : binRun Tryz.prog .add 9 x y (.string a) (.string b) w = .ok (.string (a ++ b)) w := by
  simp [binRun, go_sem]
  exact h
/-- The mark of a kind. -/
def mkI (k : Int) : Int := if k = 2 then 63 else 33
def mkS (k : Int) : ByteArray := if k = 2 then ⟨#[63]⟩ else ⟨#[33]⟩
/-- A notice's text. -/
def prT (c t k : Int) : ByteArray := (⟨(Utf8.encode c).data.toList.toArray⟩ ++ mkS k) ++ ⟨(decDigits t.toNat).toArray⟩
set_option maxHeartbeats 400000 in
theorem markOf_any (k : Int) (w : World) : Calls Tryz.prog 118 #[.int .i64 k] w fun e w' => e = .returned (.int .i32 (mkI k)) ∧ Below w.heap.size w w' := by
  unfold mkI
  by_cases h : k = 2
  · subst h
    go_enter Tryz.func118, Tryz.ntmps118
    go_wp2
    go_ret
    exact ⟨rfl, Below.refl _ _⟩
  · rw [if_neg h]
    go_enter Tryz.func118, Tryz.ntmps118
    go_wp2
    go_ret
    exact ⟨rfl, Below.refl _ _⟩
theorem txt_two_len (c m : Int) : (txt [c, m]).size ≤ 8 := by
  have e2 : (txt [c, m]).data.toList = (Utf8.encode c).data.toList ++ (Utf8.encode m).data.toList := by
    rw [txt_data]
    simp [wr]
  have h1 : (Utf8.encode c).data.toList.length ≤ 4 := by rw [enc_len]; exact (clen_pos _).2
  have h2 : (Utf8.encode m).data.toList.length ≤ 4 := by rw [enc_len]; exact (clen_pos _).2
  have h3 : (txt [c, m]).size = (txt [c, m]).data.toList.length := by simp
  rw [h3, e2, List.length_append]
  omega
theorem two_txt (c t k : Int) (ht : 0 ≤ t) : txt [c, mkI k] ++ ⟨(itoa t).toArray⟩ = prT c t k := by
  apply ByteArray.ext
  have e1 : itoa t = decDigits t.toNat := by unfold itoa; rw [if_neg (by omega)]
  have e2 : (txt [c, mkI k]).data.toList = (Utf8.encode c).data.toList ++ (Utf8.encode (mkI k)).data.toList := by
    rw [txt_data]
    simp [wr]
  have e3 : (Utf8.encode (mkI k)).data.toList = (mkS k).data.toList := by
    unfold mkI mkS
    by_cases h : k = 2
    · rw [if_pos h, if_pos h]; decide
    · rw [if_neg h, if_neg h]; decide
  apply Array.ext'
  unfold prT
  rw [e1]
  simp only [ByteArray.data_append, Array.toList_append, e2, e3]
/-- What Print answers. -/
def prV (l : List Int) (o t k : Int) : Value := if vl l.length o t k = true then .tuple #[.string (prT (l.getD o.toNat 0) t k), .int .i64 0] else .tuple #[.string ⟨#[]⟩, .int .i64 50]
theorem conv_two {W : World} {g : Nat} {c m : Int} (h : W.heap[g]? = some (.cells #[.int .i32 c, .int .i32 m] 21 (0, 0))) : (convert 30 9 (.slice (some ⟨g, 0, none⟩) 2 2)).run Tryz.prog W = .ok (.string (txt [c, m])) W := by
  rw [← runesBytes_txt]
  have h := run_convert_runes W 30 9 21 ⟨g, 0, none⟩ 2 2 [c, m] (Nat.le_refl _) Tryz.underlying30 Tryz.underlying21 Tryz.underlying9 (fun j hj => by
    have ha : (⟨g, 0, none⟩ : Addr).add j = ⟨g, j, none⟩ := by unfold Addr.add; split <;> simp_all
    rw [ha, cell_at h j]
    match j, hj with
    | 0, _ => rfl
    | 1, _ => rfl)
  exact h
theorem bs_two (W : World) (u v : Int) : (Instr.buildSlice 30 2 #[(0, .int .i32 u), (1, .int .i32 v)]).run Tryz.prog W = .ok (.slice (some ⟨W.heap.size, 0, none⟩) 2 2) (W.alloc (.cells #[.int .i32 u, .int .i32 v] 21)) := by
  go_simp
/-- What lies there as a notice is told. -/
structure JW (w : World) (ad : Option Addr) (cap : Nat) (mb : Option Nat) (l : List Int) (o t k c m : Int) (g : Nat) (x4 : Bool) (W : World) : Prop where
  q : JQ w ad cap mb l [(w.heap.size + 1, o, t, k)] W
  p : Pow W
  s : x4 = true → W.heap[g]? = some (.cells #[.int .i32 c, .int .i32 m] 21 (0, 0))
theorem JW.carry {w : World} {ad : Option Addr} {cap : Nat} {mb : Option Nat} {l : List Int} {o t k c m : Int} {g : Nat} {x4 : Bool} {W W' : World} (h : JW w ad cap mb l o t k c m g x4 W) (hb : Below W.heap.size W W') : JW w ad cap mb l o t k c m g x4 W' :=
  ⟨h.q.carry hb, h.p.carry hb, fun e => (hb.block _ (lt_at (h.s e))).trans (h.s e)⟩
theorem JW.get {w : World} {ad : Option Addr} {cap : Nat} {mb : Option Nat} {l : List Int} {o t k c m : Int} {g : Nat} {x4 : Bool} {W : World} (h : JW w ad cap mb l o t k c m g x4 W) (i : Nat) {B : Nat} {o' t' k' : Int} (hx : ([(w.heap.size + 1, o, t, k)] : List (Nat × Int × Int × Int))[i]? = some (B, o', t', k')) : NB W B o' t' k' := h.q.get i hx
theorem JW.new {w : World} {ad : Option Addr} {cap : Nat} {mb : Option Nat} {l : List Int} {o t k c m : Int} {g : Nat} {x4 : Bool} {W : World} (h : JW w ad cap mb l o t k c m g x4 W) : JW w ad cap mb l o t k c m W.heap.size true (W.alloc (.cells #[.int .i32 c, .int .i32 m] 21)) :=
  ⟨h.q.carry (al1 _ _), h.p.carry (al1 _ _), fun _ => new_at rfl⟩
set_option maxHeartbeats 4000000 in
set_option maxRecDepth 100000 in
theorem nprint_any {M : Nat} {v : Value} {l : List Int} (w : World) (h : Ros M w v l) (hM : M ≤ w.heap.size) (o t k : Int) (hT : Pow w) : Calls Tryz.prog 93 #[v, nt o t k] w fun e w' => e = .returned (prV l o t k) ∧ Below w.heap.size w w' := by
  have hmx : Tryz.prog.follows .mixedOrders = true := by kernel_rfl
  obtain ⟨ad, cap, mb, rfl⟩ := h.form
  have hq0 : JQ w ad cap mb l [(w.heap.size + 1, o, t, k)] ((w.alloc (.cells #[.slice ad l.length cap, .map mb] 33)).alloc (.cells #[.int .i64 o, .int .i64 t, .int .i64 k] 99)) :=
    ⟨old_at (new_at rfl), (h.below ((al2 w _ _).mono hM)).lift hM, by simpa using ((JL.nil w).old _).new o t k⟩
  have hP0 : Pow ((w.alloc (.cells #[.slice ad l.length cap, .map mb] 33)).alloc (.cells #[.int .i64 o, .int .i64 t, .int .i64 k] 99)) := hT.carry (al2 _ _ _)
  have hvl := valid_any l.length o t k
  unfold prV
  cases hv : vl l.length o t k with
  | false =>
    rw [if_neg (by simp)]
    rw [hv] at hvl
    go_enter Tryz.func93, Tryz.ntmps93
    unfold nt
    go_wp2
    rename_i Q0 K0 hK
    refine wp_region_any hmx ?_
    refine wpAny_pure (fun i__ => ([(.agg #[.slice ad l.length cap, .map mb]), (.int .i64 l.length), (nt o t k), (.bool false), (.bool true)] : List Value).getD i__ undef) (fun W => JQ w ad cap mb l [(w.heap.size + 1, o, t, k)] W) (by kernel_rfl) (hq0.carry (Below.refl _ _).drew) ?_ ?_
    · refine (stepsFrom_cons ?_ (stepsFrom_cons ?_ (stepsFrom_cons ?_ (stepsFrom_cons ?_ (stepsFrom_cons ?_ trivial)))))
      · exact step_load rfl trivial _ _ _ rfl rfl (fun w hw => load_ros hw.box)
      · exact step_call rfl trivial 15 _ _ [(.agg #[.slice ad l.length cap, .map mb])] rfl (by kernel_rfl) (enters_of Tryz.func15 (by kernel_rfl) rfl) (fun w hw => (size_any w hw.ros).mono (by rintro e w' ⟨rfl, hb⟩; exact ⟨rfl, hw.carry hb⟩))
      · exact step_load rfl trivial _ _ _ rfl rfl (fun w hw => load_nt (hw.get 0 rfl))
      · exact step_call rfl trivial 117 _ _ [(.int .i64 l.length), (nt o t k)] rfl (by kernel_rfl) (enters_of Tryz.func117 (by kernel_rfl) rfl) (fun w hw => (hvl w).mono (by rintro e w' ⟨rfl, hb⟩; exact ⟨rfl, hw.carry hb⟩))
      · exact step_unOp rfl trivial _ _ _ _ rfl rfl (fun w hw => un_not _ w)
    intro W hW
    first | refine hK _ _ ?_ | refine (‹∀ (a : Act) (w : World), Code.wp Tryz.prog _ _ a w → _›) _ _ ?_ | skip
    simp only [finL, List.getD_cons_zero, List.getD_cons_succ, Nat.zero_add, Nat.reduceAdd, List.setIfInBounds_toArray, List.set_cons_zero, List.set_cons_succ]
    go_wp2
    go_ret2
    exact ⟨rfl, hW.j.below⟩
  | true =>
    rw [if_pos rfl]
    rw [hv] at hvl
    obtain ⟨v1, v2, v3, v4, v5⟩ := of_decide_eq_true hv
    have ht := (rk_ok.1 v5).1
    have ht2 := (rk_ok.1 v5).2.1
    obtain ⟨n, rfl⟩ := Int.eq_ofNat_of_zero_le v3
    have hn : n < l.length := by omega
    have hsv : signV l (n : Int) = .tuple #[.int .i32 (l.getD n 0), .int .i64 0] := by
      unfold signV
      rw [if_neg (by omega), Int.toNat_natCast, List.getD_eq_getElem?_getD, List.getElem?_eq_getElem hn]
      rfl
    rw [Int.toNat_natCast]
    generalize l.getD n 0 = c at *
    have hmk := markOf_any k
    have htx := two_txt c t k ht
    have hsz : (txt [c, mkI k]).size + (⟨(itoa t).toArray⟩ : ByteArray).size ≤ 9223372036854775807 := by
      have h1 := itoa_length_le t (by omega) (by omega)
      have h2 := txt_two_len c (mkI k)
      have h3 : (⟨(itoa t).toArray⟩ : ByteArray).size = (itoa t).length := by simp [ByteArray.size]
      omega
    clear hv v1 v2 v3 v4 v5 h hT
    generalize mkI k = m at *
    generalize prT c t k = X at *
    go_enter Tryz.func93, Tryz.ntmps93
    unfold nt
    go_wp2
    rename_i Q0 K0 hK
    refine wp_region_any hmx ?_
    refine wpAny_pure (fun i__ => ([(.agg #[.slice ad l.length cap, .map mb]), (.int .i64 l.length), (nt (n : Int) t k), (.bool true), (.bool false)] : List Value).getD i__ undef) (fun W => JQ w ad cap mb l [(w.heap.size + 1, (n : Int), t, k)] W ∧ Pow W) (by kernel_rfl) ⟨hq0.carry (Below.refl _ _).drew, hP0.carry (Below.refl _ _).drew⟩ ?_ ?_
    · refine (stepsFrom_cons ?_ (stepsFrom_cons ?_ (stepsFrom_cons ?_ (stepsFrom_cons ?_ (stepsFrom_cons ?_ trivial)))))
      · exact step_load rfl trivial _ _ _ rfl rfl (fun w hw => load_ros hw.1.box)
      · exact step_call rfl trivial 15 _ _ [(.agg #[.slice ad l.length cap, .map mb])] rfl (by kernel_rfl) (enters_of Tryz.func15 (by kernel_rfl) rfl) (fun w hw => (size_any w hw.1.ros).mono (by rintro e w' ⟨rfl, hb⟩; exact ⟨rfl, hw.1.carry hb, hw.2.carry hb⟩))
      · exact step_load rfl trivial _ _ _ rfl rfl (fun w hw => load_nt (hw.1.get 0 rfl))
      · exact step_call rfl trivial 117 _ _ [(.int .i64 l.length), (nt (n : Int) t k)] rfl (by kernel_rfl) (enters_of Tryz.func117 (by kernel_rfl) rfl) (fun w hw => (hvl w).mono (by rintro e w' ⟨rfl, hb⟩; exact ⟨rfl, hw.1.carry hb, hw.2.carry hb⟩))
      · exact step_unOp rfl trivial _ _ _ _ rfl rfl (fun w hw => un_not _ w)
    intro W hW
    first | refine hK _ _ ?_ | refine (‹∀ (a : Act) (w : World), Code.wp Tryz.prog _ _ a w → _›) _ _ ?_ | skip
    simp only [finL, List.getD_cons_zero, List.getD_cons_succ, Nat.zero_add, Nat.reduceAdd, List.setIfInBounds_toArray, List.set_cons_zero, List.set_cons_succ]
    clear hK hq0 hP0
    have y0 := cell_at hW.1.box 0
    have y1 := cell_at hW.1.box 1
    have hx := hW.1.get 0 rfl
    have x0 := hx.c0
    have x1 := hx.c1
    have x2 := hx.c2
    have hsg := sign_any W hW.1.ros (Nat.le_of_lt (lt_at hW.1.box)) (n : Int)
    rw [hsv] at hsg
    go_wp2_with (go_at_call 69; (with_reducible refine hsg.mono ?_); rintro e u1 ⟨rfl, hb1⟩)
    have hj1 : JW w ad cap mb l (n : Int) t k c m 0 false u1 := ⟨hW.1.carry hb1, hW.2.carry hb1, fun e => by cases e⟩
    clear hW y0 y1 hx x0 x1 x2 hsg
    rename_i K1 hK
    refine wp_region_any hmx ?_
    refine wpAny_tabG (G := (Nat)) (fun g i__ => ([(.int .i32 c), (.pointer (some ⟨w.heap.size + 1, 2, none⟩)), (.int .i64 k), (.int .i32 m), (.slice (some ⟨g, 0, none⟩) 2 2), (.string (txt [c, m])), (.pointer (some ⟨w.heap.size + 1, 1, none⟩)), (.int .i64 t), (.string ⟨(itoa t).toArray⟩), (.string X), (.string X), (Go.Value.int Go.IntKind.i64 0)] : List Value).getD i__ undef) (fun g d W => JW w ad cap mb l (n : Int) t k c m g (d 4) W) (by kernel_rfl) (0) (hj1.carry (Below.refl _ _).drew) ?step1 ?fin1
    case step1 =>
      intro i o ho
      have hi : i < 12 := getElem?_lt ho
      match i, hi, ho with
      | 0, _, ho =>
        cases ho
        refine stepG_of (fun g d hdep => ?_)
        exact step_move rfl trivial _ rfl (by kernel_rfl)
      | 1, _, ho =>
        cases ho
        refine stepG_of (fun g d hdep => ?_)
        exact step_fieldAddr rfl trivial _ _ _ _ rfl rfl (fun w hw => field_n2 w _)
      | 2, _, ho =>
        cases ho
        refine stepG_of (fun g d hdep => ?_)
        exact step_load rfl trivial _ _ _ rfl rfl (fun w hw => load_n2 (hw.get 0 rfl))
      | 3, _, ho =>
        cases ho
        refine stepG_of (fun g d hdep => ?_)
        exact step_call rfl trivial 118 _ _ [(.int .i64 k)] rfl (by kernel_rfl) (enters_of Tryz.func118 (by kernel_rfl) rfl) (fun w hw => (hmk w).mono (by rintro e w' ⟨rfl, hb⟩; exact ⟨rfl, hw.carry hb⟩))
      | 4, _, ho =>
        cases ho
        exact stepG_build2 rfl rfl _ _ _ (.int .i32 c) (.int .i32 m) rfl (fun _ => rfl) (fun _ => rfl) (fun g d W' hJ hun hcl => ⟨W'.heap.size, _, bs_two W' c m, (fun j hj => match j, hj with | 4, hj => (by rw [hj] at hun; cases hun)  | 0, _ => rfl | 1, _ => rfl | 2, _ => rfl | 3, _ => rfl | 5, _ => rfl | 6, _ => rfl | 7, _ => rfl | 8, _ => rfl | 9, _ => rfl | 10, _ => rfl | 11, _ => rfl | _ + 12, _ => rfl), hJ.new⟩)
      | 5, _, ho =>
        cases ho
        refine stepG_of (fun g d hdep => ?_)
        exact step_convert rfl trivial _ _ _ _ rfl rfl (fun w hw => conv_two (hw.s (hdep 4 (by kernel_rfl))))
      | 6, _, ho =>
        cases ho
        refine stepG_of (fun g d hdep => ?_)
        exact step_fieldAddr rfl trivial _ _ _ _ rfl rfl (fun w hw => field_n1 w _)
      | 7, _, ho =>
        cases ho
        refine stepG_of (fun g d hdep => ?_)
        exact step_load rfl trivial _ _ _ rfl rfl (fun w hw => load_n1 (hw.get 0 rfl))
      | 8, _, ho =>
        cases ho
        refine stepG_of (fun g d hdep => ?_)
        exact step_call rfl trivial 45 _ _ [(.int .i64 t)] rfl (by kernel_rfl) (enters_of Tryz.func45 (by kernel_rfl) rfl) (fun w hw => (itoa_any t ht (by omega) w hw.p).mono (by rintro e w' ⟨rfl, hb⟩; exact ⟨rfl, hw.carry hb⟩))
      | 9, _, ho =>
        cases ho
        refine stepG_of (fun g d hdep => ?_)
        exact step_binOp rfl trivial _ _ _ _ _ _ _ rfl rfl rfl (fun w hw => (bin_adds _ _ hsz).trans (by rw [htx]; rfl))
      | 10, _, ho =>
        cases ho
        refine stepG_of (fun g d hdep => ?_)
        exact step_assign rfl trivial _ rfl (by kernel_rfl) (fun _ h => h)
      | 11, _, ho =>
        cases ho
        refine stepG_of (fun g d hdep => ?_)
        exact step_assign rfl trivial _ rfl (by kernel_rfl) (fun _ h => h)
    intro g d W hall hW
    first | refine hK _ _ ?_ | refine (‹∀ (a : Act) (w : World), Code.wp Tryz.prog _ _ a w → _›) _ _ ?_ | skip
    simp only [finL, List.getD_cons_zero, List.getD_cons_succ, Nat.zero_add, Nat.reduceAdd, List.setIfInBounds_toArray, List.set_cons_zero, List.set_cons_succ]
    go_wp2
    go_ret2
    exact ⟨rfl, hW.q.j.below⟩

def dgt (b : UInt8) : Prop := 48 ≤ b.toNat ∧ b.toNat ≤ 57
def valL (r : List UInt8) (v : Nat) : Nat := r.foldl (fun a b => a * 10 + (b.toNat - 48)) v
theorem valL_ge : ∀ (r : List UInt8) (v : Nat), v ≤ valL r v
  | [], v => Nat.le_refl v
  | b :: r, v => by have := valL_ge r (v * 10 + (b.toNat - 48)); simp only [valL, List.foldl_cons] at this ⊢; omega
theorem valL_snoc (r : List UInt8) (b : UInt8) (v : Nat) : valL (r ++ [b]) v = valL r v * 10 + (b.toNat - 48) := by simp [valL]
theorem byt_drop (s : ByteArray) (p : Nat) (h : p < s.size) : ∃ b r, s.data.toList.drop p = b :: r ∧ b.toNat = byt s p ∧ r = s.data.toList.drop (p + 1) := by
  have hl : p < s.data.toList.length := by simpa using h
  refine ⟨s.data.toList[p], s.data.toList.drop (p + 1), List.drop_eq_getElem_cons hl, ?_, rfl⟩
  rw [byt_get h]
  simp [ByteArray.getElem_eq_getElem_data]
theorem byt_at (pre : List UInt8) (b : UInt8) (r : List UInt8) : byt ⟨(pre ++ b :: r).toArray⟩ pre.length = b.toNat := by
  have h : pre.length < (⟨(pre ++ b :: r).toArray⟩ : ByteArray).size := by show pre.length < (pre ++ b :: r).toArray.size; simp
  have e : (⟨(pre ++ b :: r).toArray⟩ : ByteArray)[pre.length]'h = b := by
    show (pre ++ b :: r).toArray[pre.length]'_ = b
    simp
  rw [byt, dif_pos h, e]
theorem numAt_good : ∀ (r pre : List UInt8) (v : Nat), (∀ b ∈ r, dgt b) → valL r v ≤ 1099511627776 → numAt ⟨(pre ++ r).toArray⟩ r.length pre.length v = some (valL r v)
  | [], pre, v, _, _ => rfl
  | b :: r, pre, v, hd, hv => by
    have h1 := hd b (List.mem_cons_self ..)
    have hlt : pre.length < (⟨(pre ++ b :: r).toArray⟩ : ByteArray).size := by show pre.length < (pre ++ b :: r).toArray.size; simp
    have hb := byt_at pre b r
    have hg : ¬ 1099511627776 < v * 10 + (b.toNat - 48) := by have := valL_ge r (v * 10 + (b.toNat - 48)); simp only [valL, List.foldl_cons] at this hv; omega
    have ih := numAt_good r (pre ++ [b]) (v * 10 + (b.toNat - 48)) (fun c hc => hd c (List.mem_cons_of_mem _ hc)) hv
    rw [List.length_cons, numAt_on _ _ _ _ hlt (by rw [hb]; exact h1) (by rw [hb]; exact hg), hb]
    have hvc : valL (b :: r) v = valL r (v * 10 + (b.toNat - 48)) := rfl
    rw [hvc]
    simpa using ih
theorem dec_spec (v : Nat) : (∀ b ∈ decDigits v, dgt b) ∧ valL (decDigits v) 0 = v ∧ (∃ b r, decDigits v = b :: r ∧ (r ≠ [] → b.toNat ≠ 48) ∧ (1 ≤ v → b.toNat ≠ 48)) := by
  induction v using Nat.strongRecOn with
  | ind v ih =>
    have hd : (UInt8.ofNat (48 + v % 10)).toNat = 48 + v % 10 := ofNat8 _ (by omega)
    by_cases h : v < 10
    · rw [decDigits_one h]
      have hd2 : (UInt8.ofNat (48 + v)).toNat = 48 + v := ofNat8 _ (by omega)
      refine ⟨fun b hb => ?_, ?_, _, [], rfl, fun h => absurd rfl h, fun h1 => by omega⟩
      · rw [List.mem_singleton.1 hb]; unfold dgt; omega
      · simp only [valL, List.foldl_cons, List.foldl_nil, hd2]; omega
    · obtain ⟨i1, i2, b, r, e, _, i4⟩ := ih (v / 10) (by omega)
      rw [decDigits, dif_neg h]
      refine ⟨fun x hx => ?_, ?_, b, r ++ [UInt8.ofNat (48 + v % 10)], by rw [e]; rfl, fun _ => i4 (by omega), fun _ => i4 (by omega)⟩
      · rcases List.mem_append.1 hx with hx | hx
        · exact i1 x hx
        · rw [List.mem_singleton.1 hx]; unfold dgt; omega
      · rw [valL_snoc, i2, hd]; omega
theorem num_digits (v : Nat) (hv : v ≤ 1048576) : numR ⟨(decDigits v).toArray⟩ = some v := by
  obtain ⟨h1, h2, b, r, e, h3, _⟩ := dec_spec v
  have hsz : (⟨(decDigits v).toArray⟩ : ByteArray).size = (decDigits v).length := by show (decDigits v).toArray.size = _; simp
  have hb0 : byt ⟨(decDigits v).toArray⟩ 0 = b.toNat := by rw [e]; exact byt_at [] b r
  unfold numR
  rw [if_neg, hsz]
  · have := numAt_good (decDigits v) [] 0 h1 (by rw [h2]; omega)
    rw [h2] at this
    exact this
  · rw [hsz, hb0]
    rintro (c | ⟨c, d⟩)
    · rw [e] at c; simp at c
    · refine h3 (fun hr => ?_) c
      rw [e, hr] at d
      simp at d
theorem mkS_data (k : Int) : (mkS k).data.toList = [if k = 2 then 63 else 33] := by
  unfold mkS
  by_cases h : k = 2
  · rw [if_pos h, if_pos h]
  · rw [if_neg h, if_neg h]
theorem prT_data (c t k : Int) : (prT c t k).data.toList = (Utf8.encode c).data.toList ++ ([if k = 2 then 63 else 33] ++ decDigits t.toNat) := by
  unfold prT
  simp only [ByteArray.data_append, Array.toList_append, mkS_data, List.append_assoc]
theorem ba_ext {a b : ByteArray} (h : a.data.toList = b.data.toList) : a = b := ByteArray.ext (Array.ext' h)
set_option maxHeartbeats 1000000 in
/-- What is told is read as it was. -/
theorem rd_print {l : List Int} (hS : Signs l) {o t k : Int} (h : vl l.length o t k = true) : rdD l (prT (l.getD o.toNat 0) t k) = (o, t, k, 0) ∧ (prT (l.getD o.toNat 0) t k).size ≤ 25 := by
  obtain ⟨v1, v2, v3, v4, v5⟩ := of_decide_eq_true h
  obtain ⟨t1, t2, tk⟩ := rk_ok.1 v5
  obtain ⟨n, rfl⟩ := Int.eq_ofNat_of_zero_le v3
  obtain ⟨x, rfl⟩ := Int.eq_ofNat_of_zero_le t1
  have hn : n < l.length := by omega
  have hget : l.getD n 0 = l[n] := by rw [List.getD_eq_getElem?_getD, List.getElem?_eq_getElem hn]; rfl
  have hmem : l[n] ∈ l := List.getElem_mem hn
  have hcode := code_letter (hS.letter _ hmem)
  rw [Int.toNat_natCast, hget]
  have hdat := prT_data l[n] (x : Int) k
  rw [Int.toNat_natCast] at hdat
  have hel := enc_len l[n]
  have hcl := clen_pos (code l[n])
  have hdl : (decDigits x).length ≤ 20 := by rw [decDigits_length]; exact nDigits_le20 x (by omega)
  have hdp : 1 ≤ (decDigits x).length := by rw [decDigits_length]; exact nDigits_pos x
  have hix : l.idxOf l[n] = n := hS.nodup.idxOf_getElem n hn
  generalize prT l[n] (x : Int) k = s at *
  have hlen : s.data.toList.length = s.size := by simp
  have hdec := dec_enc s [] _ l[n] (by rw [List.nil_append]; exact hdat)
  rw [List.length_nil] at hdec
  have hr : rn s 0 = code l[n] := by unfold rn; rw [hdec]
  have hw : wdt s 0 = clen (code l[n]) := by unfold wdt; rw [hdec]
  have hsz : s.size = clen (code l[n]) + (1 + (decDigits x).length) := by rw [← hlen, hdat]; simp [hel]; omega
  have hlo : looseB s 0 = false := loose_no_letter (by rw [hr, hcode]; exact hS.letter _ hmem)
  have hby : byt s (wdt s 0) = if k = 2 then 63 else 33 := by
    obtain ⟨b, r, e1, e2, _⟩ := byt_drop s (wdt s 0) (by omega)
    rw [hdat, hw, ← hel, List.drop_left] at e1
    obtain ⟨rfl, _⟩ := List.cons.inj e1
    rw [← e2]
    split <;> rfl
  have hex : s.extract (wdt s 0 + 1) s.size = ⟨(decDigits x).toArray⟩ := by
    apply ba_ext
    have hex : (s.extract (wdt s 0 + 1) s.size).data.toList = s.data.toList.drop (wdt s 0 + 1) := by
      rw [ByteArray.data_extract, Array.toList_extract, List.extract_eq_take_drop]
      apply List.take_of_length_le
      rw [List.length_drop]
      omega
    rw [hex, hdat, hw, ← hel, ← List.drop_drop, List.drop_left]
    rfl
  refine ⟨?_, by omega⟩
  unfold rdD
  rw [if_neg (by omega), if_neg, hex, num_digits x (by omega)]
  · dsimp only
    rw [if_neg (by omega), hr, hcode, hix, hby]
    rcases tk with rfl | rfl
    · rfl
    · rfl
  · rintro (e | e | e | e | ⟨e1, e2⟩)
    · omega
    · rw [hlo] at e; cases e
    · rw [hr, hcode] at e; exact e hmem
    · omega
    · rw [hby] at e1 e2
      split at e1
      · exact e1 rfl
      · rename_i hk
        rw [if_neg hk] at e2
        exact e2 rfl
end Go.Proofs.YtnkpohkodkjkfaaGreatDoor
