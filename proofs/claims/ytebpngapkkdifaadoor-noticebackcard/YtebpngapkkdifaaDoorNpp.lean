/- notice.Print: what it answers, at every roster and notice. -/
import Derived.Test.YtebpngapkkdifaaDoorNrf
import Derived.Lib.ItoaNum
import Derived.Lib.ItoaLen
import Derived.Test.YtebpngapkkdifaaDoorIto
namespace Go.Proofs.YtebpngapkkdifaaDoor
open Go.RowKit Go.Shelf Go.Lib

section
variable {G : Type} {P : Program} {md : Region.Mode} {ops : Array Oper} {Q : Exit → Act → World → Prop} {X0 : Array Value} {val : G → Nat → Value} {J : G → (Nat → Bool) → World → Prop} {i : Nat} {o : Oper}
theorem stepG_build2 (hi : ops[i]? = some o) (hg : o.guard = none) (t : TypeId) (x y : Operand) (v u : Value) (ho : o.op = .buildSlice t 2 #[(0, x), (1, y)]) (hx : ∀ g, rdo md ops X0 (val g) i o x = some v) (hy : ∀ g, rdo md ops X0 (val g) i o y = some u)
    (h : ∀ g d w, J g d w → d i = false → (∀ j oj, ops[j]? = some oj → d j = true → ∀ k, bindsOn md oj k = true → d k = true) → ∃ g' w', (Instr.buildSlice t 2 #[(0, v), (1, u)]).run P w = .ok (val g' i) w' ∧ (∀ j, d j = true → val g' j = val g j) ∧ J g' (fun j => if j = i then true else d j) w') : StepG P md ops Q X0 val J i o := by
  intro g d a w hJ hun hdep hcl hS
  have hS' : Seen md ops X0 (val g) i o a := hS
  obtain ⟨g', w', h1, h2, h3⟩ := h g d w hJ hun hcl
  unfold wpOp
  rw [hi]
  simp only [Region.wanted, hg, if_true]
  refine .inl ?_
  unfold Oper.wp execOp
  simp only [ho, List.map_toArray, List.map_cons, List.map_nil, hS'.eval (hx g), hS'.eval (hy g), Sem.run_bind, h1, Result.andThen_ok, Sem.run_pure, Oper.upon_value]
  exact ⟨g', h2, rfl, h3⟩
end
theorem bin_adds {x y : Operand} {w : World} (a b : ByteArray) (h : a.size + b.size ≤ 9223372036854775807) : binRun Tryd.prog .add 9 x y (.string a) (.string b) w = .ok (.string (a ++ b)) w := by
  simp [binRun, go_sem]
  exact h
/-- The mark of a kind. -/
def mkI (k : Int) : Int := if k = 2 then 63 else 33
def mkS (k : Int) : ByteArray := if k = 2 then ⟨#[63]⟩ else ⟨#[33]⟩
/-- A notice's text. -/
def prT (c t k : Int) : ByteArray := (⟨(Utf8.encode c).data.toList.toArray⟩ ++ mkS k) ++ ⟨(decDigits t.toNat).toArray⟩
set_option maxHeartbeats 400000 in
theorem markOf_any (k : Int) (w : World) : Calls Tryd.prog 13 #[.int .i64 k] w fun e w' => e = .returned (.int .i32 (mkI k)) ∧ Below w.heap.size w w' := by
  unfold mkI
  by_cases h : k = 2
  · subst h
    go_enter Tryd.func13, Tryd.ntmps13
    go_wp2
    go_ret
    exact ⟨rfl, Below.refl _ _⟩
  · rw [if_neg h]
    go_enter Tryd.func13, Tryd.ntmps13
    go_wp2
    go_ret
    exact ⟨rfl, Below.refl _ _⟩
theorem txt_two_len (c m : Int) : (txt [c, m]).size ≤ 8 := by
  have e2 : (txt [c, m]).data.toList = (Utf8.encode c).data.toList ++ (Utf8.encode m).data.toList := by
    rw [txt_data]
    simp [wr]
  have h1 : (Utf8.encode c).data.toList.length ≤ 4 := by rw [enc_len]; exact (clen_pos _).2
  have h2 : (Utf8.encode m).data.toList.length ≤ 4 := by rw [enc_len]; exact (clen_pos _).2
  have h3 : (txt [c, m]).size = (txt [c, m]).data.toList.length := by simp
  rw [h3, e2, List.length_append]
  omega
theorem two_txt (c t k : Int) (ht : 0 ≤ t) : txt [c, mkI k] ++ ⟨(itoa t).toArray⟩ = prT c t k := by
  apply ByteArray.ext
  have e1 : itoa t = decDigits t.toNat := by unfold itoa; rw [if_neg (by omega)]
  have e2 : (txt [c, mkI k]).data.toList = (Utf8.encode c).data.toList ++ (Utf8.encode (mkI k)).data.toList := by
    rw [txt_data]
    simp [wr]
  have e3 : (Utf8.encode (mkI k)).data.toList = (mkS k).data.toList := by
    unfold mkI mkS
    by_cases h : k = 2
    · rw [if_pos h, if_pos h]; decide
    · rw [if_neg h, if_neg h]; decide
  apply Array.ext'
  unfold prT
  rw [e1]
  simp only [ByteArray.data_append, Array.toList_append, e2, e3]
/-- What Print answers. -/
def prV (l : List Int) (o t k : Int) : Value := if vl l.length o t k = true then .tuple #[.string (prT (l.getD o.toNat 0) t k), .int .i64 0] else .tuple #[.string ⟨#[]⟩, .int .i64 50]
theorem conv_two {W : World} {g : Nat} {c m : Int} (h : W.heap[g]? = some (.cells #[.int .i32 c, .int .i32 m] 21 (0, 0))) : (convert 24 9 (.slice (some ⟨g, 0, none⟩) 2 2)).run Tryd.prog W = .ok (.string (txt [c, m])) W := by
  rw [← runesBytes_txt]
  have h := run_convert_runes W 24 9 21 ⟨g, 0, none⟩ 2 2 [c, m] (Nat.le_refl _) Tryd.underlying24 Tryd.underlying21 Tryd.underlying9 (fun j hj => by
    have ha : (⟨g, 0, none⟩ : Addr).add j = ⟨g, j, none⟩ := by unfold Addr.add; split <;> simp_all
    rw [ha, cell_at h j]
    match j, hj with
    | 0, _ => rfl
    | 1, _ => rfl)
  exact h
theorem bs_two (W : World) (u v : Int) : (Instr.buildSlice 24 2 #[(0, .int .i32 u), (1, .int .i32 v)]).run Tryd.prog W = .ok (.slice (some ⟨W.heap.size, 0, none⟩) 2 2) (W.alloc (.cells #[.int .i32 u, .int .i32 v] 21)) := by
  go_simp
/-- What lies there as a notice is told. -/
structure JW (w : World) (ad : Option Addr) (cap : Nat) (mb : Option Nat) (l : List Int) (o t k c m : Int) (g : Nat) (x4 : Bool) (W : World) : Prop where
  q : JQ w ad cap mb l [(w.heap.size + 1, o, t, k)] W
  p : Pow W
  s : x4 = true → W.heap[g]? = some (.cells #[.int .i32 c, .int .i32 m] 21 (0, 0))
theorem JW.carry {w : World} {ad : Option Addr} {cap : Nat} {mb : Option Nat} {l : List Int} {o t k c m : Int} {g : Nat} {x4 : Bool} {W W' : World} (h : JW w ad cap mb l o t k c m g x4 W) (hb : Below W.heap.size W W') : JW w ad cap mb l o t k c m g x4 W' :=
  ⟨h.q.carry hb, h.p.carry hb, fun e => (hb.block _ (lt_at (h.s e))).trans (h.s e)⟩
theorem JW.get {w : World} {ad : Option Addr} {cap : Nat} {mb : Option Nat} {l : List Int} {o t k c m : Int} {g : Nat} {x4 : Bool} {W : World} (h : JW w ad cap mb l o t k c m g x4 W) (i : Nat) {B : Nat} {o' t' k' : Int} (hx : ([(w.heap.size + 1, o, t, k)] : List (Nat × Int × Int × Int))[i]? = some (B, o', t', k')) : NB W B o' t' k' := h.q.get i hx
theorem JW.new {w : World} {ad : Option Addr} {cap : Nat} {mb : Option Nat} {l : List Int} {o t k c m : Int} {g : Nat} {x4 : Bool} {W : World} (h : JW w ad cap mb l o t k c m g x4 W) : JW w ad cap mb l o t k c m W.heap.size true (W.alloc (.cells #[.int .i32 c, .int .i32 m] 21)) :=
  ⟨h.q.carry (al1 _ _), h.p.carry (al1 _ _), fun _ => new_at rfl⟩
set_option maxHeartbeats 4000000 in
set_option maxRecDepth 100000 in
theorem nprint_any {M : Nat} {v : Value} {l : List Int} (w : World) (h : Ros M w v l) (hM : M ≤ w.heap.size) (o t k : Int) (hT : Pow w) : Calls Tryd.prog 5 #[v, nt o t k] w fun e w' => e = .returned (prV l o t k) ∧ Below w.heap.size w w' := by
  have hmx : Tryd.prog.follows .mixedOrders = true := by kernel_rfl
  obtain ⟨ad, cap, mb, rfl⟩ := h.form
  have hq0 : JQ w ad cap mb l [(w.heap.size + 1, o, t, k)] ((w.alloc (.cells #[.slice ad l.length cap, .map mb] 27)).alloc (.cells #[.int .i64 o, .int .i64 t, .int .i64 k] 23)) :=
    ⟨old_at (new_at rfl), (h.below ((al2 w _ _).mono hM)).lift hM, by simpa using ((JL.nil w).old _).new o t k⟩
  have hP0 : Pow ((w.alloc (.cells #[.slice ad l.length cap, .map mb] 27)).alloc (.cells #[.int .i64 o, .int .i64 t, .int .i64 k] 23)) := hT.carry (al2 _ _ _)
  have hvl := valid_any l.length o t k
  unfold prV
  cases hv : vl l.length o t k with
  | false =>
    rw [if_neg (by simp)]
    rw [hv] at hvl
    go_enter Tryd.func5, Tryd.ntmps5
    unfold nt
    go_wp2
    rename_i Q0 K0 hK
    refine wp_region_any hmx ?_
    refine wpAny_pure (fun i__ => ([(.agg #[.slice ad l.length cap, .map mb]), (.int .i64 l.length), (nt o t k), (.bool false), (.bool true)] : List Value).getD i__ undef) (fun W => JQ w ad cap mb l [(w.heap.size + 1, o, t, k)] W) (by kernel_rfl) (hq0.carry (Below.refl _ _).drew) ?_ ?_
    · refine (stepsFrom_cons ?_ (stepsFrom_cons ?_ (stepsFrom_cons ?_ (stepsFrom_cons ?_ (stepsFrom_cons ?_ trivial)))))
      · exact step_load rfl trivial _ _ _ rfl rfl (fun w hw => load_ros hw.box)
      · exact step_call rfl trivial 11 _ _ [(.agg #[.slice ad l.length cap, .map mb])] rfl (by kernel_rfl) (enters_of Tryd.func11 (by kernel_rfl) rfl) (fun w hw => (size_any w hw.ros).mono (by rintro e w' ⟨rfl, hb⟩; exact ⟨rfl, hw.carry hb⟩))
      · exact step_load rfl trivial _ _ _ rfl rfl (fun w hw => load_nt (hw.get 0 rfl))
      · exact step_call rfl trivial 10 _ _ [(.int .i64 l.length), (nt o t k)] rfl (by kernel_rfl) (enters_of Tryd.func10 (by kernel_rfl) rfl) (fun w hw => (hvl w).mono (by rintro e w' ⟨rfl, hb⟩; exact ⟨rfl, hw.carry hb⟩))
      · exact step_unOp rfl trivial _ _ _ _ rfl rfl (fun w hw => un_not _ w)
    intro W hW
    first | refine hK _ _ ?_ | refine (‹∀ (a : Act) (w : World), Code.wp Tryd.prog _ _ a w → _›) _ _ ?_
    simp only [finL, List.getD_cons_zero, List.getD_cons_succ, Nat.zero_add, Nat.reduceAdd, List.setIfInBounds_toArray, List.set_cons_zero, List.set_cons_succ]
    go_wp2
    go_ret2
    exact ⟨rfl, hW.j.below⟩
  | true =>
    rw [if_pos rfl]
    rw [hv] at hvl
    obtain ⟨v1, v2, v3, v4, v5⟩ := of_decide_eq_true hv
    have ht := (rk_ok.1 v5).1
    have ht2 := (rk_ok.1 v5).2.1
    obtain ⟨n, rfl⟩ := Int.eq_ofNat_of_zero_le v3
    have hn : n < l.length := by omega
    have hsv : signV l (n : Int) = .tuple #[.int .i32 (l.getD n 0), .int .i64 0] := by
      unfold signV
      rw [if_neg (by omega), Int.toNat_natCast, List.getD_eq_getElem?_getD, List.getElem?_eq_getElem hn]
      rfl
    rw [Int.toNat_natCast]
    generalize l.getD n 0 = c at *
    have hmk := markOf_any k
    have htx := two_txt c t k ht
    have hsz : (txt [c, mkI k]).size + (⟨(itoa t).toArray⟩ : ByteArray).size ≤ 9223372036854775807 := by
      have h1 := itoa_length_le t (by omega) (by omega)
      have h2 := txt_two_len c (mkI k)
      have h3 : (⟨(itoa t).toArray⟩ : ByteArray).size = (itoa t).length := by simp [ByteArray.size]
      omega
    clear hv v1 v2 v3 v4 v5 h hT
    generalize mkI k = m at *
    generalize prT c t k = X at *
    go_enter Tryd.func5, Tryd.ntmps5
    unfold nt
    go_wp2
    rename_i Q0 K0 hK
    refine wp_region_any hmx ?_
    refine wpAny_pure (fun i__ => ([(.agg #[.slice ad l.length cap, .map mb]), (.int .i64 l.length), (nt (n : Int) t k), (.bool true), (.bool false)] : List Value).getD i__ undef) (fun W => JQ w ad cap mb l [(w.heap.size + 1, (n : Int), t, k)] W ∧ Pow W) (by kernel_rfl) ⟨hq0.carry (Below.refl _ _).drew, hP0.carry (Below.refl _ _).drew⟩ ?_ ?_
    · refine (stepsFrom_cons ?_ (stepsFrom_cons ?_ (stepsFrom_cons ?_ (stepsFrom_cons ?_ (stepsFrom_cons ?_ trivial)))))
      · exact step_load rfl trivial _ _ _ rfl rfl (fun w hw => load_ros hw.1.box)
      · exact step_call rfl trivial 11 _ _ [(.agg #[.slice ad l.length cap, .map mb])] rfl (by kernel_rfl) (enters_of Tryd.func11 (by kernel_rfl) rfl) (fun w hw => (size_any w hw.1.ros).mono (by rintro e w' ⟨rfl, hb⟩; exact ⟨rfl, hw.1.carry hb, hw.2.carry hb⟩))
      · exact step_load rfl trivial _ _ _ rfl rfl (fun w hw => load_nt (hw.1.get 0 rfl))
      · exact step_call rfl trivial 10 _ _ [(.int .i64 l.length), (nt (n : Int) t k)] rfl (by kernel_rfl) (enters_of Tryd.func10 (by kernel_rfl) rfl) (fun w hw => (hvl w).mono (by rintro e w' ⟨rfl, hb⟩; exact ⟨rfl, hw.1.carry hb, hw.2.carry hb⟩))
      · exact step_unOp rfl trivial _ _ _ _ rfl rfl (fun w hw => un_not _ w)
    intro W hW
    first | refine hK _ _ ?_ | refine (‹∀ (a : Act) (w : World), Code.wp Tryd.prog _ _ a w → _›) _ _ ?_
    simp only [finL, List.getD_cons_zero, List.getD_cons_succ, Nat.zero_add, Nat.reduceAdd, List.setIfInBounds_toArray, List.set_cons_zero, List.set_cons_succ]
    clear hK hq0 hP0
    have y0 := cell_at hW.1.box 0
    have y1 := cell_at hW.1.box 1
    have hx := hW.1.get 0 rfl
    have x0 := hx.c0
    have x1 := hx.c1
    have x2 := hx.c2
    have hsg := sign_any W hW.1.ros (Nat.le_of_lt (lt_at hW.1.box)) (n : Int)
    rw [hsv] at hsg
    go_wp2_with (go_at_call 12; (with_reducible refine hsg.mono ?_); rintro e u1 ⟨rfl, hb1⟩)
    have hj1 : JW w ad cap mb l (n : Int) t k c m 0 false u1 := ⟨hW.1.carry hb1, hW.2.carry hb1, fun e => by cases e⟩
    clear hW y0 y1 hx x0 x1 x2 hsg
    rename_i K1 hK
    refine wp_region_any hmx ?_
    refine wpAny_tabG (G := (Nat)) (fun g i__ => ([(.int .i32 c), (.pointer (some ⟨w.heap.size + 1, 2, none⟩)), (.int .i64 k), (.int .i32 m), (.slice (some ⟨g, 0, none⟩) 2 2), (.string (txt [c, m])), (.pointer (some ⟨w.heap.size + 1, 1, none⟩)), (.int .i64 t), (.string ⟨(itoa t).toArray⟩), (.string X), (.string X), (Go.Value.int Go.IntKind.i64 0)] : List Value).getD i__ undef) (fun g d W => JW w ad cap mb l (n : Int) t k c m g (d 4) W) (by kernel_rfl) (0) (hj1.carry (Below.refl _ _).drew) ?step1 ?fin1
    case step1 =>
      intro i o ho
      have hi : i < 12 := getElem?_lt ho
      match i, hi, ho with
      | 0, _, ho =>
        cases ho
        refine stepG_of (fun g d hdep => ?_)
        exact step_move rfl trivial _ rfl (by kernel_rfl)
      | 1, _, ho =>
        cases ho
        refine stepG_of (fun g d hdep => ?_)
        exact step_fieldAddr rfl trivial _ _ _ _ rfl rfl (fun w hw => field_n2 w _)
      | 2, _, ho =>
        cases ho
        refine stepG_of (fun g d hdep => ?_)
        exact step_load rfl trivial _ _ _ rfl rfl (fun w hw => load_n2 (hw.get 0 rfl))
      | 3, _, ho =>
        cases ho
        refine stepG_of (fun g d hdep => ?_)
        exact step_call rfl trivial 13 _ _ [(.int .i64 k)] rfl (by kernel_rfl) (enters_of Tryd.func13 (by kernel_rfl) rfl) (fun w hw => (hmk w).mono (by rintro e w' ⟨rfl, hb⟩; exact ⟨rfl, hw.carry hb⟩))
      | 4, _, ho =>
        cases ho
        exact stepG_build2 rfl rfl _ _ _ (.int .i32 c) (.int .i32 m) rfl (fun _ => rfl) (fun _ => rfl) (fun g d W' hJ hun hcl => ⟨W'.heap.size, _, bs_two W' c m, (fun j hj => match j, hj with | 4, hj => (by rw [hj] at hun; cases hun)  | 0, _ => rfl | 1, _ => rfl | 2, _ => rfl | 3, _ => rfl | 5, _ => rfl | 6, _ => rfl | 7, _ => rfl | 8, _ => rfl | 9, _ => rfl | 10, _ => rfl | 11, _ => rfl | _ + 12, _ => rfl), hJ.new⟩)
      | 5, _, ho =>
        cases ho
        refine stepG_of (fun g d hdep => ?_)
        exact step_convert rfl trivial _ _ _ _ rfl rfl (fun w hw => conv_two (hw.s (hdep 4 (by kernel_rfl))))
      | 6, _, ho =>
        cases ho
        refine stepG_of (fun g d hdep => ?_)
        exact step_fieldAddr rfl trivial _ _ _ _ rfl rfl (fun w hw => field_n1 w _)
      | 7, _, ho =>
        cases ho
        refine stepG_of (fun g d hdep => ?_)
        exact step_load rfl trivial _ _ _ rfl rfl (fun w hw => load_n1 (hw.get 0 rfl))
      | 8, _, ho =>
        cases ho
        refine stepG_of (fun g d hdep => ?_)
        exact step_call rfl trivial 14 _ _ [(.int .i64 t)] rfl (by kernel_rfl) (enters_of Tryd.func14 (by kernel_rfl) rfl) (fun w hw => (itoa_any t ht (by omega) w hw.p).mono (by rintro e w' ⟨rfl, hb⟩; exact ⟨rfl, hw.carry hb⟩))
      | 9, _, ho =>
        cases ho
        refine stepG_of (fun g d hdep => ?_)
        exact step_binOp rfl trivial _ _ _ _ _ _ _ rfl rfl rfl (fun w hw => (bin_adds _ _ hsz).trans (by rw [htx]; rfl))
      | 10, _, ho =>
        cases ho
        refine stepG_of (fun g d hdep => ?_)
        exact step_assign rfl trivial _ rfl (by kernel_rfl) (fun _ h => h)
      | 11, _, ho =>
        cases ho
        refine stepG_of (fun g d hdep => ?_)
        exact step_assign rfl trivial _ rfl (by kernel_rfl) (fun _ h => h)
    intro g d W hall hW
    first | refine hK _ _ ?_ | refine (‹∀ (a : Act) (w : World), Code.wp Tryd.prog _ _ a w → _›) _ _ ?_ | skip
    simp only [finL, List.getD_cons_zero, List.getD_cons_succ, Nat.zero_add, Nat.reduceAdd, List.setIfInBounds_toArray, List.set_cons_zero, List.set_cons_succ]
    go_wp2
    go_ret2
    exact ⟨rfl, hW.q.j.below⟩
end Go.Proofs.YtebpngapkkdifaaDoor
