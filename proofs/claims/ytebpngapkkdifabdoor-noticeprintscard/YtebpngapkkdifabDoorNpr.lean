/- notice.Print, and the document's: what they answer, at every roster and notice. -/
import Derived.Test.YtebpngapkkdifabDoorNrf
import Derived.Test.YtebpngapkkdifabDoorNpd
import Derived.Test.YtebpngapkkdifabDoorNte
import Derived.Test.YtebpngapkkdifabDoorIto
namespace Go.Proofs.YtebpngapkkdifabDoor
open Go.RowKit Go.Shelf Go.Lib

section
variable {G : Type} {P : Program} {md : Region.Mode} {ops : Array Oper} {Q : Exit → Act → World → Prop} {X0 : Array Value} {val : G → Nat → Value} {J : G → (Nat → Bool) → World → Prop} {i : Nat} {o : Oper}
theorem stepG_build2 (hi : ops[i]? = some o) (hg : o.guard = none) (t : TypeId) (x y : Operand) (v u : Value) (ho : o.op = .buildSlice t 2 #[(0, x), (1, y)]) (hx : ∀ g, rdo md ops X0 (val g) i o x = some v) (hy : ∀ g, rdo md ops X0 (val g) i o y = some u)
    (h : ∀ g d w, J g d w → d i = false → (∀ j oj, ops[j]? = some oj → d j = true → ∀ k, bindsOn md oj k = true → d k = true) → ∃ g' w', (Instr.buildSlice t 2 #[(0, v), (1, u)]).run P w = .ok (val g' i) w' ∧ (∀ j, d j = true → val g' j = val g j) ∧ J g' (fun j => if j = i then true else d j) w') : StepG P md ops Q X0 val J i o := by
  intro g d a w hJ hun hdep hcl hS
  have hS' : Seen md ops X0 (val g) i o a := hS
  obtain ⟨g', w', h1, h2, h3⟩ := h g d w hJ hun hcl
  unfold wpOp
  rw [hi]
  simp only [Region.wanted, hg, if_true]
  refine .inl ?_
  unfold Oper.wp execOp
  simp only [ho, List.map_toArray, List.map_cons, List.map_nil, hS'.eval (hx g), hS'.eval (hy g), Sem.run_bind, h1, Result.andThen_ok, Sem.run_pure, Oper.upon_value]
  exact ⟨g', h2, rfl, h3⟩
end
theorem bin_adds {x y : Operand} {w : World} (a b : ByteArray) (h : a.size + b.size ≤ 9223372036854775807) : binRun Tryd.prog .add 9 x y (.string a) (.string b) w = .ok (.string (a ++ b)) w := by
  simp [binRun, go_sem]
  exact h
/-- The mark of a kind. -/
def mkI (k : Int) : Int := if k = 2 then 63 else 33
def mkS (k : Int) : ByteArray := if k = 2 then ⟨#[63]⟩ else ⟨#[33]⟩
/-- A notice's text. -/
def prT (c t k : Int) : ByteArray := (⟨(Utf8.encode c).data.toList.toArray⟩ ++ mkS k) ++ ⟨(decDigits t.toNat).toArray⟩
set_option maxHeartbeats 400000 in
theorem markOf_any (k : Int) (w : World) : Calls Tryd.prog 20 #[.int .i64 k] w fun e w' => e = .returned (.int .i32 (mkI k)) ∧ Below w.heap.size w w' := by
  unfold mkI
  by_cases h : k = 2
  · subst h
    go_enter Tryd.func20, Tryd.ntmps20
    go_wp2
    go_ret
    exact ⟨rfl, Below.refl _ _⟩
  · rw [if_neg h]
    go_enter Tryd.func20, Tryd.ntmps20
    go_wp2
    go_ret
    exact ⟨rfl, Below.refl _ _⟩
theorem txt_two_len (c m : Int) : (txt [c, m]).size ≤ 8 := by
  have e2 : (txt [c, m]).data.toList = (Utf8.encode c).data.toList ++ (Utf8.encode m).data.toList := by
    rw [txt_data]
    simp [wr]
  have h1 : (Utf8.encode c).data.toList.length ≤ 4 := by rw [enc_len]; exact (clen_pos _).2
  have h2 : (Utf8.encode m).data.toList.length ≤ 4 := by rw [enc_len]; exact (clen_pos _).2
  have h3 : (txt [c, m]).size = (txt [c, m]).data.toList.length := by simp
  rw [h3, e2, List.length_append]
  omega
theorem two_txt (c t k : Int) (ht : 0 ≤ t) : txt [c, mkI k] ++ ⟨(itoa t).toArray⟩ = prT c t k := by
  apply ByteArray.ext
  have e1 : itoa t = decDigits t.toNat := by unfold itoa; rw [if_neg (by omega)]
  have e2 : (txt [c, mkI k]).data.toList = (Utf8.encode c).data.toList ++ (Utf8.encode (mkI k)).data.toList := by
    rw [txt_data]
    simp [wr]
  have e3 : (Utf8.encode (mkI k)).data.toList = (mkS k).data.toList := by
    unfold mkI mkS
    by_cases h : k = 2
    · rw [if_pos h, if_pos h]; decide
    · rw [if_neg h, if_neg h]; decide
  apply Array.ext'
  unfold prT
  rw [e1]
  simp only [ByteArray.data_append, Array.toList_append, e2, e3]
/-- What Print answers. -/
def prV (l : List Int) (o t k : Int) : Value := if vl l.length o t k = true then .tuple #[.string (prT (l.getD o.toNat 0) t k), .int .i64 0] else .tuple #[.string ⟨#[]⟩, .int .i64 50]
theorem conv_two {W : World} {g : Nat} {c m : Int} (h : W.heap[g]? = some (.cells #[.int .i32 c, .int .i32 m] 21 (0, 0))) : (convert 24 9 (.slice (some ⟨g, 0, none⟩) 2 2)).run Tryd.prog W = .ok (.string (txt [c, m])) W := by
  rw [← runesBytes_txt]
  have h := run_convert_runes W 24 9 21 ⟨g, 0, none⟩ 2 2 [c, m] (Nat.le_refl _) Tryd.underlying24 Tryd.underlying21 Tryd.underlying9 (fun j hj => by
    have ha : (⟨g, 0, none⟩ : Addr).add j = ⟨g, j, none⟩ := by unfold Addr.add; split <;> simp_all
    rw [ha, cell_at h j]
    match j, hj with
    | 0, _ => rfl
    | 1, _ => rfl)
  exact h
theorem bs_two (W : World) (u v : Int) : (Instr.buildSlice 24 2 #[(0, .int .i32 u), (1, .int .i32 v)]).run Tryd.prog W = .ok (.slice (some ⟨W.heap.size, 0, none⟩) 2 2) (W.alloc (.cells #[.int .i32 u, .int .i32 v] 21)) := by
  go_simp
/-- What lies there as a notice is told. -/
structure JW (w : World) (ad : Option Addr) (cap : Nat) (mb : Option Nat) (l : List Int) (o t k c m : Int) (g : Nat) (x4 : Bool) (W : World) : Prop where
  q : JQ w ad cap mb l [(w.heap.size + 1, o, t, k)] W
  p : Pow W
  s : x4 = true → W.heap[g]? = some (.cells #[.int .i32 c, .int .i32 m] 21 (0, 0))
theorem JW.carry {w : World} {ad : Option Addr} {cap : Nat} {mb : Option Nat} {l : List Int} {o t k c m : Int} {g : Nat} {x4 : Bool} {W W' : World} (h : JW w ad cap mb l o t k c m g x4 W) (hb : Below W.heap.size W W') : JW w ad cap mb l o t k c m g x4 W' :=
  ⟨h.q.carry hb, h.p.carry hb, fun e => (hb.block _ (lt_at (h.s e))).trans (h.s e)⟩
theorem JW.get {w : World} {ad : Option Addr} {cap : Nat} {mb : Option Nat} {l : List Int} {o t k c m : Int} {g : Nat} {x4 : Bool} {W : World} (h : JW w ad cap mb l o t k c m g x4 W) (i : Nat) {B : Nat} {o' t' k' : Int} (hx : ([(w.heap.size + 1, o, t, k)] : List (Nat × Int × Int × Int))[i]? = some (B, o', t', k')) : NB W B o' t' k' := h.q.get i hx
theorem JW.new {w : World} {ad : Option Addr} {cap : Nat} {mb : Option Nat} {l : List Int} {o t k c m : Int} {g : Nat} {x4 : Bool} {W : World} (h : JW w ad cap mb l o t k c m g x4 W) : JW w ad cap mb l o t k c m W.heap.size true (W.alloc (.cells #[.int .i32 c, .int .i32 m] 21)) :=
  ⟨h.q.carry (al1 _ _), h.p.carry (al1 _ _), fun _ => new_at rfl⟩
set_option maxHeartbeats 4000000 in
set_option maxRecDepth 100000 in
theorem nprint_any {M : Nat} {v : Value} {l : List Int} (w : World) (h : Ros M w v l) (hM : M ≤ w.heap.size) (o t k : Int) (hT : Pow w) : Calls Tryd.prog 7 #[v, nt o t k] w fun e w' => e = .returned (prV l o t k) ∧ Below w.heap.size w w' := by
  have hmx : Tryd.prog.follows .mixedOrders = true := by kernel_rfl
  obtain ⟨ad, cap, mb, rfl⟩ := h.form
  have hq0 : JQ w ad cap mb l [(w.heap.size + 1, o, t, k)] ((w.alloc (.cells #[.slice ad l.length cap, .map mb] 27)).alloc (.cells #[.int .i64 o, .int .i64 t, .int .i64 k] 23)) :=
    ⟨old_at (new_at rfl), (h.below ((al2 w _ _).mono hM)).lift hM, by simpa using ((JL.nil w).old _).new o t k⟩
  have hP0 : Pow ((w.alloc (.cells #[.slice ad l.length cap, .map mb] 27)).alloc (.cells #[.int .i64 o, .int .i64 t, .int .i64 k] 23)) := hT.carry (al2 _ _ _)
  have hvl := valid_any l.length o t k
  unfold prV
  cases hv : vl l.length o t k with
  | false =>
    rw [if_neg (by simp)]
    rw [hv] at hvl
    go_enter Tryd.func7, Tryd.ntmps7
    unfold nt
    go_wp2
    rename_i Q0 K0 hK
    refine wp_region_any hmx ?_
    refine wpAny_pure (fun i__ => ([(.agg #[.slice ad l.length cap, .map mb]), (.int .i64 l.length), (nt o t k), (.bool false), (.bool true)] : List Value).getD i__ undef) (fun W => JQ w ad cap mb l [(w.heap.size + 1, o, t, k)] W) (by kernel_rfl) (hq0.carry (Below.refl _ _).drew) ?_ ?_
    · refine (stepsFrom_cons ?_ (stepsFrom_cons ?_ (stepsFrom_cons ?_ (stepsFrom_cons ?_ (stepsFrom_cons ?_ trivial)))))
      · exact step_load rfl trivial _ _ _ rfl rfl (fun w hw => load_ros hw.box)
      · exact step_call rfl trivial 18 _ _ [(.agg #[.slice ad l.length cap, .map mb])] rfl (by kernel_rfl) (enters_of Tryd.func18 (by kernel_rfl) rfl) (fun w hw => (size_any w hw.ros).mono (by rintro e w' ⟨rfl, hb⟩; exact ⟨rfl, hw.carry hb⟩))
      · exact step_load rfl trivial _ _ _ rfl rfl (fun w hw => load_nt (hw.get 0 rfl))
      · exact step_call rfl trivial 17 _ _ [(.int .i64 l.length), (nt o t k)] rfl (by kernel_rfl) (enters_of Tryd.func17 (by kernel_rfl) rfl) (fun w hw => (hvl w).mono (by rintro e w' ⟨rfl, hb⟩; exact ⟨rfl, hw.carry hb⟩))
      · exact step_unOp rfl trivial _ _ _ _ rfl rfl (fun w hw => un_not _ w)
    intro W hW
    first | refine hK _ _ ?_ | refine (‹∀ (a : Act) (w : World), Code.wp Tryd.prog _ _ a w → _›) _ _ ?_
    simp only [finL, List.getD_cons_zero, List.getD_cons_succ, Nat.zero_add, Nat.reduceAdd, List.setIfInBounds_toArray, List.set_cons_zero, List.set_cons_succ]
    go_wp2
    go_ret2
    exact ⟨rfl, hW.j.below⟩
  | true =>
    rw [if_pos rfl]
    rw [hv] at hvl
    obtain ⟨v1, v2, v3, v4, v5⟩ := of_decide_eq_true hv
    have ht := (rk_ok.1 v5).1
    have ht2 := (rk_ok.1 v5).2.1
    obtain ⟨n, rfl⟩ := Int.eq_ofNat_of_zero_le v3
    have hn : n < l.length := by omega
    have hsv : signV l (n : Int) = .tuple #[.int .i32 (l.getD n 0), .int .i64 0] := by
      unfold signV
      rw [if_neg (by omega), Int.toNat_natCast, List.getD_eq_getElem?_getD, List.getElem?_eq_getElem hn]
      rfl
    rw [Int.toNat_natCast]
    generalize l.getD n 0 = c at *
    have hmk := markOf_any k
    have htx := two_txt c t k ht
    have hsz : (txt [c, mkI k]).size + (⟨(itoa t).toArray⟩ : ByteArray).size ≤ 9223372036854775807 := by
      have h1 := itoa_length_le t (by omega) (by omega)
      have h2 := txt_two_len c (mkI k)
      have h3 : (⟨(itoa t).toArray⟩ : ByteArray).size = (itoa t).length := by simp [ByteArray.size]
      omega
    clear hv v1 v2 v3 v4 v5 h hT
    generalize mkI k = m at *
    generalize prT c t k = X at *
    go_enter Tryd.func7, Tryd.ntmps7
    unfold nt
    go_wp2
    rename_i Q0 K0 hK
    refine wp_region_any hmx ?_
    refine wpAny_pure (fun i__ => ([(.agg #[.slice ad l.length cap, .map mb]), (.int .i64 l.length), (nt (n : Int) t k), (.bool true), (.bool false)] : List Value).getD i__ undef) (fun W => JQ w ad cap mb l [(w.heap.size + 1, (n : Int), t, k)] W ∧ Pow W) (by kernel_rfl) ⟨hq0.carry (Below.refl _ _).drew, hP0.carry (Below.refl _ _).drew⟩ ?_ ?_
    · refine (stepsFrom_cons ?_ (stepsFrom_cons ?_ (stepsFrom_cons ?_ (stepsFrom_cons ?_ (stepsFrom_cons ?_ trivial)))))
      · exact step_load rfl trivial _ _ _ rfl rfl (fun w hw => load_ros hw.1.box)
      · exact step_call rfl trivial 18 _ _ [(.agg #[.slice ad l.length cap, .map mb])] rfl (by kernel_rfl) (enters_of Tryd.func18 (by kernel_rfl) rfl) (fun w hw => (size_any w hw.1.ros).mono (by rintro e w' ⟨rfl, hb⟩; exact ⟨rfl, hw.1.carry hb, hw.2.carry hb⟩))
      · exact step_load rfl trivial _ _ _ rfl rfl (fun w hw => load_nt (hw.1.get 0 rfl))
      · exact step_call rfl trivial 17 _ _ [(.int .i64 l.length), (nt (n : Int) t k)] rfl (by kernel_rfl) (enters_of Tryd.func17 (by kernel_rfl) rfl) (fun w hw => (hvl w).mono (by rintro e w' ⟨rfl, hb⟩; exact ⟨rfl, hw.1.carry hb, hw.2.carry hb⟩))
      · exact step_unOp rfl trivial _ _ _ _ rfl rfl (fun w hw => un_not _ w)
    intro W hW
    first | refine hK _ _ ?_ | refine (‹∀ (a : Act) (w : World), Code.wp Tryd.prog _ _ a w → _›) _ _ ?_
    simp only [finL, List.getD_cons_zero, List.getD_cons_succ, Nat.zero_add, Nat.reduceAdd, List.setIfInBounds_toArray, List.set_cons_zero, List.set_cons_succ]
    clear hK hq0 hP0
    have y0 := cell_at hW.1.box 0
    have y1 := cell_at hW.1.box 1
    have hx := hW.1.get 0 rfl
    have x0 := hx.c0
    have x1 := hx.c1
    have x2 := hx.c2
    have hsg := sign_any W hW.1.ros (Nat.le_of_lt (lt_at hW.1.box)) (n : Int)
    rw [hsv] at hsg
    go_wp2_with (go_at_call 19; (with_reducible refine hsg.mono ?_); rintro e u1 ⟨rfl, hb1⟩)
    have hj1 : JW w ad cap mb l (n : Int) t k c m 0 false u1 := ⟨hW.1.carry hb1, hW.2.carry hb1, fun e => by cases e⟩
    clear hW y0 y1 hx x0 x1 x2 hsg
    rename_i K1 hK
    refine wp_region_any hmx ?_
    refine wpAny_tabG (G := (Nat)) (fun g i__ => ([(.int .i32 c), (.pointer (some ⟨w.heap.size + 1, 2, none⟩)), (.int .i64 k), (.int .i32 m), (.slice (some ⟨g, 0, none⟩) 2 2), (.string (txt [c, m])), (.pointer (some ⟨w.heap.size + 1, 1, none⟩)), (.int .i64 t), (.string ⟨(itoa t).toArray⟩), (.string X), (.string X), (Go.Value.int Go.IntKind.i64 0)] : List Value).getD i__ undef) (fun g d W => JW w ad cap mb l (n : Int) t k c m g (d 4) W) (by kernel_rfl) (0) (hj1.carry (Below.refl _ _).drew) ?step1 ?fin1
    case step1 =>
      intro i o ho
      have hi : i < 12 := getElem?_lt ho
      match i, hi, ho with
      | 0, _, ho =>
        cases ho
        refine stepG_of (fun g d hdep => ?_)
        exact step_move rfl trivial _ rfl (by kernel_rfl)
      | 1, _, ho =>
        cases ho
        refine stepG_of (fun g d hdep => ?_)
        exact step_fieldAddr rfl trivial _ _ _ _ rfl rfl (fun w hw => field_n2 w _)
      | 2, _, ho =>
        cases ho
        refine stepG_of (fun g d hdep => ?_)
        exact step_load rfl trivial _ _ _ rfl rfl (fun w hw => load_n2 (hw.get 0 rfl))
      | 3, _, ho =>
        cases ho
        refine stepG_of (fun g d hdep => ?_)
        exact step_call rfl trivial 20 _ _ [(.int .i64 k)] rfl (by kernel_rfl) (enters_of Tryd.func20 (by kernel_rfl) rfl) (fun w hw => (hmk w).mono (by rintro e w' ⟨rfl, hb⟩; exact ⟨rfl, hw.carry hb⟩))
      | 4, _, ho =>
        cases ho
        exact stepG_build2 rfl rfl _ _ _ (.int .i32 c) (.int .i32 m) rfl (fun _ => rfl) (fun _ => rfl) (fun g d W' hJ hun hcl => ⟨W'.heap.size, _, bs_two W' c m, (fun j hj => match j, hj with | 4, hj => (by rw [hj] at hun; cases hun)  | 0, _ => rfl | 1, _ => rfl | 2, _ => rfl | 3, _ => rfl | 5, _ => rfl | 6, _ => rfl | 7, _ => rfl | 8, _ => rfl | 9, _ => rfl | 10, _ => rfl | 11, _ => rfl | _ + 12, _ => rfl), hJ.new⟩)
      | 5, _, ho =>
        cases ho
        refine stepG_of (fun g d hdep => ?_)
        exact step_convert rfl trivial _ _ _ _ rfl rfl (fun w hw => conv_two (hw.s (hdep 4 (by kernel_rfl))))
      | 6, _, ho =>
        cases ho
        refine stepG_of (fun g d hdep => ?_)
        exact step_fieldAddr rfl trivial _ _ _ _ rfl rfl (fun w hw => field_n1 w _)
      | 7, _, ho =>
        cases ho
        refine stepG_of (fun g d hdep => ?_)
        exact step_load rfl trivial _ _ _ rfl rfl (fun w hw => load_n1 (hw.get 0 rfl))
      | 8, _, ho =>
        cases ho
        refine stepG_of (fun g d hdep => ?_)
        exact step_call rfl trivial 21 _ _ [(.int .i64 t)] rfl (by kernel_rfl) (enters_of Tryd.func21 (by kernel_rfl) rfl) (fun w hw => (itoa_any t ht (by omega) w hw.p).mono (by rintro e w' ⟨rfl, hb⟩; exact ⟨rfl, hw.carry hb⟩))
      | 9, _, ho =>
        cases ho
        refine stepG_of (fun g d hdep => ?_)
        exact step_binOp rfl trivial _ _ _ _ _ _ _ rfl rfl rfl (fun w hw => (bin_adds _ _ hsz).trans (by rw [htx]; rfl))
      | 10, _, ho =>
        cases ho
        refine stepG_of (fun g d hdep => ?_)
        exact step_assign rfl trivial _ rfl (by kernel_rfl) (fun _ h => h)
      | 11, _, ho =>
        cases ho
        refine stepG_of (fun g d hdep => ?_)
        exact step_assign rfl trivial _ rfl (by kernel_rfl) (fun _ h => h)
    intro g d W hall hW
    first | refine hK _ _ ?_ | refine (‹∀ (a : Act) (w : World), Code.wp Tryd.prog _ _ a w → _›) _ _ ?_ | skip
    simp only [finL, List.getD_cons_zero, List.getD_cons_succ, Nat.zero_add, Nat.reduceAdd, List.setIfInBounds_toArray, List.set_cons_zero, List.set_cons_succ]
    go_wp2
    go_ret2
    exact ⟨rfl, hW.q.j.below⟩
/-- What lies there as the document tells a notice. -/
structure JV (w : World) (ad : Option Addr) (cap : Nat) (l : List Int) (o t k : Int) (W : World) : Prop where
  box : W.heap[w.heap.size]? = some (.cells #[.slice ad l.length cap] 33 (0, 0))
  ros : RosR w.heap.size W (.agg #[.slice ad l.length cap]) l
  j : JL w [(w.heap.size + 1, o, t, k)] W
theorem JV.carry {w : World} {ad : Option Addr} {cap : Nat} {l : List Int} {o t k : Int} {W W' : World} (h : JV w ad cap l o t k W) (hb : Below W.heap.size W W') : JV w ad cap l o t k W' :=
  ⟨(hb.block _ (lt_at h.box)).trans h.box, h.ros.call (Nat.le_of_lt (lt_at h.box)) hb, h.j.carry hb⟩
theorem RosR.liftP {M M' : Nat} {W : World} {v : Value} {l : List Int} (h : RosR M W v l) (hM : M ≤ M') : RosR M' W v l := by
  obtain ⟨h0, sl, rfl, ⟨ad, cap, rfl, hf⟩⟩ := h
  refine ⟨h0, _, rfl, ⟨ad, cap, rfl, fun hl => ?_⟩⟩
  obtain ⟨g, h1, h2, h3⟩ := hf hl
  exact ⟨g, h1, Nat.lt_of_lt_of_le h2 hM, h3⟩
theorem load_rosR {W : World} {B : Nat} {u : Value} (h : W.heap[B]? = some (.cells #[u] 33 (0, 0))) : (Instr.loadAt 33 (.pointer (some ⟨B, 0, none⟩))).run Tryd.prog W = .ok (.agg #[u]) W := by
  have c0 := cell_at h 0
  go_simp
theorem JV.start {M : Nat} {ad : Option Addr} {cap : Nat} {l : List Int} (w : World) (h : RosR M w (.agg #[.slice ad l.length cap]) l) (hM : M ≤ w.heap.size) (o t k : Int) : JV w ad cap l o t k ((w.alloc (.cells #[.slice ad l.length cap] 33)).alloc (.cells #[.int .i64 o, .int .i64 t, .int .i64 k] 23)) :=
  ⟨old_at (new_at rfl), (h.below ((al2 w _ _).mono hM)).liftP hM, by simpa using ((JL.nil w).old _).new o t k⟩
theorem mkS_size (k : Int) : (mkS k).size = 1 := by
  unfold mkS
  split <;> rfl
set_option maxHeartbeats 4000000 in
set_option maxRecDepth 100000 in
theorem rNtext_any {M : Nat} {v : Value} {l : List Int} (w : World) (h : RosR M w v l) (hM : M ≤ w.heap.size) (n : Nat) (hn : n < l.length) (t k : Int) (ht : 0 ≤ t ∧ t ≤ 1048576) : Calls Tryd.prog 23 #[v, nt (n : Int) t k] w fun e w' => e = .returned (.string (prT (l.getD n 0) t k)) ∧ Below w.heap.size w w' := by
  have hmx : Tryd.prog.follows .mixedOrders = true := by kernel_rfl
  obtain ⟨ad, cap, rfl⟩ := h.form
  obtain ⟨x, rfl⟩ := Int.eq_ofNat_of_zero_le ht.1
  have hj0 := JV.start w h hM (n : Int) (x : Int) k
  have hdg := digits_any x (by omega)
  have hgd : l.getD n 0 = l[n] := by rw [List.getD_eq_getElem?_getD, List.getElem?_eq_getElem hn]; rfl
  have hsn : ∀ W, RosR w.heap.size W (.agg #[.slice ad l.length cap]) l → w.heap.size ≤ W.heap.size → Calls Tryd.prog 34 #[.agg #[.slice ad l.length cap], .int .i64 (n : Int)] W fun e w' => e = .returned (.string ⟨(Utf8.encode (l.getD n 0)).data.toList.toArray⟩) ∧ Below W.heap.size W w' := fun W hr hl => by
    rw [hgd]
    exact rSign_any W hr hl n hn
  have hel : (Utf8.encode (l.getD n 0)).data.toList.length ≤ 4 := by rw [enc_len]; exact (clen_pos _).2
  have hdl : (decDigits x).length ≤ 20 := by rw [decDigits_length]; exact nDigits_le20 x (by omega)
  have HX : Hid (prT (l.getD n 0) (x : Int) k = (⟨(Utf8.encode (l.getD n 0)).data.toList.toArray⟩ ++ mkS k) ++ ⟨(decDigits x).toArray⟩) := by
    show prT (l.getD n 0) (x : Int) k = _
    unfold prT
    rw [Int.toNat_natCast]
  generalize prT (l.getD n 0) (x : Int) k = X at *
  generalize (Utf8.encode (l.getD n 0)).data.toList = E at *
  have hs1 : (⟨E.toArray⟩ : ByteArray).size + (mkS k).size ≤ 9223372036854775807 := by
    have : (⟨E.toArray⟩ : ByteArray).size = E.length := by simp [ByteArray.size]
    rw [mkS_size]
    omega
  have hs2 : ((⟨E.toArray⟩ : ByteArray) ++ mkS k).size + (⟨(decDigits x).toArray⟩ : ByteArray).size ≤ 9223372036854775807 := by
    have h1 : (⟨E.toArray⟩ : ByteArray).size = E.length := by simp [ByteArray.size]
    have h2 : (⟨(decDigits x).toArray⟩ : ByteArray).size = (decDigits x).length := by simp [ByteArray.size]
    rw [ByteArray.size_append, mkS_size]
    omega
  clear hgd h hel hdl ht
  by_cases hk : k = 2
  · subst hk
    have hm : mkS 2 = ⟨#[63]⟩ := rfl
    rw [hm] at HX hs1 hs2
    clear hm
    go_enter Tryd.func23, Tryd.ntmps23
    unfold nt
    go_wp2
    rename_i Q0 K0 hK
    refine wp_region_any hmx ?_
    refine wpAny_pure (fun i__ => ([(.agg #[.slice ad l.length cap]), (.pointer (some ⟨w.heap.size + 1, 0, none⟩)), (.int .i64 (n : Int)), (.string ⟨E.toArray⟩), (.string ⟨#[63]⟩), (.string (⟨E.toArray⟩ ++ ⟨#[63]⟩)), (.pointer (some ⟨w.heap.size + 1, 1, none⟩)), (.int .i64 (x : Int)), (.string ⟨(decDigits x).toArray⟩), (.string X), (.string X)] : List Value).getD i__ undef) (fun W => JV w ad cap l (n : Int) (x : Int) 2 W) (by kernel_rfl) (hj0.carry (Below.refl _ _).drew) ?_ ?_
    · refine (stepsFrom_cons ?_ (stepsFrom_cons ?_ (stepsFrom_cons ?_ (stepsFrom_cons ?_ (stepsFrom_cons ?_ (stepsFrom_cons ?_ (stepsFrom_cons ?_ (stepsFrom_cons ?_ (stepsFrom_cons ?_ (stepsFrom_cons ?_ (stepsFrom_cons ?_ trivial)))))))))))
      · exact step_load rfl trivial _ _ _ rfl rfl (fun w hw => load_rosR hw.box)
      · exact step_fieldAddr rfl trivial _ _ _ _ rfl rfl (fun w hw => field_n0 w _)
      · exact step_load rfl trivial _ _ _ rfl rfl (fun w hw => load_n0 (hw.j.get 0 rfl))
      · exact step_call rfl trivial 34 _ _ [(.agg #[.slice ad l.length cap]), (.int .i64 (n : Int))] rfl (by kernel_rfl) (enters_of Tryd.func34 (by kernel_rfl) rfl) (fun w hw => (hsn w hw.ros (Nat.le_of_lt (lt_at hw.box))).mono (by rintro e w' ⟨rfl, hb⟩; exact ⟨rfl, hw.carry hb⟩))
      · exact step_move rfl trivial _ rfl (by kernel_rfl)
      · exact step_binOp rfl trivial _ _ _ _ _ _ _ rfl rfl rfl (fun w hw => bin_adds _ _ hs1)
      · exact step_fieldAddr rfl trivial _ _ _ _ rfl rfl (fun w hw => field_n1 w _)
      · exact step_load rfl trivial _ _ _ rfl rfl (fun w hw => load_n1 (hw.j.get 0 rfl))
      · exact step_call rfl trivial 35 _ _ [(.int .i64 (x : Int))] rfl (by kernel_rfl) (enters_of Tryd.func35 (by kernel_rfl) rfl) (fun w hw => (hdg w).mono (by rintro e w' ⟨rfl, hb⟩; exact ⟨rfl, hw.carry hb⟩))
      · exact step_binOp rfl trivial _ _ _ _ _ _ _ rfl rfl rfl (fun w hw => (bin_adds _ _ hs2).trans (by rw [HX.out]; rfl))
      · exact step_assign rfl trivial _ rfl (by kernel_rfl) (fun _ h => h)
    intro W hW
    first | refine hK _ _ ?_ | refine (‹∀ (a : Act) (w : World), Code.wp Tryd.prog _ _ a w → _›) _ _ ?_
    simp only [finL, List.getD_cons_zero, List.getD_cons_succ, Nat.zero_add, Nat.reduceAdd, List.setIfInBounds_toArray, List.set_cons_zero, List.set_cons_succ]
    go_wp2
    go_ret
    exact ⟨rfl, hW.j.below⟩
  · have hm : mkS k = ⟨#[33]⟩ := if_neg hk
    rw [hm] at HX hs1 hs2
    clear hm
    go_enter Tryd.func23, Tryd.ntmps23
    unfold nt
    go_wp2
    rename_i Q0 K0 hK
    refine wp_region_any hmx ?_
    refine wpAny_pure (fun i__ => ([(.agg #[.slice ad l.length cap]), (.pointer (some ⟨w.heap.size + 1, 0, none⟩)), (.int .i64 (n : Int)), (.string ⟨E.toArray⟩), (.string ⟨#[33]⟩), (.string (⟨E.toArray⟩ ++ ⟨#[33]⟩)), (.pointer (some ⟨w.heap.size + 1, 1, none⟩)), (.int .i64 (x : Int)), (.string ⟨(decDigits x).toArray⟩), (.string X), (.string X)] : List Value).getD i__ undef) (fun W => JV w ad cap l (n : Int) (x : Int) k W) (by kernel_rfl) (hj0.carry (Below.refl _ _).drew) ?_ ?_
    · refine (stepsFrom_cons ?_ (stepsFrom_cons ?_ (stepsFrom_cons ?_ (stepsFrom_cons ?_ (stepsFrom_cons ?_ (stepsFrom_cons ?_ (stepsFrom_cons ?_ (stepsFrom_cons ?_ (stepsFrom_cons ?_ (stepsFrom_cons ?_ (stepsFrom_cons ?_ trivial)))))))))))
      · exact step_load rfl trivial _ _ _ rfl rfl (fun w hw => load_rosR hw.box)
      · exact step_fieldAddr rfl trivial _ _ _ _ rfl rfl (fun w hw => field_n0 w _)
      · exact step_load rfl trivial _ _ _ rfl rfl (fun w hw => load_n0 (hw.j.get 0 rfl))
      · exact step_call rfl trivial 34 _ _ [(.agg #[.slice ad l.length cap]), (.int .i64 (n : Int))] rfl (by kernel_rfl) (enters_of Tryd.func34 (by kernel_rfl) rfl) (fun w hw => (hsn w hw.ros (Nat.le_of_lt (lt_at hw.box))).mono (by rintro e w' ⟨rfl, hb⟩; exact ⟨rfl, hw.carry hb⟩))
      · exact step_move rfl trivial _ rfl (by kernel_rfl)
      · exact step_binOp rfl trivial _ _ _ _ _ _ _ rfl rfl rfl (fun w hw => bin_adds _ _ hs1)
      · exact step_fieldAddr rfl trivial _ _ _ _ rfl rfl (fun w hw => field_n1 w _)
      · exact step_load rfl trivial _ _ _ rfl rfl (fun w hw => load_n1 (hw.j.get 0 rfl))
      · exact step_call rfl trivial 35 _ _ [(.int .i64 (x : Int))] rfl (by kernel_rfl) (enters_of Tryd.func35 (by kernel_rfl) rfl) (fun w hw => (hdg w).mono (by rintro e w' ⟨rfl, hb⟩; exact ⟨rfl, hw.carry hb⟩))
      · exact step_binOp rfl trivial _ _ _ _ _ _ _ rfl rfl rfl (fun w hw => (bin_adds _ _ hs2).trans (by rw [HX.out]; rfl))
      · exact step_assign rfl trivial _ rfl (by kernel_rfl) (fun _ h => h)
    intro W hW
    first | refine hK _ _ ?_ | refine (‹∀ (a : Act) (w : World), Code.wp Tryd.prog _ _ a w → _›) _ _ ?_
    simp only [finL, List.getD_cons_zero, List.getD_cons_succ, Nat.zero_add, Nat.reduceAdd, List.setIfInBounds_toArray, List.set_cons_zero, List.set_cons_succ]
    go_wp2
    go_ret
    exact ⟨rfl, hW.j.below⟩
set_option maxHeartbeats 4000000 in
set_option maxRecDepth 100000 in
theorem rNprint_any {M : Nat} {v : Value} {l : List Int} (w : World) (h : RosR M w v l) (hM : M ≤ w.heap.size) (o t k : Int) : Calls Tryd.prog 8 #[v, nt o t k] w fun e w' => e = .returned (prV l o t k) ∧ Below w.heap.size w w' := by
  obtain ⟨ad, cap, rfl⟩ := h.form
  have hls := h.1.short
  have hj0 := JV.start w h hM o t k
  have hvl := rValid_any l.length o t k
  have htxt : ∀ (n : Nat), o = (n : Int) → n < l.length → 0 ≤ t ∧ t ≤ 1048576 → ∀ W, RosR w.heap.size W (.agg #[.slice ad l.length cap]) l → w.heap.size ≤ W.heap.size → Calls Tryd.prog 23 #[.agg #[.slice ad l.length cap], .agg #[.int .i64 o, .int .i64 t, .int .i64 k]] W fun e w' => e = .returned (.string (prT (l.getD o.toNat 0) t k)) ∧ Below W.heap.size W w' := fun n e hn ht W hr hl => by
    subst e
    exact rNtext_any W hr hl n hn t k ht
  unfold prV
  cases hv : vl l.length o t k with
  | false =>
    rw [if_neg (by simp)]
    rw [hv] at hvl
    clear h htxt
    unfold nt at hvl
    go_enter Tryd.func8, Tryd.ntmps8
    unfold nt
    go_wp2_with (go_at_call 22; (with_reducible refine (hvl _).mono ?_); rintro e u1 ⟨rfl, hb1⟩)
    go_ret2
    exact ⟨rfl, bel2 (al2 _ _ _) hb1⟩
  | true =>
    rw [if_pos rfl]
    rw [hv] at hvl
    obtain ⟨v1, v2, v3, v4, v5⟩ := of_decide_eq_true hv
    have ht := (rk_ok.1 v5)
    obtain ⟨n, hn⟩ := Int.eq_ofNat_of_zero_le v3
    have htx := htxt n hn (by omega) ⟨ht.1, ht.2.1⟩
    clear h htxt hv v1 v2 v3 v4 v5 ht hn
    generalize prT (l.getD o.toNat 0) t k = X at *
    unfold nt at hvl
    go_enter Tryd.func8, Tryd.ntmps8
    unfold nt
    go_wp2_with (first | (go_at_call 22; (with_reducible refine (hvl _).mono ?_); rintro e u1 ⟨rfl, hb1⟩; have hj1 := hj0.carry hb1; have y0 := cell_at hj1.box 0; have x0 := (hj1.j.get 0 rfl).c0; have x1 := (hj1.j.get 0 rfl).c1; have x2 := (hj1.j.get 0 rfl).c2; have hc := htx u1 hj1.ros (Nat.le_of_lt (lt_at hj1.box))) | (go_at_call 23; (with_reducible refine hc.mono ?_); rintro e u2 ⟨rfl, hb2⟩))
    go_ret2
    exact ⟨rfl, bel2 (bel2 (al2 _ _ _) hb1) hb2⟩
end Go.Proofs.YtebpngapkkdifabDoor
