import Derived.Test.YtmahamdmapbilaaGreatDoorJwJ23
import Derived.Test.YtmahamdmapbilaaGreatDoorJwJ9
import Derived.Test.YtmahamdmapbilaaGreatDoorJwJ10
import Derived.Test.YtmahamdmapbilaaGreatDoorJwJ0
import Derived.Test.YtmahamdmapbilaaGreatDoorJwJ12
import Derived.Shelf.Abstract
import Derived.Shelf.RegionOpen
import Derived.WalkKit
import Derived.WalkSpells
import Derived.OwnWalkIn
import Derived.TacticsInMore
import Derived.LoopNIn
import Derived.LoopIn
import Derived.Lib.OthersKept
set_option maxHeartbeats 40000000
set_option maxRecDepth 100000
set_option linter.unusedVariables false
namespace Go.Proofs.YtmahamdmapbilaaGreatDoor
open Go.RowKit Go.Shelf Go.Lib
structure JL6 (w : World) (sl mp : Value) (B : Nat) (v : Value) (n : Nat) (xs : List Value) (ns : List N3t) (nw : ByteArray) (g : ((Option Addr × Nat) × Nat) × Value) (d3 d5 d6 : Bool) (V : World) : Prop where
 be : Below w.heap.size w V
 bx : V.heap[w.heap.size]? = some (.cells #[sl, mp] 25 (0, 0))
 bs : B ≤ V.heap.size
 ro : d6 = false → V.ownsRow B 9 1 v n xs
 nt : d3 = true → RdN V g.1.1.1 ns
 bd : d5 = true → V.heap[g.1.2]? = some (.cells #[.string nw] 9 (0, 0))
 rn : d6 = true → V.ownsRow B 9 1 g.2 (n + 1) (xs ++ [.string nw])
theorem JL6.carry {w : World} {sl mp : Value} {B : Nat} {v : Value} {n : Nat} {xs : List Value} {ns : List N3t} {nw : ByteArray} {g : ((Option Addr × Nat) × Nat) × Value} {d3 d5 d6 : Bool} {V U : World} (h : JL6 w sl mp B v n xs ns nw g d3 d5 d6 V) (hb : Below V.heap.size V U) : JL6 w sl mp B v n xs ns nw g d3 d5 d6 U :=
 ⟨bel3 h.be hb, (hb.block _ (zla h.bx)).trans h.bx, Nat.le_trans h.bs hb.size, fun e => zrb (h.ro e) hb, fun e => (h.nt e).carry hb, fun e => (hb.block _ (zla (h.bd e))).trans (h.bd e), fun e => zrb (h.rn e) hb⟩
theorem own_rdn {W : World} {B : Nat} {a : Option Addr} {c : Nat} {ns : List N3t} (h : W.ownsRow B 124 3 (.slice a ns.length c) ns.length (fl ns)) : RdN W a ns := fun hne => by
 obtain ⟨ad, cap, e, hc⟩ := ownsRow_form h
 obtain ⟨e1, _, _⟩ := (Value.slice.injEq ..).mp e
 subst e1
 obtain ⟨g, rfl, g1, g2, g3, g4⟩ := hc (List.length_pos_iff.2 hne)
 refine ⟨g, 0, rfl, g2, fun k x hk => ?_⟩
 have hf := fl_get ns k x hk
 rw [Nat.zero_add]
 exact ⟨g4 _ _ hf.1, g4 _ _ hf.2.1, g4 _ _ hf.2.2⟩
theorem info_partsS : ∃ i, Tryz.prog.info? 9 = some i ∧ i.zero = some (.string ⟨#[]⟩) ∧ i.size = 1 ∧ i.bytes = 16 := by
 have h := infoSt
 cases hi : Tryz.prog.info? 9 with
 | none => rw [hi] at h; cases h
 | some i =>
  rw [hi] at h
  simp only [Option.map_some, Option.some.injEq, Prod.mk.injEq] at h
  exact ⟨i, rfl, h.1, h.2.1, h.2.2⟩
theorem str_one (xs : List ByteArray) : ∀ u ∈ strC xs, u.oneCell' = true := fun u hu => by
 obtain ⟨b, _, rfl⟩ := List.mem_map.1 hu
 rfl
theorem own_rdx {W : World} {B : Nat} {v : Value} {xs : List ByteArray} (h : W.ownsRow B 9 1 v xs.length (strC xs)) : ∃ ad c, v = .slice ad xs.length c ∧ xs.length ≤ max c xs.length ∧ (0 < xs.length → xs.length ≤ c) ∧ RdX W ad xs := by
 obtain ⟨ad, cap, rfl, hc⟩ := ownsRow_form h
 refine ⟨ad, cap, rfl, by omega, fun hl => (hc hl).choose_spec.2.2.2.1, fun hne => ?_⟩
 obtain ⟨g, rfl, g1, g2, g3, g4⟩ := hc (List.length_pos_iff.2 hne)
 refine ⟨g, 0, rfl, g2, fun j x hj => ?_⟩
 rw [Nat.zero_add]
 exact g4 j _ (by unfold strC; rw [List.getElem?_map, hj]; rfl)
theorem JL6.app {w : World} {sl mp : Value} {B : Nat} {v : Value} {n : Nat} {xs : List Value} {ns : List N3t} {nw : ByteArray} {g : ((Option Addr × Nat) × Nat) × Value} {d3 : Bool} {V : World} (hB : w.heap.size < B) (hn : n ≤ 1000) (h : JL6 w sl mp B v n xs ns nw g d3 true false V) (ty : TypeId) : ∃ v' U, (Builtin.append_ #[58, 58] ty #[v, .slice (some ⟨g.1.2, 0, none⟩) 1 1]).run Tryz.prog V = .ok v' U ∧ JL6 w sl mp B v n xs ns nw (g.1, v') false false true U := by
 obtain ⟨ic, hic, hz0, hz1, hz2⟩ := info_partsS
 have hbd := h.bd rfl
 have hro := h.ro rfl
 obtain ⟨v', U, hr, h2, h3, _, h5⟩ := run_append_own_at (P := Tryz.prog) V B 58 ty 9 ic _ 1 16 Tryz.underlying58 hic hz0 hz1 hz2 rfl (by decide) v n xs hro ⟨g.1.2, 0, none⟩ 1 1 [.string nw] rfl (fun j u hj => by
  have hj0 : j = 0 := by have := (List.getElem?_eq_some_iff.1 hj).1; simp at this; exact this
  subst hj0
  simp at hj
  subst hj
  have e : (⟨g.1.2, 0, none⟩ : Addr).add 0 = ⟨g.1.2, 0, none⟩ := rfl
  rw [e, zca hbd 0]
  rfl) (by simp [Value.oneCell']) (by unfold maxLen; omega) (by omega) h.bs
 refine ⟨v', U, hr, h.be.grown h3 h.be.size (fun k e => by have := own_block hro k e; omega), (h3.block _ (zla h.bx) (fun e => by have := own_block hro _ e.symm; omega)).trans h.bx, Nat.le_trans h.bs h3.size, fun e => (by cases e), fun e => (by cases e), fun e => (by cases e), fun _ => h2⟩
theorem line_ok {M : Nat} {sl mp : Value} {L : List Int} {w : World} (hR : Ros M w (.agg #[sl, mp]) L) (hM : M ≤ w.heap.size) (hP : Pow w) {T : TypeId} {X : Value} {FB FS FN : FuncId} {kd : Nat} {fr : Nat} {rd : Int} {N : Nat} {ns : List N3t} (hX : NtM w T X FB FS FN (L.length : Int) kd (fr : Int) rd N ns) (hf : flt kd (L.length : Int) (fr : Int) rd N ns = 0) (hfr : fr < L.length) (hv : ∀ x ∈ ns, vN L x) (hn1 : ns.length ≤ 1000) (first : ByteArray) (xs : List ByteArray) (adb : Option Addr) (cb : Nat) (hxs : RdX w adb xs) (hx2 : xs.length ≤ 2) (hx0 : xs = [] → adb = none ∧ cb = 0) (hJs : (jnB ([first, txt [L.getD fr 0]] ++ xs ++ [nwT L ns])).size ≤ 1000000) : Calls Tryz.prog 101 #[.agg #[sl, mp], .iface T X, .string first, .slice adb xs.length cb] w fun e w' => e = .returned (.tuple #[.string (jnB ([first, txt [L.getD fr 0]] ++ xs ++ [nwT L ns])), .int .i64 0]) ∧ Below w.heap.size w w' := by
 have hmx := mixO
 obtain ⟨W1, hW1⟩ : ∃ W1, w.alloc (.cells #[sl, mp] 25) = W1 := ⟨_, rfl⟩
 have hb1 : Below w.heap.size w W1 := by rw [← hW1]; exact al1t _ _
 have r1 : W1.heap[w.heap.size]? = some (.cells #[sl, mp] 25 (0, 0)) := by rw [← hW1]; exact zna rfl
 have HSZ : Hid (∀ V, Below w.heap.size w V → Calls Tryz.prog 20 #[.agg #[sl, mp]] V fun e w' => e = .returned (.int .i64 (L.length : Int)) ∧ Below V.heap.size V w') := fun V hV => size_any V (hR.below (hV.mono hM))
 have HSG : Hid (∀ V, Below w.heap.size w V → Calls Tryz.prog 155 #[.agg #[sl, mp], .int .i64 (fr : Int)] V fun e w' => e = .returned (.tuple #[.int .i32 (L.getD fr 0), .int .i64 0]) ∧ Below V.heap.size V w') := fun V hV => by
  have := sign_any V (hR.below (hV.mono hM)) (Nat.le_trans hM hV.size) (fr : Int)
  unfold signV at this
  rw [if_neg (by omega), Int.toNat_natCast, List.getElem?_eq_getElem hfr] at this
  rw [List.getD_eq_getElem?_getD, List.getElem?_eq_getElem hfr]
  exact this
 have HNW : Hid (∀ V a c, Below w.heap.size w V → RdN V a ns → Calls Tryz.prog 156 #[.agg #[sl, mp], .slice a ns.length c] V fun e w' => e = .returned (.string (nwT L ns)) ∧ Below V.heap.size V w') := fun V a c hV hr => newsText_any (hR.below (hV.mono hM)) (Nat.le_trans hM hV.size) (hP.carry hV) a c ns hr hv hn1
 have HXB := hX.hb
 have hcb := hX.cb
 have hna := hX.na
 have hcs := hX.cs
 have hcn := hX.cn
 have HS : Hid (∀ V, Calls Tryz.prog FS #[X] V fun e w' => e = .returned (.int .i64 (fr : Int)) ∧ Below V.heap.size V w') := hX.hs
 have HN : Hid (∀ V, Below w.heap.size w V → Calls Tryz.prog FN #[X] V fun e w' => ∃ a c, e = .returned (.slice a ns.length c) ∧ RdN w' a ns ∧ Below V.heap.size V w') := fun V hV => (hX.hn V hV).mono (by
  rintro e w' ⟨a, c, rfl, h1, h2⟩
  exact ⟨a, c, rfl, own_rdn h1, h2⟩)
 obtain ⟨n, hn⟩ : ∃ n : Int, (L.length : Int) = n := ⟨_, rfl⟩
 rw [hn] at HSZ HXB hf
 have HB : Hid (∀ V, Below w.heap.size w V → Calls Tryz.prog FB #[X, .int .i64 n] V fun e w' => ∃ b, e = .returned (.tuple #[b, .int .i64 0]) ∧ Below V.heap.size V w') := fun V hV => (HXB V hV).mono (by
  rintro e w' ⟨b, rfl, _, h2⟩
  exact ⟨b, by rw [hf], h2⟩)
 have hJ : Hid (JLn w sl mp W1) := ⟨hb1, r1⟩
 have HXS : Hid (RdX w adb xs) := hxs
 have hcv := conv_rune (L.getD fr 0)
 obtain ⟨C, hC⟩ : ∃ C, L.getD fr 0 = C := ⟨_, rfl⟩
 obtain ⟨sg, hsg⟩ : ∃ sg, txt [L.getD fr 0] = sg := ⟨_, rfl⟩
 obtain ⟨nw, hnw⟩ : ∃ nw, nwT L ns = nw := ⟨_, rfl⟩
 rw [hsg] at hcv hJs ⊢
 rw [hC] at hcv HSG
 rw [hnw] at HNW hJs ⊢
 obtain ⟨TT, hTT⟩ : ∃ TT, jnB ([first, sg] ++ xs ++ [nw]) = TT := ⟨_, rfl⟩
 rw [hTT] at hJs ⊢
 have HTT : Hid (jnB ([first, sg] ++ xs ++ [nw]) = TT) := hTT
 clear hTT
 have HX0 : Hid (xs = [] → adb = none ∧ cb = 0) := hx0
 clear hR hX hf hn hxs hC hsg hnw HXB hv hfr hx0 hP
 have hs1 := hb1.size
 have hl1 := zla r1
 go_enter Tryz.func101, Tryz.ntmps101
 go_wp2
 rename_i hK
 refine wp_region_any hmx ?_
 refine zwt (G := (Value)) (fun g i__ => ([(.iface T X), (.agg #[sl, mp]), (.int .i64 n), (.func (Fn.method "Bytes") #[.iface T X] #[]), (.func (Fn.method "Bytes") #[.iface T X] #[]), (.iface T X), (.tuple #[g, .int .i64 0]), (.tuple #[g, .int .i64 0]), g, (.int .i64 0), g, (.int .i64 0)] : List Value).getD i__ undef) (fun g d V => JLn w sl mp V) (by kernel_rfl) (undef) (hJ.out.carry (Below.refl _ _).drew) ?step16 ?fin16
 case step16 =>
  intro i o ho
  have hi : i < 12 := getElem?_lt ho
  match i, hi, ho with
  | 0, _, ho => cases ho; exact zgo fun g d hdep => zmv rfl trivial _ rfl (by kernel_rfl)
  | 1, _, ho => cases ho; exact zgo fun g d hdep => zld rfl trivial _ _ _ rfl rfl (fun v hw => load_ros3 hw.bx)
  | 2, _, ho => cases ho; exact zgo fun g d hdep => zsc rfl trivial 20 _ _ [(.agg #[sl, mp])] rfl (by kernel_rfl) (enters_of Tryz.func20 (by kernel_rfl) rfl) (fun V hw => (HSZ.out V hw.be).mono (by rintro e w' ⟨rfl, h⟩; exact ⟨rfl, hw.carry h⟩))
  | 3, _, ho => cases ho; exact zgo (fun g d hdep => step_mkf rfl trivial _ _ (.iface T X) rfl (by kernel_rfl) (mkfB T X) rfl)
  | 4, _, ho => cases ho; exact zgo (fun g d hdep => step_nilF rfl trivial _ "Bytes" T X rfl (by kernel_rfl) hna rfl)
  | 5, _, ho => cases ho; exact zgo fun g d hdep => zmv rfl trivial _ rfl (by kernel_rfl)
  | 6, _, ho => cases ho; exact stepG_inv1 rfl (fun _ => trivial) FB _ _ _ "Bytes" (.iface T X) (.int .i64 n) [X, .int .i64 n] rfl (fun g => by kernel_rfl) (fun g => by kernel_rfl) (hcb _) (fun g d V hJ hun hdep hcl => (HB.out V hJ.be).mono (by rintro e V' ⟨b, rfl, h2⟩; exact ⟨b, rfl, (fun j hj => match j, hj with | 6, hj => (by rw [hj] at hun; cases hun) | 7, hj => absurd ((hcl 7 _ rfl hj 6 (by kernel_rfl))) (by rw [hun]; simp) | 8, hj => absurd ((hcl 7 _ rfl (hcl 8 _ rfl hj 7 (by kernel_rfl)) 6 (by kernel_rfl))) (by rw [hun]; simp) | 9, hj => absurd ((hcl 7 _ rfl (hcl 9 _ rfl hj 7 (by kernel_rfl)) 6 (by kernel_rfl))) (by rw [hun]; simp) | 10, hj => absurd ((hcl 7 _ rfl (hcl 8 _ rfl (hcl 10 _ rfl hj 8 (by kernel_rfl)) 7 (by kernel_rfl)) 6 (by kernel_rfl))) (by rw [hun]; simp) | 11, hj => absurd ((hcl 7 _ rfl (hcl 9 _ rfl (hcl 11 _ rfl hj 9 (by kernel_rfl)) 7 (by kernel_rfl)) 6 (by kernel_rfl))) (by rw [hun]; simp) | 0, _ => rfl | 1, _ => rfl | 2, _ => rfl | 3, _ => rfl | 4, _ => rfl | 5, _ => rfl | _ + 12, _ => rfl), hJ.carry h2⟩))
  | 7, _, ho => cases ho; exact zgo fun g d hdep => zmv rfl trivial _ rfl (by kernel_rfl)
  | 8, _, ho => cases ho; exact zgo fun g d hdep => step_extract rfl trivial _ _ _ rfl rfl (fun v hw => rfl)
  | 9, _, ho => cases ho; exact zgo fun g d hdep => step_extract rfl trivial _ _ _ rfl rfl (fun v hw => rfl)
  | 10, _, ho => cases ho; exact zgo fun g d hdep => zas rfl trivial _ rfl (by kernel_rfl) (fun _ h => h)
  | 11, _, ho => cases ho; exact zgo fun g d hdep => zas rfl trivial _ rfl (by kernel_rfl) (fun _ h => h)
 intro g d W hall hW
 first | refine hK _ _ ?_ | refine (‹∀ (a : Act) (w : World), Code.wp Tryz.prog _ _ a w → _›) _ _ ?_ | skip
 simp only [finL, List.getD_cons_zero, List.getD_cons_succ, Nat.zero_add, Nat.reduceAdd, List.setIfInBounds_toArray, List.set_cons_zero, List.set_cons_succ]
 have HW : Hid (JLn w sl mp W) := hW
 clear hK hW hall hJ
 go_wp2
 rename_i hK
 refine wp_region_any hmx ?_
 refine zwt (G := (Unit)) (fun g i__ => ([(.agg #[sl, mp]), (.iface T X), (.int .i64 (fr : Int)), (.tuple #[.int .i32 C, .int .i64 0]), (.tuple #[.int .i32 C, .int .i64 0]), (.int .i32 C), (.int .i64 0), (.int .i32 C), (.int .i64 0)] : List Value).getD i__ undef) (fun _ d V => JLn w sl mp V) (by kernel_rfl) (()) (HW.out.carry (Below.refl _ _).drew) ?step17 ?fin17
 case step17 =>
  intro i o ho
  have hi : i < 9 := getElem?_lt ho
  match i, hi, ho with
  | 0, _, ho => cases ho; exact zgo fun g d hdep => zld rfl trivial _ _ _ rfl rfl (fun v hw => load_ros3 hw.bx)
  | 1, _, ho => cases ho; exact zgo fun g d hdep => zmv rfl trivial _ rfl (by kernel_rfl)
  | 2, _, ho => cases ho; exact stepG_invoke rfl (fun _ => trivial) FS _ "Sender" (.iface T X) [X] rfl (fun g => by kernel_rfl) hcs (fun g d V hJ hun hdep hcl => (HS.out V).mono (by rintro e V' ⟨rfl, h2⟩; exact ⟨(), rfl, (fun _ _ => rfl), hJ.carry h2⟩))
  | 3, _, ho => cases ho; exact zgo fun g d hdep => zsc rfl trivial 155 _ _ [(.agg #[sl, mp]), (.int .i64 (fr : Int))] rfl (by kernel_rfl) (enters_of Tryz.func155 (by kernel_rfl) rfl) (fun V hw => (HSG.out V hw.be).mono (by rintro e w' ⟨rfl, h⟩; exact ⟨rfl, hw.carry h⟩))
  | 4, _, ho => cases ho; exact zgo fun g d hdep => zmv rfl trivial _ rfl (by kernel_rfl)
  | 5, _, ho => cases ho; exact zgo fun g d hdep => step_extract rfl trivial _ _ _ rfl rfl (fun v hw => rfl)
  | 6, _, ho => cases ho; exact zgo fun g d hdep => step_extract rfl trivial _ _ _ rfl rfl (fun v hw => rfl)
  | 7, _, ho => cases ho; exact zgo fun g d hdep => zas rfl trivial _ rfl (by kernel_rfl) (fun _ h => h)
  | 8, _, ho => cases ho; exact zgo fun g d hdep => zas rfl trivial _ rfl (by kernel_rfl) (fun _ h => h)
 intro g d W hall hW
 first | refine hK _ _ ?_ | refine (‹∀ (a : Act) (w : World), Code.wp Tryz.prog _ _ a w → _›) _ _ ?_ | skip
 simp only [finL, List.getD_cons_zero, List.getD_cons_succ, Nat.zero_add, Nat.reduceAdd, List.setIfInBounds_toArray, List.set_cons_zero, List.set_cons_succ]
 have HV : Hid (JLn w sl mp W) := hW
 clear hK hW hall HW
 have hsV := HV.out.be.size
 have hlV := zla HV.out.bx
 obtain ⟨W3, hW3⟩ : ∃ W3, W.alloc (.cells #[.string first, .string sg] 9) = W3 := ⟨_, rfl⟩
 have hb3 : Below W.heap.size W W3 := by rw [← hW3]; exact al1t _ _
 have hz3 : W3.heap.size = W.heap.size + 1 := by rw [← hW3]; simp
 have hr3 : W3.ownsRow W.heap.size 9 1 (.slice (some ⟨W.heap.size, 0, none⟩) 2 2) 2 (strC [first, sg]) := by
  refine ⟨rfl, .inr ⟨W.heap.size, 2, _, rfl, Nat.le_refl _, by rw [← hW3]; exact zna rfl, Nat.le_refl _, by decide, rfl, rfl⟩⟩
 have hbs := bsS2 W first sg
 rw [hW3] at hbs
 have HJ3 : Hid (JLn w sl mp W3) := HV.out.carry hb3
 have HXS3 : Hid (RdX W3 adb xs) := fun hne => by
  obtain ⟨b, off, e, h1, h2⟩ := HXS.out hne
  exact ⟨b, off, e, by omega, fun j x hj => (HJ3.out.be.cell (p := ⟨b, off + j, none⟩) h1).trans (h2 j x hj)⟩
 obtain ⟨ic, hic, hz0, hz1, hz2⟩ := info_partsS
 by_cases hxe : xs = []
 case pos =>
  obtain ⟨rfl, rfl⟩ := HX0.out hxe
  have hl0 : xs.length = 0 := by rw [hxe]; rfl
  go_wp2_with (refine wpList_append_own_none rfl _ _ 58 rfl W.heap.size 9 ic 1 Tryz.underlying58 hic (.slice (some ⟨W.heap.size, 0, none⟩) 2 2) 2 (strC [first, sg]) rfl hr3 (by rw [hl0]; rfl) ?_)
  have HRW : Hid (W3.ownsRow W.heap.size 9 1 (.slice (some ⟨W.heap.size, 0, none⟩) 2 2) (2 + xs.length) (strC ([first, sg] ++ xs))) := (by rw [hxe]; exact hr3)
  have HJX : Hid (JLn w sl mp W3) := HJ3.out
  have hBX : W.heap.size ≤ W3.heap.size := (by omega)
  obtain ⟨vx, hvx⟩ : ∃ vx : Value, (.slice (some ⟨W.heap.size, 0, none⟩) 2 2) = vx := ⟨_, rfl⟩
  rw [hvx] at HRW ⊢
  rename_i hK
  refine wp_region_any hmx ?_
  refine zwt (G := (((Option Addr × Nat) × Nat) × Value)) (fun g i__ => ([vx, (.agg #[sl, mp]), (.iface T X), (.slice g.1.1.1 ns.length g.1.1.2), (.string nw), (.slice (some ⟨g.1.2, 0, none⟩) 1 1), g.2, g.2] : List Value).getD i__ undef) (fun g d V => JL6 w sl mp W.heap.size vx (2 + xs.length) (strC ([first, sg] ++ xs)) ns nw g (d 3 && !d 6) (d 5 && !d 6) (d 6) V) (by kernel_rfl) ((((none, 0), 0), undef)) (show JL6 w sl mp W.heap.size vx (2 + xs.length) (strC ([first, sg] ++ xs)) ns nw (((none, 0), 0), undef) false false false _ from JL6.carry ⟨HJX.out.be, HJX.out.bx, hBX, fun _ => HRW.out, (fun e => by cases e), (fun e => by cases e), (fun e => by cases e)⟩ (Below.refl _ _).drew) ?step18 ?fin18
  case step18 =>
   intro i o ho
   have hi : i < 8 := getElem?_lt ho
   match i, hi, ho with
   | 0, _, ho => cases ho; exact zgo fun g d hdep => zmv rfl trivial _ rfl (by kernel_rfl)
   | 1, _, ho => cases ho; exact zgo fun g d hdep => zld rfl trivial _ _ _ rfl rfl (fun v hw => load_ros3 hw.bx)
   | 2, _, ho => cases ho; exact zgo fun g d hdep => zmv rfl trivial _ rfl (by kernel_rfl)
   | 3, _, ho => cases ho; exact stepG_invoke rfl (fun _ => trivial) FN _ "Notices" (.iface T X) [X] rfl (fun g => by kernel_rfl) hcn (fun g d V hJ hun hdep hcl => by have h6 : d 6 = false := (by cases h : d 6 with | false => rfl | true => exact absurd (hcl 5 _ rfl (hcl 6 _ rfl h 5 (by kernel_rfl)) 4 (by kernel_rfl)) (by intro h4; have := hcl 4 _ rfl h4 3 (by kernel_rfl); rw [hun] at this; cases this)); have h5 : d 5 = false := (by cases h : d 5 with | false => rfl | true => exact absurd (hcl 5 _ rfl h 4 (by kernel_rfl)) (by intro h4; have := hcl 4 _ rfl h4 3 (by kernel_rfl); rw [hun] at this; cases this)); exact (HN.out V hJ.be).mono (by rintro e V' ⟨a, c, rfl, h1, h2⟩; refine ⟨(((a, c), g.1.2), g.2), rfl, (fun j hj => match j, hj with | 3, hj => (by rw [hj] at hun; cases hun)  | 0, _ => rfl | 1, _ => rfl | 2, _ => rfl | 4, _ => rfl | 5, _ => rfl | 6, _ => rfl | 7, _ => rfl | _ + 8, _ => rfl), ?_⟩; have h := hJ.carry h2; show JL6 w sl mp W.heap.size vx (2 + xs.length) (strC ([first, sg] ++ xs)) ns nw (((a, c), g.1.2), g.2) (true && !d 6) (d 5 && !d 6) (d 6) V'; rw [h6, h5]; rw [h6, h5] at h; exact ⟨h.be, h.bx, h.bs, h.ro, fun _ => h1, (fun e => by cases e), (fun e => by cases e)⟩))
   | 4, _, ho => cases ho; exact stepG_call rfl (fun _ => trivial) 156 _ _ (fun g => [.agg #[sl, mp], .slice g.1.1.1 ns.length g.1.1.2]) rfl (fun g => by kernel_rfl) (enters_of Tryz.func156 (by kernel_rfl) rfl) (fun g d V hJ hun hdep hcl => by have h6 : d 6 = false := (by cases h : d 6 with | false => rfl | true => exact absurd (hcl 5 _ rfl (hcl 6 _ rfl h 5 (by kernel_rfl)) 4 (by kernel_rfl)) (by rw [hun]; simp)); have h3 := hdep 3 (by kernel_rfl); have hr := hJ.nt (by rw [h3, h6]; rfl); exact (HNW.out V _ _ hJ.be hr).mono (by rintro e V' ⟨rfl, h2⟩; exact ⟨g, rfl, (fun _ _ => rfl), hJ.carry h2⟩))
   | 5, _, ho => cases ho; exact stepG_buildS rfl rfl _ _ (fun g => .string nw) rfl (fun g => by kernel_rfl) (fun g d V hJ hun hdep hcl => by have h6 : d 6 = false := (by cases h : d 6 with | false => rfl | true => exact absurd (hcl 6 _ rfl h 5 (by kernel_rfl)) (by rw [hun]; simp)); refine ⟨((g.1.1, V.heap.size), g.2), _, bsS1 V nw, (fun j hj => match j, hj with | 5, hj => (by rw [hj] at hun; cases hun)  | 0, _ => rfl | 1, _ => rfl | 2, _ => rfl | 3, _ => rfl | 4, _ => rfl | 6, _ => rfl | 7, _ => rfl | _ + 8, _ => rfl), ?_⟩; have h := hJ.carry (al1t V (.cells #[.string nw] 9)); show JL6 w sl mp W.heap.size vx (2 + xs.length) (strC ([first, sg] ++ xs)) ns nw ((g.1.1, V.heap.size), g.2) (d 3 && !d 6) (true && !d 6) (d 6) _; rw [h6] at h ⊢; exact ⟨h.be, h.bx, h.bs, h.ro, h.nt, fun _ => zna rfl, (fun e => by cases e)⟩)
   | 6, _, ho => cases ho; exact stepG_appendS rfl rfl _ _ _ (fun _ => vx) (fun g => .slice (some ⟨g.1.2, 0, none⟩) 1 1) rfl (fun g => by kernel_rfl) (fun g => by kernel_rfl) (fun g d V hJ hun hdep hcl => by have h5 := hdep 5 (by kernel_rfl); rw [h5, hun] at hJ; obtain ⟨v', U, hr, h2⟩ := JL6.app (show w.heap.size < W.heap.size by omega) (by omega) hJ _; refine ⟨(g.1, v'), U, hr, (fun j hj => match j, hj with | 6, hj => (by rw [hj] at hun; cases hun) | 7, hj => absurd ((hcl 7 _ rfl hj 6 (by kernel_rfl))) (by rw [hun]; simp) | 0, _ => rfl | 1, _ => rfl | 2, _ => rfl | 3, _ => rfl | 4, _ => rfl | 5, _ => rfl | _ + 8, _ => rfl), ?_⟩; show JL6 w sl mp W.heap.size vx (2 + xs.length) (strC ([first, sg] ++ xs)) ns nw (g.1, v') (d 3 && !true) (d 5 && !true) true U; rw [h5]; cases d 3 <;> exact h2)
   | 7, _, ho => cases ho; exact zgo fun g d hdep => zas rfl trivial _ rfl (by kernel_rfl) (fun _ h => h)
  intro g d W hall hW
  first | refine hK _ _ ?_ | refine (‹∀ (a : Act) (w : World), Code.wp Tryz.prog _ _ a w → _›) _ _ ?_ | skip
  simp only [finL, List.getD_cons_zero, List.getD_cons_succ, Nat.zero_add, Nat.reduceAdd, List.setIfInBounds_toArray, List.set_cons_zero, List.set_cons_succ]
  rw [hall 6 (by decide)] at hW
  have hrn := hW.rn rfl
  have e3 : strC ([first, sg] ++ xs) ++ [.string nw] = strC ([first, sg] ++ xs ++ [nw]) := by simp [strC]
  have e4 : 2 + xs.length + 1 = ([first, sg] ++ xs ++ [nw]).length := by simp; omega
  rw [e3, e4] at hrn
  obtain ⟨ad9, c9, hv9, _, hc9, hx9⟩ := own_rdx hrn
  have hJN := join_any ad9 c9 _ W hx9 (hc9 (by simp)) (by simp; omega) (by rw [HTT.out]; omega)
  rw [HTT.out] at hJN
  generalize ([first, sg] ++ xs ++ [nw]).length = m9 at *
  rw [hv9]
  have hbe9 := hW.be
  clear hK hW hall hrn hx9 hc9
  go_wp2_with (go_at_call 157; (with_reducible refine hJN.mono ?_); rintro e V2 ⟨rfl, hv2⟩)
  go_ret2
  exact ⟨rfl, bel3 hbe9 hv2⟩
 case neg =>
  obtain ⟨bb, bo, rfl, hbl, hbc⟩ := HXS3.out hxe
  have hxp : 0 < xs.length := List.length_pos_iff.2 hxe
  go_wp2_with (at_builtin; refine wpList_append_own_at _ rfl _ _ 58 rfl W.heap.size 9 ic _ 1 16 Tryz.underlying58 hic hz0 hz1 hz2 rfl (by decide) _ 2 (strC [first, sg]) rfl hr3 ⟨bb, bo, none⟩ xs.length cb (strC xs) rfl (by simp [strC]) (fun j u hj => by rw [add_pl]; unfold strC at hj; rw [List.getElem?_map] at hj; cases hy : xs[j]? with | none => rw [hy] at hj; cases hj | some y => rw [hy] at hj; cases hj; exact hbc j y hy) (str_one xs) (by unfold maxLen; omega) (by omega) (by omega) ?_; intro v' w2 hown' hgrow _ hob)
  have HRW : Hid (w2.ownsRow W.heap.size 9 1 v' (2 + xs.length) (strC ([first, sg] ++ xs))) := (by unfold strC at hown' ⊢; rw [List.map_append]; exact hown')
  have HJX : Hid (JLn w sl mp w2) := (⟨HJ3.out.be.grown hgrow HJ3.out.be.size (fun k e => by have := own_block hr3 k e; omega), (hgrow.block _ (zla HJ3.out.bx) (fun e => by have := own_block hr3 _ e.symm; omega)).trans HJ3.out.bx⟩)
  have hBX : W.heap.size ≤ w2.heap.size := (by have := hgrow.size; omega)
  obtain ⟨vx, hvx⟩ : ∃ vx : Value, v' = vx := ⟨_, rfl⟩
  rw [hvx] at HRW ⊢
  rename_i hK
  refine wp_region_any hmx ?_
  refine zwt (G := (((Option Addr × Nat) × Nat) × Value)) (fun g i__ => ([vx, (.agg #[sl, mp]), (.iface T X), (.slice g.1.1.1 ns.length g.1.1.2), (.string nw), (.slice (some ⟨g.1.2, 0, none⟩) 1 1), g.2, g.2] : List Value).getD i__ undef) (fun g d V => JL6 w sl mp W.heap.size vx (2 + xs.length) (strC ([first, sg] ++ xs)) ns nw g (d 3 && !d 6) (d 5 && !d 6) (d 6) V) (by kernel_rfl) ((((none, 0), 0), undef)) (show JL6 w sl mp W.heap.size vx (2 + xs.length) (strC ([first, sg] ++ xs)) ns nw (((none, 0), 0), undef) false false false _ from JL6.carry ⟨HJX.out.be, HJX.out.bx, hBX, fun _ => HRW.out, (fun e => by cases e), (fun e => by cases e), (fun e => by cases e)⟩ (Below.refl _ _).drew) ?step19 ?fin19
  case step19 =>
   intro i o ho
   have hi : i < 8 := getElem?_lt ho
   match i, hi, ho with
   | 0, _, ho => cases ho; exact zgo fun g d hdep => zmv rfl trivial _ rfl (by kernel_rfl)
   | 1, _, ho => cases ho; exact zgo fun g d hdep => zld rfl trivial _ _ _ rfl rfl (fun v hw => load_ros3 hw.bx)
   | 2, _, ho => cases ho; exact zgo fun g d hdep => zmv rfl trivial _ rfl (by kernel_rfl)
   | 3, _, ho => cases ho; exact stepG_invoke rfl (fun _ => trivial) FN _ "Notices" (.iface T X) [X] rfl (fun g => by kernel_rfl) hcn (fun g d V hJ hun hdep hcl => by have h6 : d 6 = false := (by cases h : d 6 with | false => rfl | true => exact absurd (hcl 5 _ rfl (hcl 6 _ rfl h 5 (by kernel_rfl)) 4 (by kernel_rfl)) (by intro h4; have := hcl 4 _ rfl h4 3 (by kernel_rfl); rw [hun] at this; cases this)); have h5 : d 5 = false := (by cases h : d 5 with | false => rfl | true => exact absurd (hcl 5 _ rfl h 4 (by kernel_rfl)) (by intro h4; have := hcl 4 _ rfl h4 3 (by kernel_rfl); rw [hun] at this; cases this)); exact (HN.out V hJ.be).mono (by rintro e V' ⟨a, c, rfl, h1, h2⟩; refine ⟨(((a, c), g.1.2), g.2), rfl, (fun j hj => match j, hj with | 3, hj => (by rw [hj] at hun; cases hun)  | 0, _ => rfl | 1, _ => rfl | 2, _ => rfl | 4, _ => rfl | 5, _ => rfl | 6, _ => rfl | 7, _ => rfl | _ + 8, _ => rfl), ?_⟩; have h := hJ.carry h2; show JL6 w sl mp W.heap.size vx (2 + xs.length) (strC ([first, sg] ++ xs)) ns nw (((a, c), g.1.2), g.2) (true && !d 6) (d 5 && !d 6) (d 6) V'; rw [h6, h5]; rw [h6, h5] at h; exact ⟨h.be, h.bx, h.bs, h.ro, fun _ => h1, (fun e => by cases e), (fun e => by cases e)⟩))
   | 4, _, ho => cases ho; exact stepG_call rfl (fun _ => trivial) 156 _ _ (fun g => [.agg #[sl, mp], .slice g.1.1.1 ns.length g.1.1.2]) rfl (fun g => by kernel_rfl) (enters_of Tryz.func156 (by kernel_rfl) rfl) (fun g d V hJ hun hdep hcl => by have h6 : d 6 = false := (by cases h : d 6 with | false => rfl | true => exact absurd (hcl 5 _ rfl (hcl 6 _ rfl h 5 (by kernel_rfl)) 4 (by kernel_rfl)) (by rw [hun]; simp)); have h3 := hdep 3 (by kernel_rfl); have hr := hJ.nt (by rw [h3, h6]; rfl); exact (HNW.out V _ _ hJ.be hr).mono (by rintro e V' ⟨rfl, h2⟩; exact ⟨g, rfl, (fun _ _ => rfl), hJ.carry h2⟩))
   | 5, _, ho => cases ho; exact stepG_buildS rfl rfl _ _ (fun g => .string nw) rfl (fun g => by kernel_rfl) (fun g d V hJ hun hdep hcl => by have h6 : d 6 = false := (by cases h : d 6 with | false => rfl | true => exact absurd (hcl 6 _ rfl h 5 (by kernel_rfl)) (by rw [hun]; simp)); refine ⟨((g.1.1, V.heap.size), g.2), _, bsS1 V nw, (fun j hj => match j, hj with | 5, hj => (by rw [hj] at hun; cases hun)  | 0, _ => rfl | 1, _ => rfl | 2, _ => rfl | 3, _ => rfl | 4, _ => rfl | 6, _ => rfl | 7, _ => rfl | _ + 8, _ => rfl), ?_⟩; have h := hJ.carry (al1t V (.cells #[.string nw] 9)); show JL6 w sl mp W.heap.size vx (2 + xs.length) (strC ([first, sg] ++ xs)) ns nw ((g.1.1, V.heap.size), g.2) (d 3 && !d 6) (true && !d 6) (d 6) _; rw [h6] at h ⊢; exact ⟨h.be, h.bx, h.bs, h.ro, h.nt, fun _ => zna rfl, (fun e => by cases e)⟩)
   | 6, _, ho => cases ho; exact stepG_appendS rfl rfl _ _ _ (fun _ => vx) (fun g => .slice (some ⟨g.1.2, 0, none⟩) 1 1) rfl (fun g => by kernel_rfl) (fun g => by kernel_rfl) (fun g d V hJ hun hdep hcl => by have h5 := hdep 5 (by kernel_rfl); rw [h5, hun] at hJ; obtain ⟨v', U, hr, h2⟩ := JL6.app (show w.heap.size < W.heap.size by omega) (by omega) hJ _; refine ⟨(g.1, v'), U, hr, (fun j hj => match j, hj with | 6, hj => (by rw [hj] at hun; cases hun) | 7, hj => absurd ((hcl 7 _ rfl hj 6 (by kernel_rfl))) (by rw [hun]; simp) | 0, _ => rfl | 1, _ => rfl | 2, _ => rfl | 3, _ => rfl | 4, _ => rfl | 5, _ => rfl | _ + 8, _ => rfl), ?_⟩; show JL6 w sl mp W.heap.size vx (2 + xs.length) (strC ([first, sg] ++ xs)) ns nw (g.1, v') (d 3 && !true) (d 5 && !true) true U; rw [h5]; cases d 3 <;> exact h2)
   | 7, _, ho => cases ho; exact zgo fun g d hdep => zas rfl trivial _ rfl (by kernel_rfl) (fun _ h => h)
  intro g d W hall hW
  first | refine hK _ _ ?_ | refine (‹∀ (a : Act) (w : World), Code.wp Tryz.prog _ _ a w → _›) _ _ ?_ | skip
  simp only [finL, List.getD_cons_zero, List.getD_cons_succ, Nat.zero_add, Nat.reduceAdd, List.setIfInBounds_toArray, List.set_cons_zero, List.set_cons_succ]
  rw [hall 6 (by decide)] at hW
  have hrn := hW.rn rfl
  have e3 : strC ([first, sg] ++ xs) ++ [.string nw] = strC ([first, sg] ++ xs ++ [nw]) := by simp [strC]
  have e4 : 2 + xs.length + 1 = ([first, sg] ++ xs ++ [nw]).length := by simp; omega
  rw [e3, e4] at hrn
  obtain ⟨ad9, c9, hv9, _, hc9, hx9⟩ := own_rdx hrn
  have hJN := join_any ad9 c9 _ W hx9 (hc9 (by simp)) (by simp; omega) (by rw [HTT.out]; omega)
  rw [HTT.out] at hJN
  generalize ([first, sg] ++ xs ++ [nw]).length = m9 at *
  rw [hv9]
  have hbe9 := hW.be
  clear hK hW hall hrn hx9 hc9
  go_wp2_with (go_at_call 157; (with_reducible refine hJN.mono ?_); rintro e V2 ⟨rfl, hv2⟩)
  go_ret2
  exact ⟨rfl, bel3 hbe9 hv2⟩
def Tab (W : World) : Prop := ∃ c t, W.heap[0]? = some (.cells c t (0, 0)) ∧ ∀ j, j < 32 → c[j]? = some (.int .u8 (deBruijn32tab.getD j 0 : Nat))
theorem Tab.lt {W : World} (h : Tab W) : 0 < W.heap.size := by obtain ⟨c, t, h, _⟩ := h; exact (Array.getElem?_eq_some_iff.1 h).1
theorem Tab.keep {W W' : World} {B : Nat} (h : Tab W) (hb : Below B W W') (hB : 0 < B) : Tab W' := by
 obtain ⟨c, t, h1, h2⟩ := h
 exact ⟨c, t, (hb.block _ hB).trans h1, h2⟩
theorem Tab.carry {W W' : World} (h : Tab W) (hb : Below W.heap.size W W') : Tab W' := h.keep hb h.lt
theorem Tab.cell {W : World} (h : Tab W) (j : Nat) (hj : j < 32) : W.cell? ⟨0, j, none⟩ = some (.int .u8 (deBruijn32tab.getD j 0 : Nat)) := by
 obtain ⟨c, t, h1, h2⟩ := h
 simp [World.cell?, h1, h2 j hj]
theorem tz_key (x a : Nat) (hx : x < 4294967296) (hx0 : x ≠ 0) (hlow : x &&& (4294967296 - x) = a) :
  bits BinOp.and IntKind.u32 (x : Int) (-(x : Int) % 4294967296) * 125613361 % 4294967296 / 134217728 = ((a * 125613361 % 4294967296 / 134217728 : Nat) : Int) := by
 have e1 : -(x : Int) % 4294967296 = ((4294967296 - x : Nat) : Int) := by omega
 rw [e1, u32_and_nat x _ hx (by omega), hlow]
 omega
theorem tz_core (x k idx : Nat) (w : World) (hx0 : ((x : Int) == 0) = false)
  (key : bits BinOp.and IntKind.u32 (x : Int) (-(x : Int) % 4294967296) * 125613361 % 4294967296 / 134217728 = (idx : Int))
  (hi : idx < 32) (hk : k < 32) (hcell : w.cell? ⟨0, idx, none⟩ = some (.int .u8 k)) :
  Calls Tryz.prog 193 #[.int .u32 (x : Int)] w fun e w' => e = .returned (.int .i64 k) ∧ w' = w := by
 go_enter Tryz.func193, Tryz.ntmps193
 go_wp2_with (simp only [key])
 go_ret
 exact ⟨rfl, rfl⟩
theorem tz_any (x : Nat) (hx : x < 4294967296) (hx0 : x ≠ 0) (w : World) (hT : Tab w) : Calls Tryz.prog 193 #[.int .u32 (x : Int)] w fun e w' => e = .returned (.int .i64 (ctz 32 x : Nat)) ∧ w' = w := by
 obtain ⟨hlow, hk⟩ := lowest_bit 32 x hx0 hx
 obtain ⟨hi, htab⟩ := deBruijn32_at _ hk
 have hcell := hT.cell _ hi
 rw [htab] at hcell
 exact tz_core x _ _ w (by simp; omega) (tz_key x _ hx hx0 hlow) hi hk hcell
attribute [local go_sem] Oper.semAt_some
theorem wfnQ (k : Nat) : Fence.wide.fn k := trivial
theorem wdepQ : Fence.wide.depth = none := rfl
theorem ownFrom_leQ {β : Type} {B B' : Nat} {I : β → World → Prop} (h : OwnFrom B I) (hle : B ≤ B') : OwnFrom B' I := fun s W W' row hs hg hr => h s W W' row hs hg (fun r e => ⟨Nat.le_trans hle (hr r e).1, (hr r e).2⟩)
theorem blk_ownQ {β : Type} (B : Nat) (f : β → Obj) (hc : ∀ s, (f s).isCells = true) : Own (fun s W => W.heap[B]? = some (f s)) := fun s _ _ _ hs hg hrow => (grownBy_keeps_cells hg hrow hs (hc s)).trans hs
theorem all1_seq (M : Nat) (bx : Nat) (w : World) (hbx : Zh4 w bx (wd M)) :
  SeqE Tryz.prog Tab 192 #[.pointer (some ⟨bx, 0, none⟩)] (fun i : Nat => #[.int .i64 (i : Int)]) bx 0 (idsTo M 128) w := by
 intro l J Jx W hW hJ hJx hE hY h0
 have hmx := mixO
 have hbW : Zh4 W bx (wd M) := (hW.block bx hbx.lt).trans hbx
 refine callsIn_of_wp Tryz.func192 rfl trivial ?_ rfl
 simp only [Tryz.ntmps192, List.size_toArray, List.length_cons, List.length_nil, Nat.reduceAdd, Nat.reduceSub, Array.replicate_succ, Array.replicate_zero, List.push_toArray, List.append_toArray, List.nil_append, List.cons_append]
 gi_wp2
 gi_loopw [5] (fun c wr => ∃ k : Nat, c = .int .i64 k ∧ k ≤ 4 ∧ Zh4 wr bx (wd M) ∧ J (idsTo M (32 * k)) wr ∧ W.heap.size ≤ wr.heap.size) (fun c _ => 4 - vnat c)
 case atStart => exact ⟨0, rfl, by omega, hbW, h0, Nat.le_refl _⟩
 case round =>
  obtain ⟨k, rfl, hk, hb, hj, hsz⟩ := hrel
  by_cases hk4 : k < 4
  · have hki : (k : Int) < 4 := by omega
    have hix := idx4 bx k hk4
    have hld := hb.cell k hk4
    gi_wp2
    gi_loopw [4] (fun c wz => ∃ x p : Nat, c = .int .u32 (x : Int) ∧ x < 4294967296 ∧ High x (wd M k) p ∧ p ≤ 32 ∧ Zh4 wz bx (wd M) ∧ J (idsTo M (32 * k + p)) wz ∧ W.heap.size ≤ wz.heap.size) (fun c _ => vnat c)
    case atStart => exact ⟨wd M k, 0, rfl, wd_lt M k, fun i => by simp, by omega, hb, hj, hsz⟩
    case round =>
     rename_i wz _ _
     obtain ⟨x, p, rfl, hx, hH, hp, hb2, hj2, hsz2⟩ := hrel
     by_cases h0x : x = 0
     · subst h0x
       have e : idsTo M (32 * (k + 1)) = idsTo M (32 * k + p) := by
         rw [show 32 * (k + 1) = 32 * k + p + (32 - p) by omega]
         refine idsTo_gap M _ _ (fun i h1 h2 => ?_)
         have h3 := hH (i - 32 * k)
         rw [testBit_wd, show 32 * k + (i - 32 * k) = i by omega] at h3
         simpa [show p ≤ i - 32 * k by omega, show i - 32 * k < 32 by omega] using h3.symm
       gi_wp2
       exact ⟨⟨k + 1, by simp, by omega, hb2, by rw [e]; exact hj2, hsz2⟩, by simp only [vnat]; omega⟩
     · obtain ⟨n1, n2, n3, n4⟩ := hH.next h0x hx
       have hc32 := (testBit_ctz x h0x hx).2.2.1
       have n5 : M.testBit (32 * k + ctz 32 x) = true := by rw [testBit_wd] at n2; simpa [hc32] using n2
       have e : idsTo M (32 * k + (ctz 32 x + 1)) = idsTo M (32 * k + p) ++ [32 * k + ctz 32 x] := by
         refine idsTo_next M (32 * k + p) (32 * k + ctz 32 x) (by omega) (fun i h1 h2 => ?_) n5
         have h3 := n3 (i - 32 * k) (by omega) (by omega)
         rw [testBit_wd, show 32 * k + (i - 32 * k) = i by omega] at h3
         simpa [show i - 32 * k < 32 by omega] using h3
       have hpr : idsTo M (32 * k + p) ++ [32 * k + ctz 32 x] <+: idsTo M 128 := by rw [← e]; exact idsTo_prefix M (by omega)
       have hxne : ((x : Int) != 0) = true := by simp; omega
       have hyl := hY _ _ _ hj2 (by omega) hpr
       have htz := tz_any x hx h0x _ (hE _ _ hj2)
       have hlt := and_pred_lt x h0x
       have hbits : bits BinOp.and IntKind.u32 (x : Int) ((x : Int) - 1) = ((x &&& (x - 1) : Nat) : Int) := by
         rw [show (x : Int) - 1 = ((x - 1 : Nat) : Int) by omega]
         exact u32_and_nat x (x - 1) hx (by omega)
       generalize ctz 32 x = c at *
       have hv : (k : Int) * 32 + (c : Int) = 32 * (k : Int) + (c : Int) := by omega
       obtain ⟨fn, tmps, assign, body, hy, hR⟩ := hyl
       rw [show ((32 * k + c : Nat) : Int) = (k : Int) * 32 + (c : Int) by omega] at hy
       clear hH hY hv
       gi_wp2_with (refine ⟨trivial, rfl, ?_⟩; gi_at_call 193; refine (callsIn_wide.2 htz).mono ?_; rintro e w' ⟨rfl, rfl⟩)
       refine ⟨rfl, hR.mono ?_⟩
       rintro e' W3 ⟨hkp, (⟨rfl, hj3⟩ | ⟨rfl, hjx⟩)⟩
       · have hb3 : Zh4 W3 bx (wd M) := hkp.box.trans hb2
         have hsz3 := hkp.size
         gi_wp2
         go_roundw
         case rel => exact ⟨x &&& (x - 1), c + 1, rfl, by omega, n4, by omega, hb3, by rw [e]; exact hj3, by omega⟩
         case measure => simp only [vnat]; omega
       · gi_wp2
         refine bodyPost_ret (results_none rfl _ _ _) rfl ?_
         exact ⟨⟨_, rfl⟩, .inr ⟨_, hpr, hjx⟩⟩
  · have hk5 : k = 4 := by omega
    subst hk5
    gi_wp2
    go_end0
    exact ⟨⟨_, rfl⟩, .inl hj⟩
theorem all_any (N : Nat) (w : World) :
  Calls Tryz.prog 160 #[sv N] w fun e w' => e = .returned (.func (.func 192) #[] #[.pointer (some ⟨w.heap.size, 0, none⟩)]) ∧ Below w.heap.size w w' ∧ Zh4 w' w.heap.size (wd (cln N)) := by
 have hc := clean_any N
 generalize cln N = M at *
 simp only [sv] at hc ⊢
 go_enter Tryz.func160, Tryz.ntmps160
 go_wp2_with (go_at_call 191; refine (hc _).mono ?_; rintro e w1 ⟨rfl, hb⟩; have q : Hid (Zh4 w1 w.heap.size (wd N)) := (hb.block _ (by simp)).trans (get_newQ (by simp)); obtain ⟨y0, y1, y2, y3, z0, z1, z2, z3⟩ := q.out.facts; have hb2 : Below w.heap.size w w1 := ((Below.refl _ w).alloc (by simp) _).trans (hb.mono (by simp)))
 go_ret
 exact ⟨rfl, below4 hb2 (Nat.le_refl _) M, fin4 q.out M⟩
end Go.Proofs.YtmahamdmapbilaaGreatDoor
namespace Go.Proofs.YtmahamdmapbilaaGreatDoor
open Go.RowKit Go.Shelf Go.Lib
theorem Kept.setCellQ {bx B m : Nat} {W : World} {B' j : Nat} {v : Value} (h1 : B' ≠ bx) (h2 : B' < B ∨ B + m ≤ B') : Kept bx B m W (W.setCell ⟨B', j, none⟩ v) :=
 ⟨by simp [World.setCell], set_otherQ (Ne.symm h1), fun k h3 h4 => set_otherQ (by omega)⟩
theorem below_taken {n : Nat} {w W : World} {k : Nat} (o : Obj) (h : Below n w W) (hk : n ≤ k) : Below n w (W.putObj k o) :=
 h.trans ⟨rfl, rfl, rfl, by simp, fun j hj => World.putObj_heap_other (by omega)⟩
end Go.Proofs.YtmahamdmapbilaaGreatDoor
namespace Go.Proofs.YtmahamdmapbilaaGreatDoor
open Go.RowKit
theorem wp_rangeF {α : Type} {P : Program} {n kb : Nat} {g : Operand} {ps : Array Tmp} {assign body : Code} {Q : Exit → Act → World → Prop} {a : Act} {w : World}
   {gf : Nat} {lb : Array Value} (hg : a.eval g = .func (.func gf) #[] lb) (eg : ∀ args w, (callFunc gf args).run P w = .ok (.enter gf args) w)
   {encs : α → Array Value} {bx m : Nat} {xs : List α} {Ext : World → Prop} (hseq : SeqE P Ext gf lb encs bx m xs w) (hbx : bx < w.heap.size) (hps : ∀ x, (encs x).size = ps.size)
   (I : List α → World → Prop) (Ix : Code → List α → World → Prop) (hI : OwnFrom w.heap.size I) (hIx : ∀ c, OwnFrom w.heap.size (Ix c)) (h0 : I [] w) (hE : ∀ pre W, I pre W → Ext W)
   (Ax : α → Act → World → Prop) (hAx : ∀ x a', OwnFrom w.heap.size (fun (_ : Unit) W => Ax x a' W))
   (hassign : ∀ (l : Nat) (pre : List α) (x : α) (W : World) (K : Act → World → Prop), I pre W → w.heap.size + (m + 2) ≤ W.heap.size →
     (∀ a' W', Kept bx w.heap.size (m + 2) W W' → I pre W' → Ax x a' W' → K a' W') →
     assign.wpIn (Fence.wide.inRound l) kb P (Exit.then K (fun _ _ _ => False)) { tmps := (ps.zip (encs x)).foldl (fun t (p, v) => t.setIfInBounds p v) a.tmps, defers := [] } W)
   (hbody : ∀ (l : Nat) (pre : List α) (x : α) (a' : Act) (W : World), I pre W → Ax x a' W → w.heap.size + (m + 2) ≤ W.heap.size → pre ++ [x] <+: xs → W.heap[w.heap.size]? = some (.deferred (some [])) → (∃ o, W.heap[w.heap.size + 1]? = some (.loop o)) →
     body.wpIn (Fence.wide.inRound l) kb P (postM bx w.heap.size (m + 2) I Ix (pre ++ [x]) W) a' W)
   (hdone : ∀ (W : World), I xs W → W.heap[w.heap.size]? = some (.deferred (some [])) → Q .normal { a with defers := { target := .collected w.heap.size, args := #[] } :: a.defers } W)
   (hstop : ∀ (c : Code) (pre : List α) (W : World), pre <+: xs → Ix c pre W → W.heap[w.heap.size]? = some (.deferred (some [])) →
     c.wpIn Fence.wide n P Q { a with defers := { target := .collected w.heap.size, args := #[] } :: a.defers } W) :
   (Code.rangeFunc g ps assign body).wpIn Fence.wide n P Q a w := by
 refine wpIn_rangeFunc ?_
 intro fn hfn
 obtain ⟨rec, hrec⟩ : ∃ rec : LoopState → Option Code → Loop, rec = fun st pe => { state := st, pending := pe, fn, tmps := a.tmps, params := ps, assign, body, defers := w.heap.size } := ⟨_, rfl⟩
 obtain ⟨W1, hW1⟩ : ∃ W1, (w.alloc (.deferred (some []))).alloc (.loop (rec .ready none)) = W1 := ⟨_, rfl⟩
 have hz1 : W1.heap.size = w.heap.size + 2 := by rw [← hW1]; simp
 have hL1 : W1.heap[w.heap.size + 1]? = some (.loop (rec .ready none)) := by
   rw [← hW1]; have := World.alloc_heap_new (w.alloc (.deferred (some []))) (.loop (rec .ready none)); rwa [World.size_alloc] at this
 have hK1 : W1.heap[w.heap.size]? = some (.deferred (some [])) := by
   rw [← hW1]; exact (Below.heap_alloc _ _ _ (by simp)).trans (World.alloc_heap_new w _)
 have hI1 : I [] W1 := by rw [← hW1]; exact hI.alloc _ (hI.alloc _ h0)
 have hb1 : Below w.heap.size w W1 := by rw [← hW1]; exact ((Below.refl _ w).alloc (Nat.le_refl _) _).alloc (by simp) _
 refine ⟨w.heap.size + 1, [{ target := .collected w.heap.size, args := #[] }], W1, { target := .fn (.func gf) lb, args := #[.func (.yield (w.heap.size + 1)) #[] #[]] }, W1, gf,
   #[.func (.yield (w.heap.size + 1)) #[] #[]] ++ lb, W1, ?_, ?_, ?_, ?_, (fun h => by cases h), ?_⟩
 · rw [← hW1, hrec]; exact run_enterLoop_outer _ _ _ _ _
 · simp only [resolve, hg]
   simp [go_sem]
 · intro f' _; trivial
 · simp [invoke, go_sem, eg]
 · have fresh : ∀ {A : World} {row : Option Nat}, (∀ r, row = some r → W1.heap.size ≤ r ∧ ∃ o : Obj, A.heap[r]? = some o ∧ o.isCells = false) → (∀ r, row = some r → w.heap.size ≤ r ∧ ∃ o : Obj, A.heap[r]? = some o ∧ o.isCells = false) :=
     fun hr r e => ⟨by have := (hr r e).1; omega, (hr r e).2⟩
   have stays : ∀ {A B : World} {row : Option Nat} {k : Nat} {o : Obj}, A.grownBy B row → (∀ r, row = some r → W1.heap.size ≤ r ∧ ∃ o : Obj, A.heap[r]? = some o ∧ o.isCells = false) → A.heap[k]? = some o → k < w.heap.size + 2 → B.heap[k]? = some o :=
     fun hg' hr hk hlt => (hg'.block _ (Array.getElem?_eq_some_iff.1 hk).1 (fun e => by have := (hr _ e.symm).1; omega)).trans hk
   refine calls_any ((hseq (w.heap.size + 1)
     (fun pre W => I pre W ∧ W.heap[w.heap.size + 1]? = some (.loop (rec .ready none)) ∧ W.heap[w.heap.size]? = some (.deferred (some [])))
     (fun pre W => ∃ c, Ix c pre W ∧ W.heap[w.heap.size + 1]? = some (.loop (rec .done (some c))) ∧ W.heap[w.heap.size]? = some (.deferred (some [])))
     W1 hb1
     (fun s A B row hs hg' hr => ⟨hI s A B row hs.1 hg' (fresh hr), stays hg' hr hs.2.1 (by omega), stays hg' hr hs.2.2 (by omega)⟩)
     (fun s A B row hs hg' hr => by
       obtain ⟨c, hc, hl, hk⟩ := hs
       exact ⟨c, hIx c s A B row hc hg' (fresh hr), stays hg' hr hl (by omega), stays hg' hr hk (by omega)⟩)
     (fun s A hs => hE s A hs.1) ?_ ⟨hI1, hL1, hK1⟩).mono ?_)
   · rintro pre x W ⟨hi, hl, hk⟩ hsz hlen
     have hy := run_yield (P := P) (args := encs x) hl (by rw [hrec]; exact hps x)
     rw [hrec] at hy
     refine yield_any (n := kb) ⟨fn, _, assign, body, hy, roundIn_of_wpIn hfn (hassign _ pre x W _ hi (by omega) ?_)⟩
     clear hy
     intro a' Wa hka hia hax
     have hla := (hka.rng (w.heap.size + 1) (by omega) (by omega)).trans hl
     have hda := (hka.rng w.heap.size (by omega) (by omega)).trans hk
     have hza : w.heap.size + (m + 2) ≤ Wa.heap.size := by have := hka.size; omega
     refine ⟨_, run_beginRound hla (by rw [hrec]), ?_⟩
     have hl2 : (Wa.putObj (w.heap.size + 1) (.loop { rec .ready none with state := .busy })).heap[w.heap.size + 1]? = some (.loop { rec .ready none with state := .busy }) := World.putObj_heap_same (by omega)
     have hk2 : (Wa.putObj (w.heap.size + 1) (.loop { rec .ready none with state := .busy })).heap[w.heap.size]? = some (.deferred (some [])) := (World.putObj_heap_other (by omega)).trans hda
     have hp2 : Kept bx W1.heap.size m Wa (Wa.putObj (w.heap.size + 1) (.loop { rec .ready none with state := .busy })) := Kept.putObj _ (by omega) (by omega)
     refine wpIn_mono (hbody _ pre x a' _ (hI.putObj _ hia (by omega) hla rfl) ((hAx x a').putObj (s := ()) _ hax (by omega) hla rfl) (by simpa using hza) hlen hk2 ⟨_, hl2⟩) ?_
     have fin : ∀ (jump : Option Code) (W3 : World), Kept bx w.heap.size (m + 2) (Wa.putObj (w.heap.size + 1) (.loop { rec .ready none with state := .busy })) W3 →
        (Instr.endRound (w.heap.size + 1) jump).run P W3 = .ok (.bool jump.isNone) (W3.putObj (w.heap.size + 1) (.loop (rec (if jump.isNone then .ready else .done) jump))) ∧
        W3.heap[w.heap.size + 1]? = some (.loop { rec .ready none with state := .busy }) ∧
        (W3.putObj (w.heap.size + 1) (.loop (rec (if jump.isNone then .ready else .done) jump))).heap[w.heap.size + 1]? = some (.loop (rec (if jump.isNone then .ready else .done) jump)) ∧
        (W3.putObj (w.heap.size + 1) (.loop (rec (if jump.isNone then .ready else .done) jump))).heap[w.heap.size]? = some (.deferred (some [])) ∧
        Kept bx W1.heap.size m W (W3.putObj (w.heap.size + 1) (.loop (rec (if jump.isNone then .ready else .done) jump))) := fun jump W3 hk3 => by
       have hl3 := (hk3.rng (w.heap.size + 1) (by omega) (by omega)).trans hl2
       have hrun := run_endRound (P := P) jump hl3
       rw [hrec] at hrun
       refine ⟨by rw [hrec]; exact hrun, hl3, World.putObj_heap_same (Array.getElem?_eq_some_iff.1 hl3).1, (World.putObj_heap_other (by omega)).trans ((hk3.rng w.heap.size (by omega) (by omega)).trans hk2), ?_⟩
       exact (((hka.less (by omega) (by omega)).trans hp2).trans (hk3.less (by omega) (by omega))).trans (Kept.putObj _ (by omega) (by omega))
     rintro e a3 W3 hp
     cases e with
     | normal =>
       obtain ⟨hk3, hi3⟩ := hp
       obtain ⟨hr, hl3, hl4, hk4, hq⟩ := fin none W3 hk3
       exact ⟨_, _, hr, hq, .inl ⟨rfl, hI.putObj _ hi3 (by omega) hl3 rfl, hl4, hk4⟩⟩
     | ret =>
       obtain ⟨hk3, hi3⟩ := hp
       obtain ⟨hr, hl3, hl4, hk4, hq⟩ := fin (some .ret) W3 hk3
       exact ⟨_, _, hr, hq, .inr ⟨rfl, .ret, (hIx _).putObj _ hi3 (by omega) hl3 rfl, hl4, hk4⟩⟩
     | exit id =>
       obtain ⟨hk3, hi3⟩ := hp
       obtain ⟨hr, hl3, hl4, hk4, hq⟩ := fin (some (.exit id)) W3 hk3
       exact ⟨_, _, hr, hq, .inr ⟨rfl, .exit id, (hIx _).putObj _ hi3 (by omega) hl3 rfl, hl4, hk4⟩⟩
     | goto t =>
       obtain ⟨hk3, hi3⟩ := hp
       obtain ⟨hr, hl3, hl4, hk4, hq⟩ := fin (some (.goto t)) W3 hk3
       exact ⟨_, _, hr, hq, .inr ⟨rfl, .goto t, (hIx _).putObj _ hi3 (by omega) hl3 rfl, hl4, hk4⟩⟩
     | panic ch => exact hp.elim
     | outgrown => exact hp.elim
   · rintro e W2 ⟨⟨v, rfl⟩, (⟨hi, hl, hk⟩ | ⟨pre, hpre, c, hi, hl, hk⟩)⟩
     · exact ⟨none, _, by have := run_endLoop (P := P) hl (by rw [hrec]; simp); rw [hrec] at this; exact this, hdone _ (hI.putObj _ hi (by omega) hl rfl) ((World.putObj_heap_other (by omega)).trans hk)⟩
     · exact ⟨some c, _, by have := run_endLoop (P := P) hl (by rw [hrec]; simp); rw [hrec] at this; exact this, hstop c pre _ hpre ((hIx c).putObj _ hi (by omega) hl rfl) ((World.putObj_heap_other (by omega)).trans hk)⟩
end Go.Proofs.YtmahamdmapbilaaGreatDoor
