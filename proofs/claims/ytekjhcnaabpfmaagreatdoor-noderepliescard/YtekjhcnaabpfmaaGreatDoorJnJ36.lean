import Derived.Test.YtekjhcnaabpfmaaGreatDoorJnJ34
import Derived.Test.YtekjhcnaabpfmaaGreatDoorJnJ35
import Derived.Test.YtekjhcnaabpfmaaGreatDoorJnJ33
import Derived.Laws.CopyOwn
import Derived.Deep.OwnRows
import Derived.Test.YtekjhcnaabpfmaaGreatDoorJnJ5
import Derived.Laws.Tables
import Derived.Deep.WholeRow
set_option maxHeartbeats 40000000
set_option maxRecDepth 100000
set_option linter.unusedVariables false
namespace Go.Proofs.YtekjhcnaabpfmaaGreatDoor
open Go.RowKit Go.Shelf Go.Lib
attribute [local go_sem] Oper.semAt_some
section
variable {w W : World} {base x : Nat} {A : NA} {s : Ns}
theorem hearP_self (h : Nd w base x A s) {ad : Option Addr} {cap : Nat} {bs : List Nat} (hr : RdBW w ad bs) (hby : BytW bs) (hc : bs.length ≤ cap) {fr rd N : Nat} {l : List N3} (hd : dec (s.n : Int) bs = .ok (2, fr, rd, N, l)) (hnl : l.length ≤ 1000000) (hN : N < S128) (hfs : (fr : Int) = (s.s : Int)) :
  Calls Tryz.prog 14 #[.pointer (some ⟨x, 0, none⟩), .slice ad bs.length cap] w fun r w' => r = .returned (.tuple #[.slice none 0 0, .int .i64 72]) ∧ Below w.heap.size w w' := by
 have hmx := mixO
 have hup := up_yes h.obj
 have c1 := h.obj.c1
 have hdc : Calls Tryz.prog 13 #[.slice ad bs.length cap, .int .i64 (s.n : Int)] w fun e w' => ∃ a c, e = .returned (.tuple #[.iface 62 (.agg #[.int .i64 (fr : Int), .int .i64 (rd : Int), .int .u32 (wd N 0 : Nat), .int .u32 (wd N 1 : Nat), .int .u32 (wd N 2 : Nat), .int .u32 (wd N 3 : Nat), .slice a l.length c]), .int .i64 0]) ∧ w'.ownsRow w.heap.size 65 3 (.slice a l.length c) l.length (fl l) ∧ Below w.heap.size w w' := (decode_any ad cap bs (s.n : Int) w hr hby hc).mono (by intro e w' hh; unfold DcO at hh; rw [hd] at hh; exact hh)
 obtain ⟨m, hm⟩ : ∃ m, bs.length = m := ⟨_, rfl⟩
 rw [hm] at hdc ⊢
 have HFS : Hid ((fr : Int) = (s.s : Int)) := hfs
 clear hd hm hr hby hc hfs
 go_enter Tryz.func14, Tryz.ntmps14
 go_wp2_with (first | (go_at_call 28; (with_reducible refine hup.mono ?_); rintro r u ⟨rfl, hu⟩; obtain rfl := hu.symm) | (go_at_call 13; (with_reducible refine hdc.mono ?_); rintro r u ⟨a, c, rfl, hrow, hb⟩))
 have hN1 := h.carry hb
 have hrd := RdN.ofRow hrow
 clear hdc hup c1
 rename_i hK
 refine wp_region_any hmx ?_
 refine zwt (G := Unit) (fun g i__ => ([(.iface 62 (.agg #[.int .i64 (fr : Int), .int .i64 (rd : Int), .int .u32 (wd N 0 : Nat), .int .u32 (wd N 1 : Nat), .int .u32 (wd N 2 : Nat), .int .u32 (wd N 3 : Nat), .slice a l.length c])), (.int .i64 (fr : Int)), (.pointer (some ⟨x, 0, none⟩)), (.pointer (some ⟨x, 0, none⟩)), (.pointer (some ⟨x, 3, none⟩)), (.int .i64 (s.s : Int)), (.bool true)] : List Value).getD i__ undef) (fun _ d V => Below u.heap.size u V) (by kernel_rfl) (()) ((Below.refl _ _).drew) ?step19 ?fin19
 case step19 =>
  intro i o ho
  have hi : i < 7 := getElem?_lt ho
  match i, hi, ho with
  | 0, _, ho => cases ho; exact zgo fun g d hdep => zmv rfl trivial _ rfl (by kernel_rfl)
  | 1, _, ho => cases ho; exact stepG_invoke rfl (fun _ => trivial) 203 _ "Sender" (.iface 62 (.agg #[.int .i64 (fr : Int), .int .i64 (rd : Int), .int .u32 (wd N 0 : Nat), .int .u32 (wd N 1 : Nat), .int .u32 (wd N 2 : Nat), .int .u32 (wd N 3 : Nat), .slice a l.length c])) [.agg #[.int .i64 (fr : Int), .int .i64 (rd : Int), .int .u32 (wd N 0 : Nat), .int .u32 (wd N 1 : Nat), .int .u32 (wd N 2 : Nat), .int .u32 (wd N 3 : Nat), .slice a l.length c]] rfl (fun g => by kernel_rfl) (fun w => cmP_Sender _ w) (fun g d V hJ hun hdep hcl => (senderP_any (fr : Int) (rd : Int) (wd N 0 : Nat) (wd N 1 : Nat) (wd N 2 : Nat) (wd N 3 : Nat) a l.length c V).mono (by rintro e V' ⟨rfl, hb2⟩; exact ⟨(), rfl, fun j hj => rfl, bel2 hJ hb2⟩))
  | 2, _, ho => cases ho; exact zgo fun g d hdep => zmv rfl trivial _ rfl (by kernel_rfl)
  | 3, _, ho => cases ho; exact zgo fun g d hdep => znc rfl trivial _ _ _ rfl rfl rfl
  | 4, _, ho => cases ho; exact zgo fun g d hdep => zfa rfl trivial _ _ _ _ rfl rfl (fun v hw => (zfn v _).2.2.2.1)
  | 5, _, ho => cases ho; exact zgo fun g d hdep => zld rfl trivial _ _ _ rfl rfl (fun v hw => load_in (hN1.carry hw).obj.c3)
  | 6, _, ho => cases ho; exact zgo fun g d hdep => zbo rfl trivial _ _ _ _ _ _ _ rfl rfl rfl (fun v hw => by have e1 : ((fr : Int) == (s.s : Int)) = true := (by have := HFS.out; simpa using this); rw [← e1]; exact bin_eql _ _ _)
 intro g d W hall hW
 first | refine hK _ _ ?_ | refine (‹∀ (a : Act) (w : World), Code.wp Tryz.prog _ _ a w → _›) _ _ ?_ | skip
 simp only [finL, List.getD_cons_zero, List.getD_cons_succ, Nat.zero_add, Nat.reduceAdd, List.setIfInBounds_toArray, List.set_cons_zero, List.set_cons_succ]
 have hbW : Below u.heap.size u W := hW
 clear hW hall hK
 go_wp2
 go_ret2
 exact ⟨rfl, bel2 hb hbW⟩
theorem hearP_ok (h : Nd w base x A s) {ad : Option Addr} {cap : Nat} {bs : List Nat} (hr : RdBW w ad bs) (hby : BytW bs) (hc : bs.length ≤ cap) {fr rd N : Nat} {l : List N3} (hd : dec (s.n : Int) bs = .ok (2, fr, rd, N, l)) (hnl : l.length ≤ 1000000) (hN : N < S128) (hfs : (fr : Int) ≠ (s.s : Int)) (hEn : Env w) (hbs : 2 < base) (hbo : Bok s.l) (hl0 : 0 < s.l.length) (hl1 : s.l.length ≤ 100) (hf : Fz s.d) (hw0 : 0 ≤ s.d.writes) (hw : s.d.writes ≤ 4611686018427387903) (hev : s.ev.length ≤ 100000) (he : (dDf (abs s.l (s.s : Int) l) (s.s : Int) s.d s.b).e = 0) (hv : Tv s.t) :
  Calls Tryz.prog 14 #[.pointer (some ⟨x, 0, none⟩), .slice ad bs.length cap] w fun r w' => r = .returned (.tuple #[.slice none 0 0, .int .i64 0]) ∧ ∃ A', Nd w' base x A' { dDe { s with l := abs s.l (s.s : Int) l } with t := tk (dDe { s with l := abs s.l (s.s : Int) l }).t (fr : Int) (rd : Int) N } ∧ Mv x A A' w w' := by
 have hmx := mixO
 have hup := up_yes h.obj
 have c1 := h.obj.c1
 have hdc : Calls Tryz.prog 13 #[.slice ad bs.length cap, .int .i64 (s.n : Int)] w fun e w' => ∃ a c, e = .returned (.tuple #[.iface 62 (.agg #[.int .i64 (fr : Int), .int .i64 (rd : Int), .int .u32 (wd N 0 : Nat), .int .u32 (wd N 1 : Nat), .int .u32 (wd N 2 : Nat), .int .u32 (wd N 3 : Nat), .slice a l.length c]), .int .i64 0]) ∧ w'.ownsRow w.heap.size 65 3 (.slice a l.length c) l.length (fl l) ∧ Below w.heap.size w w' := (decode_any ad cap bs (s.n : Int) w hr hby hc).mono (by intro e w' hh; unfold DcO at hh; rw [hd] at hh; exact hh)
 obtain ⟨m, hm⟩ : ∃ m, bs.length = m := ⟨_, rfl⟩
 rw [hm] at hdc ⊢
 have HFS : Hid ((fr : Int) ≠ (s.s : Int)) := hfs
 clear hd hm hr hby hc hfs
 go_enter Tryz.func14, Tryz.ntmps14
 go_wp2_with (first | (go_at_call 28; (with_reducible refine hup.mono ?_); rintro r u ⟨rfl, hu⟩; obtain rfl := hu.symm) | (go_at_call 13; (with_reducible refine hdc.mono ?_); rintro r u ⟨a, c, rfl, hrow, hb⟩))
 have hN1 := h.carry hb
 have hrd := RdN.ofRow hrow
 clear hdc hup c1
 rename_i hK
 refine wp_region_any hmx ?_
 refine zwt (G := Unit) (fun g i__ => ([(.iface 62 (.agg #[.int .i64 (fr : Int), .int .i64 (rd : Int), .int .u32 (wd N 0 : Nat), .int .u32 (wd N 1 : Nat), .int .u32 (wd N 2 : Nat), .int .u32 (wd N 3 : Nat), .slice a l.length c])), (.int .i64 (fr : Int)), (.pointer (some ⟨x, 0, none⟩)), (.pointer (some ⟨x, 0, none⟩)), (.pointer (some ⟨x, 3, none⟩)), (.int .i64 (s.s : Int)), (.bool false)] : List Value).getD i__ undef) (fun _ d V => Below u.heap.size u V) (by kernel_rfl) (()) ((Below.refl _ _).drew) ?step20 ?fin20
 case step20 =>
  intro i o ho
  have hi : i < 7 := getElem?_lt ho
  match i, hi, ho with
  | 0, _, ho => cases ho; exact zgo fun g d hdep => zmv rfl trivial _ rfl (by kernel_rfl)
  | 1, _, ho => cases ho; exact stepG_invoke rfl (fun _ => trivial) 203 _ "Sender" (.iface 62 (.agg #[.int .i64 (fr : Int), .int .i64 (rd : Int), .int .u32 (wd N 0 : Nat), .int .u32 (wd N 1 : Nat), .int .u32 (wd N 2 : Nat), .int .u32 (wd N 3 : Nat), .slice a l.length c])) [.agg #[.int .i64 (fr : Int), .int .i64 (rd : Int), .int .u32 (wd N 0 : Nat), .int .u32 (wd N 1 : Nat), .int .u32 (wd N 2 : Nat), .int .u32 (wd N 3 : Nat), .slice a l.length c]] rfl (fun g => by kernel_rfl) (fun w => cmP_Sender _ w) (fun g d V hJ hun hdep hcl => (senderP_any (fr : Int) (rd : Int) (wd N 0 : Nat) (wd N 1 : Nat) (wd N 2 : Nat) (wd N 3 : Nat) a l.length c V).mono (by rintro e V' ⟨rfl, hb2⟩; exact ⟨(), rfl, fun j hj => rfl, bel2 hJ hb2⟩))
  | 2, _, ho => cases ho; exact zgo fun g d hdep => zmv rfl trivial _ rfl (by kernel_rfl)
  | 3, _, ho => cases ho; exact zgo fun g d hdep => znc rfl trivial _ _ _ rfl rfl rfl
  | 4, _, ho => cases ho; exact zgo fun g d hdep => zfa rfl trivial _ _ _ _ rfl rfl (fun v hw => (zfn v _).2.2.2.1)
  | 5, _, ho => cases ho; exact zgo fun g d hdep => zld rfl trivial _ _ _ rfl rfl (fun v hw => load_in (hN1.carry hw).obj.c3)
  | 6, _, ho => cases ho; exact zgo fun g d hdep => zbo rfl trivial _ _ _ _ _ _ _ rfl rfl rfl (fun v hw => by have e1 : ((fr : Int) == (s.s : Int)) = false := (by have := HFS.out; simpa using this); rw [← e1]; exact bin_eql _ _ _)
 intro g d W hall hW
 first | refine hK _ _ ?_ | refine (‹∀ (a : Act) (w : World), Code.wp Tryz.prog _ _ a w → _›) _ _ ?_ | skip
 simp only [finL, List.getD_cons_zero, List.getD_cons_succ, Nat.zero_add, Nat.reduceAdd, List.setIfInBounds_toArray, List.set_cons_zero, List.set_cons_succ]
 have hbW : Below u.heap.size u W := hW
 clear hW hall hK
 obtain ⟨W1, rfl⟩ : ∃ W1, W1 = W := ⟨_, rfl⟩
 have hN2 := hN1.carry hbW
 have hr2 := hrd.carry hbW
 have hnr : ∀ q, a = some q → ¬ nown x A q.block := fun q e e2 => by have h1 := (row_lt2 hrow q.block (by rw [ob_eq, e]; rfl)).1; have := h.lt e2; omega
 obtain ⟨s1, hs1⟩ : ∃ s1 : Ns, { s with l := abs s.l (s.s : Int) l } = s1 := ⟨_, rfl⟩
 obtain ⟨T1, hT1⟩ : ∃ T1 : Int, (if l.all (vlx s.l.length) = true then (0 : Int) else 50) = T1 := ⟨_, rfl⟩
 obtain ⟨T2, hT2⟩ : ∃ T2 : Nat, abr s.l (s.s : Int) l = T2 := ⟨_, rfl⟩
 have hab : ∀ V (a' : Option Addr) (c' : Nat), Nd V base x A s → RdN V a' l → Calls Tryz.prog 40 #[.pointer (some ⟨A.bp, 0, none⟩), .int .i64 (s.s : Int), .slice a' l.length c'] V fun e w' => e = .returned (.tuple #[sv T2, .int .i64 T1]) ∧ Nd w' base x A s1 ∧ Mv x A A V w' := fun V a' c' hV hm => by
  have h1 := absorb_any hV.bk (s.s : Int) a' c' l hm hnl
  rw [hT1, hT2] at h1
  refine h1.mono ?_
  rintro r w' ⟨rfl, k1, k2⟩
  obtain ⟨h2, h3⟩ := hV.book k1 k2
  exact ⟨rfl, hs1 ▸ h2, h3⟩
 have hss : s1.s = s.s := by rw [← hs1]
 clear hT1 hT2
 have HS1 : Hid ({ s with l := abs s.l (s.s : Int) l } = s1) := hs1
 clear hs1
 go_wp2
 rename_i hK
 refine wp_region_any hmx ?_
 refine zwt (G := (Option Addr × Nat)) (fun g i__ => ([(.pointer (some ⟨x, 0, none⟩)), (.pointer (some ⟨x, 0, none⟩)), (.pointer (some ⟨x, 4, none⟩)), (.pointer (some ⟨A.bp, 0, none⟩)), (.pointer (some ⟨x, 0, none⟩)), (.pointer (some ⟨x, 0, none⟩)), (.pointer (some ⟨x, 3, none⟩)), (.int .i64 (s.s : Int)), (.iface 62 (.agg #[.int .i64 (fr : Int), .int .i64 (rd : Int), .int .u32 (wd N 0 : Nat), .int .u32 (wd N 1 : Nat), .int .u32 (wd N 2 : Nat), .int .u32 (wd N 3 : Nat), .slice a l.length c])), (.slice g.1 l.length g.2), (.tuple #[sv T2, .int .i64 T1])] : List Value).getD i__ undef) (fun g d V => Jn W1 base x A s s1 l g (d 9) (d 10) V) (by kernel_rfl) ((none, 0)) (show Jn W1 base x A s s1 l (none, 0) false false _ from ⟨hN2.carry (Below.refl _ _).drew, Mv.of _ _ (Below.refl _ _).drew, fun e => (by cases e)⟩) ?step21 ?fin21
 case step21 =>
  intro i o ho
  have hi : i < 11 := getElem?_lt ho
  match i, hi, ho with
  | 0, _, ho => cases ho; exact zgo fun g d hdep => zmv rfl trivial _ rfl (by kernel_rfl)
  | 1, _, ho => cases ho; exact zgo fun g d hdep => znc rfl trivial _ _ _ rfl rfl rfl
  | 2, _, ho => cases ho; exact zgo fun g d hdep => zfa rfl trivial _ _ _ _ rfl rfl (fun v hw => (zfn v _).2.2.2.2.1)
  | 3, _, ho => cases ho; exact zgo fun g d hdep => zld rfl trivial _ _ _ rfl rfl (fun v hw => load_bk0 hw.nd.obj.c4)
  | 4, _, ho => cases ho; exact zgo fun g d hdep => zmv rfl trivial _ rfl (by kernel_rfl)
  | 5, _, ho => cases ho; exact zgo fun g d hdep => znc rfl trivial _ _ _ rfl rfl rfl
  | 6, _, ho => cases ho; exact zgo fun g d hdep => zfa rfl trivial _ _ _ _ rfl rfl (fun v hw => (zfn v _).2.2.2.1)
  | 7, _, ho => cases ho; exact zgo fun g d hdep => zld rfl trivial _ _ _ rfl rfl (fun v hw => load_in (by have h3 := hw.nd.obj.c3; split at h3 <;> first | exact h3 | (rw [hss] at h3; exact h3)))
  | 8, _, ho => cases ho; exact zgo fun g d hdep => zmv rfl trivial _ rfl (by kernel_rfl)
  | 9, _, ho => cases ho; exact stepG_invoke rfl (fun _ => trivial) 202 _ "Notices" (.iface 62 (.agg #[.int .i64 (fr : Int), .int .i64 (rd : Int), .int .u32 (wd N 0 : Nat), .int .u32 (wd N 1 : Nat), .int .u32 (wd N 2 : Nat), .int .u32 (wd N 3 : Nat), .slice a l.length c])) [.agg #[.int .i64 (fr : Int), .int .i64 (rd : Int), .int .u32 (wd N 0 : Nat), .int .u32 (wd N 1 : Nat), .int .u32 (wd N 2 : Nat), .int .u32 (wd N 3 : Nat), .slice a l.length c]] rfl (fun g => by kernel_rfl) (fun w => cmP_Notices _ w) (fun g d V hJ hun hdep hcl => by have h10 : d 10 = false := (by cases h : d 10 with | false => rfl | true => exact absurd (hcl 10 _ rfl h 9 (by kernel_rfl)) (by rw [hun]; simp)); have hJ' := hJ; rw [hun, h10] at hJ'; refine (noticesP_any (fr : Int) (rd : Int) (wd N 0 : Nat) (wd N 1 : Nat) (wd N 2 : Nat) (wd N 3 : Nat) a c l V (hr2.mvY hJ'.mv hnr) (by omega)).mono ?_; rintro e V' ⟨a2, c2, rfl, hrw, hb2⟩; refine ⟨(a2, c2), rfl, (fun j hj => match j, hj with | 9, hj => (by rw [hj] at hun; cases hun)  | 0, _ => rfl | 1, _ => rfl | 2, _ => rfl | 3, _ => rfl | 4, _ => rfl | 5, _ => rfl | 6, _ => rfl | 7, _ => rfl | 8, _ => rfl | 10, _ => rfl | _ + 11, _ => rfl), ?_⟩; show Jn W1 base x A s s1 l _ true (d 10) V'; rw [h10]; exact ⟨hJ'.nd.carry hb2, hJ'.mv.trans (Mv.of _ _ hb2), fun _ _ => RdN.ofRow hrw⟩)
  | 10, _, ho => cases ho; exact stepG_call rfl (fun _ => trivial) 40 _ _ (fun g => [.pointer (some ⟨A.bp, 0, none⟩), .int .i64 (s.s : Int), .slice g.1 l.length g.2]) rfl (fun g => by kernel_rfl) (enters_of Tryz.func40 (by kernel_rfl) rfl) (fun g d V hJ hun hdep hcl => by have h9 : d 9 = true := hdep 9 (by kernel_rfl); have hJ' := hJ; rw [h9, hun] at hJ'; refine (hab V g.1 g.2 hJ'.nd (hJ'.row rfl rfl)).mono ?_; rintro e V' ⟨rfl, k1, k2⟩; refine ⟨g, rfl, fun j hj => rfl, ?_⟩; show Jn W1 base x A s s1 l _ (d 9) true V'; rw [h9]; exact ⟨k1, hJ'.mv.trans k2, fun _ e => (by cases e)⟩)
 intro g d W hall hW
 first | refine hK _ _ ?_ | refine (‹∀ (a : Act) (w : World), Code.wp Tryz.prog _ _ a w → _›) _ _ ?_ | skip
 simp only [finL, List.getD_cons_zero, List.getD_cons_succ, Nat.zero_add, Nat.reduceAdd, List.setIfInBounds_toArray, List.set_cons_zero, List.set_cons_succ]
 rw [hall 9 (by decide), hall 10 (by decide)] at hW
 have hN3 : Nd W base x A s1 := hW.nd
 have hM3 := hW.mv
 have hM4 : Mv x A A w W := (Mv.of _ _ (bel2 hb hbW)).trans hM3
 have hE3 : Env W := hEn.low (hM4.below h) hbs
 clear hW hall hK hab
 have q1 : s1.l = abs s.l (s.s : Int) l := by rw [← HS1.out]
 have q2 : s1.d = s.d := by rw [← HS1.out]
 have q3 : s1.b = s.b := by rw [← HS1.out]
 have q4 : s1.ev = s.ev := by rw [← HS1.out]
 have q5 : s1.H = s.H := by rw [← HS1.out]
 have q6 : s1.t = s.t := by rw [← HS1.out]
 have q7 : s1.l.length = s.l.length := by rw [q1]; exact abs_len hbo _ _
 have hde := defendN_any hN3 hE3 hbs (by rw [q1]; exact abs_bok hbo _ _) (by rw [q7]; exact hl1) (by rw [q2]; exact hf) (by rw [q2]; exact hw0) (by rw [q2]; exact hw) (by rw [q4]; exact hev)
 have qF : dDf s1.l (s1.s : Int) s1.d s1.b = (dDf (abs s.l (s.s : Int) l) (s.s : Int) s.d s.b) := by rw [q1, q2, q3, hss]
 rw [qF] at hde
 obtain ⟨s2, hs2⟩ : ∃ s2, dDe s1 = s2 := ⟨_, rfl⟩
 have HS2 : Hid (dDe { s with l := abs s.l (s.s : Int) l } = s2) := by show dDe _ = s2; rw [HS1.out]; exact hs2
 rw [hs2] at hde
 rw [he] at hde
 have k1 : s2.l.length = s.l.length := by rw [← hs2, dDe_len, q7]
 have k2 : s2.H = s.H := by rw [← hs2, dDe_H, q5]
 have k3 : s2.t = s.t := by rw [← hs2, dDe_t, q6]
 have k4 : s2.n = s.n ∧ s2.s = s.s := by rw [← hs2]; exact ⟨(dDe_n s1).trans (by rw [← HS1.out]), (dDe_s s1).trans hss⟩
 have hfl0 : flV 0 = .nilIface := rfl
 rw [hfl0] at hde
 have hst0 := settle0 (.pointer (some ⟨x, 0, none⟩))
 have hdd := deeds_any
 clear qF q1 q2 q3 q4 q5 q6 q7 hs2 hfl0 he
 have hkd := kindP_any (fr : Int) (rd : Int) (wd N 0 : Nat) (wd N 1 : Nat) (wd N 2 : Nat) (wd N 3 : Nat) a l.length c
 have mP_Kind := invP_Kind
 go_wp2_with (first
  | (go_at_call 42; (with_reducible refine hde.mono ?_); rintro r u5 ⟨rfl, A5, hN5, hM5⟩)
  | (go_at_call 41; (with_reducible refine (hst0 _).mono ?_); rintro r u6 ⟨rfl, hb6⟩)
  | (go_at_call 43; (with_reducible refine (hdd _).mono ?_); rintro r u7 ⟨rfl, hg7, hb7⟩)
  | (go_at_call 201; (with_reducible refine (hkd _).mono ?_); rintro r u8 ⟨rfl, hb8⟩; have g8 := (hb8.block _ (zla hg7)).trans hg7; have f8 : u8.cell? ⟨u6.heap.size, 2, none⟩ = some (.func (.func 90) #[] #[]) := (zca g8 2).trans rfl; have hdo := ncount_any (hN5.carry (bel2 hb6 (bel2 hb7 hb8))) (by rw [k3]; exact hv) (fr : Int) (rd : Int) N hN a l.length c)
  | (go_at_call 90; (with_reducible refine hdo.mono ?_); rintro r u9 ⟨rfl, A9, hN9, hM9⟩))
 go_ret2
 rw [HS2.out]
 exact ⟨rfl, A9, hN9, (hM4.trans hM5).trans ((Mv.of _ _ (bel2 hb6 (bel2 hb7 hb8))).trans hM9)⟩
end
end Go.Proofs.YtekjhcnaabpfmaaGreatDoor
namespace Go.Proofs.YtekjhcnaabpfmaaGreatDoor
open Go.RowKit Go.Shelf Go.Lib
section
variable {m : Nat} {s : Ns}
theorem Nv.ask (h : Nv m s) : Nv (m + 1) (dAsk s) := by
 have h' := h.mono
 have h3 := h.ev
 exact ⟨h'.n1, h'.n2, h'.fn, h'.sn, h'.on, h'.wr, h'.ro, h'.bok, h'.len, h'.H, h'.tv, h'.tn, h'.td, h'.tr, h'.rp, h'.rs, h'.rc, by show (s.ev ++ [_]).length ≤ _; simp; omega⟩
theorem stDb_l : ∀ (D : List N3) (s : Ns), (D.foldl stDb s).l = D.foldl tke s.l
 | [], _ => rfl
 | y :: D, s => stDb_l D (stDb s y)
theorem dDoubts_len (s : Ns) : (dDoubts s).length ≤ 128 := Nat.le_trans (dbs_len _ _) (idsTo_len _ _)
theorem Nv.close (h : Nv m s) (hm : m ≤ 1000) : (dNx s.d s.b).e = 0 ∧ nwE (s.n : Int) (s.f : Int) (s.s : Int) (dNx s.d s.b).x s.t.reps = 0 ∧ (dCl s).ev.length ≤ 1 + 131 * m + 129 ∧ Nv (m + 1) (dAsk (dCl s)) ∧ (dCl s).t.ro = s.t.ro + 1 ∧ (dCl s).H = s.t.reps ∧ (dCl s).t.reps = 2 ^ s.s ∧ (dCl s).b.ta = s.b.ta ∧ (dCl s).n = s.n ∧ (dCl s).s = s.s := by
 obtain ⟨j, hj, ho⟩ := h.on
 have h1 := h.wr
 have h2 := h.ro
 have h3 := h.ev
 obtain ⟨e0, ex, j', hj', ho', er, et, eli, w1, w2⟩ := ho.next (by omega) (by omega)
 obtain ⟨k0, k1, k2, k3, k4, k5, k6⟩ := nwT_ok (ro := (dNx s.d s.b).x) h.n1 h.n2 h.fn h.sn (by omega) h.rp
 obtain ⟨q1, q2, q3, q4, q5, q6, q7, q8⟩ := stDb_keep (dDoubts (dCl2 (dCl1 s))) (dCl2 (dCl1 s))
 have ql : (dCl s).l = (dDoubts (dCl2 (dCl1 s))).foldl tke s.l := stDb_l _ _
 obtain ⟨f1, f2, _⟩ := fold_tke (dDoubts (dCl2 (dCl1 s))) h.bok
 have hD := dDoubts_len (dCl2 (dCl1 s))
 have qd : (dCl s).d = (dNx s.d s.b).d := q4
 have qb : (dCl s).b = (dNx s.d s.b).b := q5
 have qn : (dCl s).n = s.n := q1
 have qf : (dCl s).f = s.f := q2
 have qs : (dCl s).s = s.s := q3
 have qH : (dCl s).H = s.t.reps := q6
 have qt : (dCl s).t = nwT (s.n : Int) (s.f : Int) (s.s : Int) (dNx s.d s.b).x s.t.reps := rfl
 have qe : (dCl s).ev.length = s.ev.length + 1 + (dDoubts (dCl2 (dCl1 s))).length := by
   have : (dCl s).ev.length = (dCl2 (dCl1 s)).ev.length + (dDoubts (dCl2 (dCl1 s))).length := q8
   rw [this]
   show (s.ev ++ [_]).length + _ = _
   simp
 refine ⟨e0, k0, by omega, ?_, ?_, qH, by rw [qt, k5], by rw [qb, et], qn, qs⟩
 · refine ⟨?_, ?_, ?_, ?_, ⟨j', by omega, ?_⟩, ?_, ?_, ?_, ?_, ?_, ?_, ?_, ?_, ?_, ?_, ?_, ?_, ?_⟩
   · show 1 ≤ (dCl s).n; rw [qn]; exact h.n1
   · show (dCl s).n ≤ 100; rw [qn]; exact h.n2
   · show (dCl s).f < (dCl s).n; rw [qn, qf]; exact h.fn
   · show (dCl s).s < (dCl s).n; rw [qn, qs]; exact h.sn
   · show On (dCl s).d j' (dCl s).b; rw [qd, qb]; exact ho'
   · show 0 ≤ (dCl s).d.writes ∧ _; rw [show (dAsk (dCl s)).d = (dCl s).d from rfl, qd]; omega
   · show 1 ≤ (dCl s).b.ro ∧ (dCl s).b.ro ≤ _; rw [qb]; omega
   · show Bok (dCl s).l; rw [ql]; exact f1
   · show (dCl s).l.length = (dCl s).n; rw [ql, f2, qn]; exact h.len
   · show (dCl s).H < 2 ^ (dCl s).n; rw [qH, qn]; exact h.rp
   · show Tv (dCl s).t; rw [qt]; exact k1
   · show (dCl s).t.n = ((dCl s).n : Int); rw [qt, qn]; exact k2
   · show (dCl s).t.need = ((dCl s).n : Int) - ((dCl s).f : Int); rw [qt, qn, qf]; exact k3
   · show (dCl s).t.ro = (dCl s).b.ro; rw [qt, qb, k4, ex, er]
   · show (dCl s).t.reps < 2 ^ (dCl s).n; rw [qt, qn, k5]; exact Nat.pow_lt_pow_right (by decide) h.sn
   · show (dCl s).t.reps.testBit (dCl s).s = true; rw [qt, qs, k5]; exact Nat.testBit_two_pow_self
   · show (dCl s).t.hs.length = cnt (dCl s).t.reps; rw [qt, k5]; exact k6
   · show ((dCl s).ev ++ [_]).length ≤ _; simp; omega
 · rw [qt, k4, ex, h.tr]
theorem Nv.absorb (h : Nv m s) (nl : List N3) : Nv m { s with l := abs s.l (s.s : Int) nl } :=
 ⟨h.n1, h.n2, h.fn, h.sn, h.on, h.wr, h.ro, abs_bok h.bok _ _, (abs_len h.bok _ _).trans h.len, h.H, h.tv, h.tn, h.td, h.tr, h.rp, h.rs, h.rc, h.ev⟩
theorem Nv.de (h : Nv m s) (hm : m ≤ 1000) : (dDf s.l (s.s : Int) s.d s.b).e = 0 ∧ Nv (m + 1) (dDe s) ∧ s.b.ta ≤ (dDe s).b.ta := by
 obtain ⟨j, hj, ho⟩ := h.on
 have h1 := h.wr
 have h2 := h.ro
 have h3 := h.ev
 have hln := h.len
 have hn2 := h.n2
 obtain ⟨e0, ⟨j', hj', ho'⟩, er, et, eli, w1, w2, hb⟩ := ho.df (by omega) h.bok (by omega) (s.s : Int)
 have q : ∀ s2 : Ns, s2.d = (dDf s.l (s.s : Int) s.d s.b).d → s2.b = (dDf s.l (s.s : Int) s.d s.b).b → s2.l = (dDf s.l (s.s : Int) s.d s.b).l → s2.n = s.n → s2.f = s.f → s2.s = s.s → s2.H = s.H → s2.t = s.t → s2.ev.length ≤ s.ev.length + 1 → Nv (m + 1) s2 ∧ s.b.ta ≤ s2.b.ta := fun s2 qd qb ql qn qf qs qH qt qe => by
   refine ⟨⟨by rw [qn]; exact h.n1, by rw [qn]; exact h.n2, by rw [qn, qf]; exact h.fn, by rw [qn, qs]; exact h.sn, ⟨j', by omega, by rw [qd, qb]; exact ho'⟩, by rw [qd]; omega, by rw [qb]; omega, by rw [ql]; exact hb, by rw [ql, dDf_len, qn]; exact h.len, by rw [qH, qn]; exact h.H, by rw [qt]; exact h.tv, by rw [qt, qn]; exact h.tn, by rw [qt, qn, qf]; exact h.td, by rw [qt, qb, er]; exact h.tr, by rw [qt, qn]; exact h.rp, by rw [qt, qs]; exact h.rs, by rw [qt]; exact h.rc, by omega⟩, by rw [qb]; exact et⟩
 refine ⟨e0, ?_⟩
 unfold dDe dDf1
 split
 · exact q _ rfl rfl rfl rfl rfl rfl rfl rfl (by simp)
 · exact q _ rfl rfl rfl rfl rfl rfl rfl rfl (by simp)
theorem Nv.tak (h : Nv m s) (fr rd : Int) {N : Nat} (hN : N < S128) : Nv m { s with t := tk s.t fr rd N } ∧ (tk s.t fr rd N).ro = s.t.ro ∧ (∀ i, s.t.reps.testBit i = true → (tk s.t fr rd N).reps.testBit i = true) := by
 by_cases h5 : fate s.t fr rd N = 5
 · have e : tk s.t fr rd N = cntT s.t fr N := by unfold tk; rw [if_pos h5]
   have f1 : isN fr s.t.n = true ∧ wthN s.t.reps fr ≠ s.t.reps := by
     unfold fate at h5
     split at h5
     · simp at h5
     · split at h5
       · simp at h5
       · split at h5
         · simp at h5
         · split at h5
           · simp at h5
           · rename_i g1 _ _ g4
             exact ⟨by simpa using g1, g4⟩
   obtain ⟨g1, g4⟩ := f1
   have hfr : 0 ≤ fr ∧ fr < (s.n : Int) := by
     unfold isN at g1
     rw [h.tn] at g1
     exact of_decide_eq_true g1
   obtain ⟨k, rfl⟩ := Int.eq_ofNat_of_zero_le hfr.1
   have hk : k < s.n := by omega
   have hw : wthN s.t.reps (k : Int) = s.t.reps ||| 2 ^ k := wthN_in h.n2 hk h.rp
   rw [e]
   refine ⟨⟨h.n1, h.n2, h.fn, h.sn, h.on, h.wr, h.ro, h.bok, h.len, h.H, h.tv.count hN h5, h.tn, h.td, h.tr, wthN_pow h.n2 hk h.rp, ?_, ?_, h.ev⟩, rfl, fun i hi => ?_⟩
   · show (wthN s.t.reps (k : Int)).testBit s.s = true
     rw [hw, Nat.testBit_or, h.rs]
     rfl
   · show (s.t.hs ++ [N]).length = cnt (wthN s.t.reps (k : Int))
     have hn2 := h.n2
     rw [cnt_flip (by omega) (pow_S100' h.n2 h.rp) g4, ← h.rc]
     simp
   · show (wthN s.t.reps (k : Int)).testBit i = true
     rw [hw, Nat.testBit_or, hi]
     rfl
 · have e : tk s.t fr rd N = s.t := by unfold tk; rw [if_neg h5]
   rw [e]
   exact ⟨h, rfl, fun _ h => h⟩
end
end Go.Proofs.YtekjhcnaabpfmaaGreatDoor
namespace Go.Proofs.YtekjhcnaabpfmaaGreatDoor
open Go.RowKit Go.Shelf
theorem rSum_any (ad : Option Addr) (cap : Nat) (l : List Nat) (w : World) (h : RdBW w ad l) (hb : BytW l) (hl : l.length ≤ 140737488355328) : Calls Tryz.prog 48 #[.slice ad l.length cap] w fun e w' => e = .returned (.int .i64 (sumV l : Nat)) ∧ w' = w := by
 obtain ⟨R, hR⟩ : ∃ R, sumF 1 0 l = R := ⟨_, rfl⟩
 have hlt := sumF_lt l 1 0 (by decide) (by decide)
 rw [sumV, hR]
 rw [hR] at hlt
 have HR : Hid (sumF 1 0 (l.drop 0) = R) := hR
 clear hR
 go_enter Tryz.func48, Tryz.ntmps48
 go_wp2
 go_loopw [3, 4, 5] (fun p q i wz => ∃ (k a b : Nat), p = .int .i64 a ∧ q = .int .i64 b ∧ i = .int .i64 k ∧ k ≤ l.length ∧ a < 65521 ∧ b < 65521 ∧ Hid (sumF a b (l.drop k) = R) ∧ wz = w) (fun _ _ i _ => l.length - vnatW i)
 case atStart => exact ⟨0, 1, 0, rfl, rfl, rfl, Nat.zero_le _, by decide, by decide, HR, rfl⟩
 case round =>
  obtain ⟨k, a, b, rfl, rfl, rfl, hk, ha, hbb, HK, rfl⟩ := hrel
  by_cases hkl : k < l.length
  · obtain ⟨g, off, e1, hbl, hat⟩ := h (fun e => by subst e; simp at hkl)
    subst e1
    obtain ⟨x, hx⟩ := get_ltW hkl
    have c0 := hat k _ hx
    have hx8 := byt_get8W hb hx
    have HS := sumF_drop l k a b x hx
    rw [HK.out] at HS
    have HS2 : Hid (R = sumF ((a + x) % 65521) ((b + (a + x) % 65521) % 65521) (l.drop (k + 1))) := HS
    clear HS HK HR
    have hki : (k : Int) < (l.length : Int) := by omega
    go_wp2
    go_roundw
    case rel => exact ⟨k + 1, (a + x) % 65521, (b + (a + x) % 65521) % 65521, by simp, by simp, by simp, by omega, Nat.mod_lt _ (by decide), Nat.mod_lt _ (by decide), HS2.out.symm, trivial⟩
    case measure => simp [vnatW]; omega
  · have hkk : k = l.length := by omega
    subst hkk
    have hki : ¬ ((l.length : Int) < (l.length : Int)) := by omega
    have HE : Hid (R = (a, b)) := by have := HK.out; rw [List.drop_length] at this; exact this.symm
    clear HK HR h hb
    go_wp2
    go_ret
    rw [HE.out]
    exact ⟨by simp, rfl⟩
end Go.Proofs.YtekjhcnaabpfmaaGreatDoor
namespace Go.Proofs.YtekjhcnaabpfmaaGreatDoor
open Go.RowKit Go.Shelf Go.Lib
def bC (p : Nat → Bool) : Array Value := ((List.range 100).map fun i => Value.bool (p i)).toArray
def HoldsB (w : World) (b : Nat) (p : Nat → Bool) : Prop := w.heap[b]? = some (.cells (bC p) 172)
theorem bC_size (p : Nat → Bool) : (bC p).size = 100 := by simp [bC]
theorem bC_get (p : Nat → Bool) (k : Nat) (h : k < 100) : (bC p)[k]? = some (.bool (p k)) := by simp [bC, h]
theorem bC_set (p : Nat → Bool) (k : Nat) (b : Bool) : (bC p).setIfInBounds k (.bool b) = bC (fun j => if j = k then b else p j) := by
 apply Array.ext_getElem?; intro i
 rw [Array.getElem?_setIfInBounds, bC_size]
 by_cases h : i < 100
 · rw [bC_get _ _ h, bC_get _ _ h]
   by_cases e : k = i
   · subst e; simp [h]
   · have e2 : ¬ i = k := fun c => e c.symm
     simp [e, e2]
 · have h2 : ∀ q, (bC q)[i]? = none := fun q => Array.getElem?_eq_none (by rw [bC_size]; omega)
   rw [h2, h2]
   by_cases e : k = i
   · subst e; simp [h]
   · simp [e]
theorem bC_congr {p q : Nat → Bool} (h : ∀ i, i < 100 → p i = q i) : bC p = bC q := by
 unfold bC
 congr 1
 apply List.map_congr_left
 intro i hi
 rw [h i (List.mem_range.1 hi)]
theorem bC_one (p : Nat → Bool) : (bC p).all (·.oneCell') = true := by
 rw [Array.all_eq_true_iff_forall_mem]
 intro v hv
 simp [bC] at hv
 obtain ⟨i, _, rfl⟩ := hv
 rfl
theorem zeroB : ∀ w, (zeroValue 172).run Tryz.prog w = .ok (.agg (bC (fun _ => false))) w := (zero_of_info (P := Tryz.prog) (n := 100) (by kernel_rfl)).1
theorem sizeB : (Tryz.prog.info? 172).map (·.size) = some 100 := by kernel_rfl
theorem setRow_get {W : World} {b : Nat} {cs cs' : Array Value} {t : TypeId} {z : Nat × Nat} (h : W.heap[b]? = some (.cells cs t z)) : (W.setRow b cs').heap[b]? = some (.cells cs' t z) := by
 simp [World.setRow, Array.getElem?_modify, h]
theorem setRow_other {W : World} {b k : Nat} {cs : Array Value} (h : k ≠ b) : (W.setRow b cs).heap[k]? = W.heap[k]? := by
 have h2 : ¬ b = k := fun e => h e.symm
 simp [World.setRow, Array.getElem?_modify, h2]
theorem below_setRow {n b : Nat} {w W : World} {cs : Array Value} (h : Below n w W) (hn : n ≤ b) : Below n w (W.setRow b cs) :=
 h.trans ⟨rfl, rfl, rfl, by simp [World.setRow], fun k hk => setRow_other (by omega)⟩
theorem HoldsB.cell {w : World} {b : Nat} {p : Nat → Bool} (h : HoldsB w b p) (k : Nat) (hk : k < 100) : w.cell? ⟨b, k, none⟩ = some (.bool (p k)) := by
 unfold HoldsB at h
 simp [World.cell?, h, bC_get p k hk]
theorem HoldsB.frozen {w : World} {b : Nat} {p : Nat → Bool} (h : HoldsB w b p) (k : Nat) : w.frozen? ⟨b, k, none⟩ = false := by
 unfold HoldsB at h
 simp [World.frozen?, h]
theorem HoldsB.congr {w : World} {b : Nat} {p q : Nat → Bool} (h : HoldsB w b p) (e : ∀ j, j < 100 → p j = q j) : HoldsB w b q := by
 unfold HoldsB at *
 rw [h, bC_congr e]
theorem HoldsB.set {w : World} {b : Nat} {p : Nat → Bool} (h : HoldsB w b p) (k : Nat) (v : Bool) : HoldsB (w.setCell ⟨b, k, none⟩ (.bool v)) b (fun j => if j = k then v else p j) := by
 unfold HoldsB at *
 have hlt := (Array.getElem?_eq_some_iff.1 h).1
 rw [← bC_set p k v]
 simp [World.setCell, h, Array.getElem?_modify]
theorem HoldsB.row {w : World} {b : Nat} {p : Nat → Bool} (h : HoldsB w b p) (q : Nat → Bool) : HoldsB (w.setRow b (bC q)) b q := setRow_get h
theorem retB {f : Func} {p : Tmp} {R : Ending → World → Prop} {a : Act} {w : World} {b : Nat} {q : Nat → Bool} (hres : f.results = #[.cell p 172]) (hp : a.tmps.getD p undef = .pointer (some ⟨b, 0, none⟩)) (hd : a.defers = []) (h : HoldsB w b q) (hR : R (.returned (.agg (bC q))) w) : bodyPost Tryz.prog f R .ret a w :=
 bodyPost_ret (results_cell_row hres a.tmps w b _ _ (0, 0) _ hp h Tryz.underlying172 rfl (by rw [bC_size]; exact sizeB)) hd hR
theorem shr_bit (x n : Nat) : ((x / 2 ^ n &&& 1 : Nat) == 1) = x.testBit n := by
 rw [Nat.and_one_is_mod, Nat.testBit_eq_decide_div_mod_eq]
 by_cases h : x / 2 ^ n % 2 = 1 <;> simp [h]
theorem mixB (p : Nat → Bool) (k j : Nat) : (if j = k then p k else if j < k then p j else false) = if j < k + 1 then p j else false := by
 by_cases q : j = k
 · subst q; simp
 · by_cases q2 : j < k
   · rw [if_neg q, if_pos q2, if_pos (by omega)]
   · rw [if_neg q, if_neg q2, if_neg (by omega)]
theorem row_any (N : Nat) (w : World) : Calls Tryz.prog 93 #[sv N] w fun e w' => e = .returned (.agg (bC N.testBit)) ∧ Below w.heap.size w w' := by
 have hz := zeroB
 simp only [sv]
 go_enter Tryz.func93, Tryz.ntmps93
 go_wp2
 clear hz
 go_loopw [4] (fun c wz => ∃ k : Nat, c = .int .i64 k ∧ k ≤ 100 ∧ Zh4 wz w.heap.size (wd N) ∧ HoldsB wz (w.heap.size + 1) (fun _ => false) ∧ HoldsB wz (w.heap.size + 2) (fun j => if j < k then N.testBit j else false) ∧ Below w.heap.size w wz) (fun c _ => 100 - vnat c)
 case atStart => exact ⟨0, rfl, by omega, get_old (get_old (get_new (by simp))), get_old (get_new (by simp)), get_new (by simp), (((Below.refl _ w).alloc (by simp) _).alloc (by simp) _).alloc (by simp; omega) _⟩
 case round =>
  obtain ⟨k, rfl, hk, h1, h2, h3, hb⟩ := hrel
  by_cases hk4 : k < 100
  · have hki : (k : Int) < 100 := by omega
    have hq : k / 32 < 4 := by omega
    have hq' : (k : Int) / 32 < 4 := by omega
    have hc1 := h1.cell (k / 32) hq
    have hc3 := h3.cell k hk4
    have hf3 := h3.frozen k
    have hbit : (bits BinOp.and IntKind.u32 ((wd N (k / 32) : Int) / 2 ^ (k % 32)) 1 == 1) = N.testBit k := by
     have e : (wd N (k / 32) : Int) / 2 ^ (k % 32) = ((wd N (k / 32) / 2 ^ (k % 32) : Nat) : Int) := by simp
     have hl : wd N (k / 32) / 2 ^ (k % 32) < 4294967296 := Nat.lt_of_le_of_lt (Nat.div_le_self _ _) (wd_lt N _)
     rw [e, show (1 : Int) = ((1 : Nat) : Int) from rfl, u32_and_nat _ _ hl (by omega), ← bit_word N k, ← shr_bit]
     by_cases h : wd N (k / 32) / 2 ^ (k % 32) &&& 1 = 1
     · rw [h]; rfl
     · have h2 : ¬ ((wd N (k / 32) / 2 ^ (k % 32) &&& 1 : Nat) : Int) = ((1 : Nat) : Int) := by omega
       rw [beq_eq_false_iff_ne.2 h, beq_eq_false_iff_ne.2 h2]
    go_wp2
    go_roundw
    case rel => exact ⟨k + 1, by simp, by omega, (Below.heap_setCell _ _ _ _ (by simp; omega)).trans h1, (Below.heap_setCell _ _ _ _ (by simp)).trans h2, (h3.set k _).congr (fun j _ => mixB N.testBit k j), hb.setCell (p := ⟨w.heap.size + 1 + 1, k, none⟩) (by simp; omega) _⟩
    case measure => simp only [vnat]; omega
  · have hk5 : k = 100 := by omega
    subst hk5
    have h3' : HoldsB wr (w.heap.size + 2) N.testBit := h3.congr (fun j hj => by simp [hj])
    clear h3
    go_wp2_with (first | (refine wpList_load_row rfl 172 _ rfl (w.heap.size + 1 + 1) rfl _ _ _ _ h3' Tryz.underlying172 rfl (by rw [bC_size]; exact sizeB) ?_) | (refine wpList_store_row rfl 172 _ _ rfl (w.heap.size + 1) (bC N.testBit) rfl rfl _ _ h2 (by rw [bC_size]; exact sizeB) (by rw [bC_size, bC_size]) (bC_one _) ?_))
    exact retB rfl rfl rfl (h2.row _) ⟨rfl, below_setRow hb (by omega)⟩
end Go.Proofs.YtekjhcnaabpfmaaGreatDoor
