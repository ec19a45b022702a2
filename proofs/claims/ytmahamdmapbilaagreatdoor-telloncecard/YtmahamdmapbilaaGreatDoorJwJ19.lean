import Derived.Test.YtmahamdmapbilaaGreatDoorJwJ18
import Derived.Maps.Own
import Derived.StringKeys
import Derived.Test.YtmahamdmapbilaaGreatDoorJwJ6
import Derived.Test.YtmahamdmapbilaaGreatDoorJwJ13
import Derived.Test.YtmahamdmapbilaaGreatDoorJwJ16
import Derived.Test.YtmahamdmapbilaaGreatDoorJwJ10
import Derived.Defers
import Derived.Recover
set_option maxHeartbeats 40000000
set_option maxRecDepth 100000
set_option linter.unusedVariables false
namespace Go.Proofs.YtmahamdmapbilaaGreatDoor
open Go.RowKit Go.Shelf Go.Lib
theorem take_last (f : FuncId) (fc : Array Value) (hen : ∀ args w, (callFunc f args).run Tryz.prog w = .ok (.enter f args) w) {nb wb : Nat} {l : List Tk4} {w : World} (h : Tk nb wb l l.length w) (x : Tk4) (hx0 : x = (0, ⟨#[]⟩, 0, 1)) (hf : ∀ V, Ob nb w V → Calls Tryz.prog f (#[tk4 x] ++ fc) V fun e w' => e = .returned (.bool true) ∧ Below V.heap.size V w') : Calls Tryz.prog 93 #[.func (.func f) #[] fc, .pointer (some ⟨nb, 0, none⟩), .pointer (some ⟨wb, 0, none⟩)] w fun e w' => e = .returned (tk4 x) ∧ Tk nb wb l l.length w' ∧ Ob nb w w' := by
 have hmx := mixO
 obtain ⟨ad, cap, hw1, hw2, hw3⟩ := h.wd
 have hnl := zla h.nx
 have hwl := zla hw1
 obtain ⟨n, hN⟩ : ∃ n, l.length = n := ⟨_, rfl⟩
 have hNN : Hid (l.length = n) := hN
 rw [hN] at hw1 h ⊢
 have h0 : Hid (Tk nb wb l n w) := h
 have hci : tkC x = #[.int .i64 0, .string ⟨#[]⟩, .int .i64 0, .int .i64 1] := by rw [hx0]; rfl
 obtain ⟨W1, hW1⟩ : ∃ W1, w.alloc (.cells #[.int .i64 0, .string ⟨#[]⟩, .int .i64 0, .int .i64 0] 48) = W1 := ⟨_, rfl⟩
 have hb1 : Below w.heap.size w W1 := by rw [← hW1]; exact al1t _ _
 have hs1 : W1.heap.size = w.heap.size + 1 := by rw [← hW1]; simp
 have hr1 : W1.heap[w.heap.size]? = some (.cells #[.int .i64 0, .string ⟨#[]⟩, .int .i64 0, .int .i64 0] 48 (0, 0)) := by rw [← hW1]; exact zna rfl
 obtain ⟨W2, hW2⟩ : ∃ W2, W1.alloc (.cells #[.int .i64 0, .string ⟨#[]⟩, .int .i64 0, .int .i64 1] 48) = W2 := ⟨_, rfl⟩
 have hb2 : Below W1.heap.size W1 W2 := by rw [← hW2]; exact al1t _ _
 have hr5 : W2.heap[W1.heap.size]? = some (.cells (tkC x) 48 (0, 0)) := by rw [hci, ← hW2]; exact zna rfl
 have hb02 : Below w.heap.size w W2 := hb1.trans (hb2.mono (by omega))
 have hr4 := (hb2.block _ (zla hr1)).trans hr1
 have n2 := (hb02.block _ hnl).trans h.nx
 have d2 := (hb02.block _ hwl).trans hw1
 have HJ4 : Hid (JK nb wb w.heap.size W1.heap.size l n x w W2) := ⟨h.carry hb02, hr4, hr5, Ob.of hb02⟩
 have HX : Hid (∀ V, Ob nb w V → Calls Tryz.prog f (#[tk4 x] ++ fc) V fun e w' => e = .returned (.bool true) ∧ Below V.heap.size V w') := hf
 have HEN : Hid (∀ args w, (callFunc f args).run Tryz.prog w = .ok (.enter f args) w) := hen
 have q1 : W2.cell? ⟨nb, 0, none⟩ = some (.int .i64 (n : Int)) := (zca n2 0).trans rfl
 have q2 : W2.cell? ⟨wb, 0, none⟩ = some (.slice ad n cap) := (zca d2 0).trans rfl
 have hii : ¬ (n : Int) < (n : Int) := by omega
 have hs2 := hb2.size
 have hx0' : Hid (x = (0, ⟨#[]⟩, 0, 1)) := hx0
 clear hf hen hw2 hw3 h hr1 hb1 hb2 hb02 hr4 d2 n2 hr5 hN hx0 hci hs1 hs2
 go_enter Tryz.func93, Tryz.ntmps93
 go_wp2
 rename_i Q0 K0 hK
 refine wp_region_any hmx ?_
 refine zwt (G := (Unit)) (fun g i__ => ([(.func (.func f) #[] fc), (tk4 x), (.bool true), (.bool false), (tk4 x), (.tuple #[])] : List Value).getD i__ undef) (fun _ d V => JK nb wb w.heap.size W1.heap.size l n x w V) (by kernel_rfl) (()) (HJ4.out.carry (Below.refl _ _).drew) ?step6 ?fin6
 case step6 =>
  intro i o ho
  have hi : i < 6 := getElem?_lt ho
  match i, hi, ho with
  | 0, _, ho => cases ho; exact zgo fun g d hdep => zmv rfl trivial _ rfl (by kernel_rfl)
  | 1, _, ho => cases ho; exact zgo fun g d hdep => zld rfl trivial _ _ _ rfl rfl (fun v hw => box_tk hw.r5)
  | 2, _, ho => cases ho; exact stepG_callv rfl (fun _ => trivial) f _ _ _ fc (fun _ => [tk4 x]) rfl (fun g => by kernel_rfl) (fun g => by kernel_rfl) HEN.out (fun g d V hJ hun hdep hcl => (HX.out V hJ.ob).mono (by rintro e w' ⟨rfl, hb'⟩; exact ⟨(), rfl, (fun _ _ => rfl), hJ.carry hb'⟩))
  | 3, _, ho => cases ho; exact zgo fun g d hdep => step_unOp rfl trivial _ _ _ _ rfl rfl (fun v hw => un_notT true v)
  | 4, _, ho => cases ho; exact zgo fun g d hdep => zld rfl trivial _ _ _ rfl rfl (fun v hw => box_tk hw.r5)
  | 5, _, ho => cases ho; exact stepG_call rfl (fun _ => trivial) 94 _ _ (fun _ => [.bool false, .int .i64 80, tk4 x]) rfl (fun g => by kernel_rfl) (enters_of Tryz.func94 (by kernel_rfl) rfl) (fun g d V hJ hun hdep hcl => (trefuse_no 80 x.1 x.2.2.1 x.2.2.2 x.2.1 V).mono (by rintro e w' ⟨rfl, hb'⟩; exact ⟨(), rfl, (fun _ _ => rfl), hJ.carry hb'⟩))
 intro g d W hall hW
 first | refine hK _ _ ?_ | refine (‹∀ (a : Act) (w : World), Code.wp Tryz.prog _ _ a w → _›) _ _ ?_ | skip
 simp only [finL, List.getD_cons_zero, List.getD_cons_succ, Nat.zero_add, Nat.reduceAdd, List.setIfInBounds_toArray, List.set_cons_zero, List.set_cons_succ]
 have hjW : JK nb wb w.heap.size W1.heap.size l n x w W := hW
 have p0 : W.cell? ⟨W1.heap.size, 0, none⟩ = some (.int .i64 x.1) := (zca hjW.r5 0).trans rfl
 have p1 : W.cell? ⟨W1.heap.size, 1, none⟩ = some (.string x.2.1) := (zca hjW.r5 1).trans rfl
 have p2 : W.cell? ⟨W1.heap.size, 2, none⟩ = some (.int .i64 x.2.2.1) := (zca hjW.r5 2).trans rfl
 have p3 : W.cell? ⟨W1.heap.size, 3, none⟩ = some (.int .i64 x.2.2.2) := (zca hjW.r5 3).trans rfl
 have hr4 := hjW.r4
 obtain ⟨W6, hW6⟩ : ∃ W6, W.setRow w.heap.size (tkC x) = W6 := ⟨_, rfl⟩
 have o6 : ∀ q, q ≠ w.heap.size → W6.heap[q]? = W.heap[q]? := fun q hq => by rw [← hW6]; exact Go.setRow_other _ _ _ _ hq
 have r6 : W6.heap[w.heap.size]? = some (.cells (tkC x) 48 (0, 0)) := by rw [← hW6]; exact setRow_heap _ _ _ _ _ _ hr4
 have s6 : W6.heap.size = W.heap.size := by rw [← hW6]; simp [World.setRow]
 have hsW := hjW.ob.size
 have HF : Hid (Tk nb wb l n W6 ∧ Ob nb w W6) := by
  have hob6 : Ob nb w W6 := ⟨by rw [← hW6]; exact hjW.ob.os, by rw [← hW6]; exact hjW.ob.tape, by rw [← hW6]; exact hjW.ob.output, by omega, fun q h1 h2 => (o6 q (by omega)).trans (hjW.ob.block q h1 h2)⟩
  exact ⟨h0.out.move hjW.tk hob6 (o6 nb (by omega)), hob6⟩
 clear hW hjW hall hK HJ4 s6 o6 hsW
 go_wp2_with (refine wpList_store_row rfl 48 (.tmp 4) (.tmp 23) rfl w.heap.size (tkC x) rfl rfl 48 _ hr4 infoTk rfl (by simp [tkC, Value.oneCell']) ?_; rw [hW6])
 refine retTk (x := x) rfl rfl rfl r6 ?_
 exact ⟨rfl, HF.out⟩
theorem step_bld4 {P : Program} {md : Region.Mode} {ops : Array Oper} {Q : Exit → Act → World → Prop} {X0 : Array Value} {val : Nat → Value} {J : World → Prop} {i : Nat} {o : Oper} (hi : ops[i]? = some o) (hg : GOk md ops X0 val i o) (t : TypeId) (k0 k1 k2 k3 : Nat) (x0 x1 x2 x3 : Operand) (v0 v1 v2 v3 : Value) (ho : o.op = .build t #[(k0, x0), (k1, x1), (k2, x2), (k3, x3)]) (h0 : rdo md ops X0 val i o x0 = some v0) (h1 : rdo md ops X0 val i o x1 = some v1) (h2 : rdo md ops X0 val i o x2 = some v2) (h3 : rdo md ops X0 val i o x3 = some v3) (hr : ∀ w, J w → (Instr.build t #[(k0, v0), (k1, v1), (k2, v2), (k3, v3)]).run P w = .ok (val i) w) : StepAt P md ops Q X0 val J J i o :=
 step_of hi hg fun a w hJ hS => by
  unfold Oper.wp execOp
  simp only [ho, hS.eval h0, hS.eval h1, hS.eval h2, hS.eval h3, List.map_toArray, List.map_cons, List.map_nil, Sem.run_bind, hr w hJ, Result.andThen_ok, Sem.run_pure, Oper.upon_value]
  exact ⟨trivial, hJ⟩
theorem step_mkI {P : Program} {md : Region.Mode} {ops : Array Oper} {Q : Exit → Act → World → Prop} {X0 : Array Value} {val : Nat → Value} {J : World → Prop} {i : Nat} {o : Oper} (hi : ops[i]? = some o) (hg : GOk md ops X0 val i o) (t : TypeId) (x : Operand) (v : Value) (ho : o.op = .makeInterface t x) (hx : rdo md ops X0 val i o x = some v) (hr : ∀ w, J w → (Instr.makeInterface t v).run P w = .ok (val i) w) : StepAt P md ops Q X0 val J J i o :=
 step_of hi hg fun a w hJ hS => by
  unfold Oper.wp execOp
  simp only [ho, hS.eval hx, Sem.run_bind, hr w hJ, Result.andThen_ok, Sem.run_pure, Oper.upon_value]
  exact ⟨trivial, hJ⟩
theorem bld_P (fr ro : Int) (N : Nat) (a : Option Addr) (m c : Nat) (w : World) : (Instr.build 95 #[(0, .int .i64 fr), (1, .int .i64 ro), (2, sv N), (3, .slice a m c)]).run Tryz.prog w = .ok (.agg #[.int .i64 fr, .int .i64 ro, .int .u32 (wd N 0 : Nat), .int .u32 (wd N 1 : Nat), .int .u32 (wd N 2 : Nat), .int .u32 (wd N 3 : Nat), .slice a m c]) w := by
 unfold sv
 go_simp
theorem mkI_P (v : Value) (w : World) : (Instr.makeInterface 95 v).run Tryz.prog w = .ok (.iface 95 v) w := by go_simp
structure JP (nb wb b s : Nat) (l : List Tk4) (i j N : Nat) (sl mp : Value) (Z : World) (ns : List N3t) (a : Option Addr) (c : Nat) (W : World) (d : Bool) : Prop where
 tk : Tk nb wb l (if d = true then j else i) W
 rd : RdBx W b sl mp nb wb
 st : Zh4 W s (wd N)
 ob : Ob nb Z W
 row : d = true → W.ownsRow Z.heap.size 124 3 (.slice a ns.length c) ns.length (fl ns)
theorem JP.carry {nb wb b s : Nat} {l : List Tk4} {i j N : Nat} {sl mp : Value} {Z W V : World} {ns : List N3t} {a : Option Addr} {c : Nat} {d : Bool} (h : JP nb wb b s l i j N sl mp Z ns a c W d) (hb : Below W.heap.size W V) : JP nb wb b s l i j N sl mp Z ns a c V d := ⟨h.tk.carry hb, (hb.block _ (zla h.rd)).trans h.rd, (hb.block _ (zla h.st)).trans h.st, h.ob.trans (Ob.of hb), fun e => zrb (h.row e) hb⟩
attribute [local go_sem] Oper.semAt_some
def rdV (sl mp : Value) (nb wb : Nat) : Value := .agg #[sl, mp, .func (.func 93) #[] #[.pointer (some ⟨nb, 0, none⟩), .pointer (some ⟨wb, 0, none⟩)]]
def ET (R : Value) : Array MapEntry := #[⟨.string ⟨#[113, 117, 101, 114, 121]⟩, .func (.func 95) #[R] #[], 0⟩, ⟨.string ⟨#[114, 101, 112, 108, 121]⟩, .func (.func 96) #[R] #[], 1⟩, ⟨.string ⟨#[114, 117, 109, 111, 114]⟩, .func (.func 97) #[R] #[], 2⟩]
def knV (R : Value) (t : ByteArray) : Value := if t = ⟨#[113, 117, 101, 114, 121]⟩ then .func (.func 95) #[R] #[] else if t = ⟨#[114, 101, 112, 108, 121]⟩ then .func (.func 96) #[R] #[] else if t = ⟨#[114, 117, 109, 111, 114]⟩ then .func (.func 97) #[R] #[] else .nilFunc
theorem keyT : Maps.Keyed Tryz.prog 9 := Maps.string_keyed Tryz.underlying9
theorem keyO {t : ByteArray} (hw : t.size ≤ maxLen) : keyOf Tryz.prog 9 (.string t) = some (.string t.data.toList) := WideMaps.keyOf_string_mk Tryz.underlying9 hw
theorem insT {V : World} {M : Nat} {es : Array MapEntry} {c : Nat} {k : ByteArray} (v : Value) (hb : V.heap[M]? = some (.map es c)) (hk : k.size ≤ maxLen) (hes : ∀ e ∈ es.toList, ∃ j : ByteArray, e.key = .string j ∧ j.size ≤ maxLen ∧ j ≠ k) :
   ∃ V', (Instr.mapUpdate 152 (.map (some M)) (.string k) v).run Tryz.prog V = .ok () V' ∧ V'.heap[M]? = some (.map (es.push ⟨.string k, v, c⟩) (c + 1)) ∧ (∀ n, n ≤ M → Below n V V') := by
 rcases keyT.find V (keyO hk) es.toList (fun e he => by obtain ⟨j, h1, h2, _⟩ := hes e he; exact ⟨_, by rw [h1]; exact keyO h2⟩) with ⟨h1, _⟩ | ⟨j, e0, _, h2, h3⟩
 · refine ⟨ChangeMaps.setBlock V M (.map (es.push ⟨.string k, v, c⟩) (c + 1)), ?_, ChangeMaps.heap_setBlock_same hb _, fun n hn => ?_⟩
   · simp [Instr.mapUpdate, run_underlying Tryz.underlying152, MapKept.run_getObj_map hb, keyT.check V false (keyO hk), h1, MapKept.run_setObj_map _ hb, Result.andThen, ChangeMaps.setBlock]
   · exact ⟨rfl, rfl, rfl, by simp [ChangeMaps.setBlock], fun i hi => ChangeMaps.heap_setBlock_other hb _ (by omega)⟩
 · obtain ⟨j', q1, _, q3⟩ := hes e0 (List.mem_of_getElem? h2)
   rw [q1] at h3
   exact absurd (Value.string.inj h3) q3
theorem lookT {V : World} {M : Nat} {R : Value} (hb : V.heap[M]? = some (.map (ET R) 3)) {k : ByteArray} (hk : k.size ≤ maxLen) : (Instr.lookup 152 (.map (some M)) (.string k) false).run Tryz.prog V = .ok (knV R k) V := by
 have hz : (zeroValue 87).run Tryz.prog V = .ok .nilFunc V := by kernel_rfl
 rcases keyT.find V (keyO hk) (ET R).toList (fun e he => by
   simp only [ET, List.mem_cons, List.not_mem_nil, or_false] at he
   rcases he with rfl | rfl | rfl <;> exact ⟨_, keyO (by decide)⟩) with ⟨h1, h2⟩ | ⟨j, e0, h1, h2, h3⟩
 · have hv : knV R k = .nilFunc := by
    simp only [ET, List.mem_cons, List.not_mem_nil, or_false, forall_eq_or_imp, forall_eq] at h2
    obtain ⟨a1, a2, a3⟩ := h2
    unfold knV
    rw [if_neg (fun e => a1 (by rw [e])), if_neg (fun e => a2 (by rw [e])), if_neg (fun e => a3 (by rw [e]))]
   simp [Instr.lookup, run_underlying Tryz.underlying152, MapKept.run_getObj_map hb, keyT.check V _ (keyO hk), h1, hz, Result.andThen, hv]
 · have hm := List.mem_of_getElem? h2
   have hv : knV R k = e0.val := by
    simp only [ET, List.mem_cons, List.not_mem_nil, or_false] at hm
    rcases hm with rfl | rfl | rfl <;> (have h4 := Value.string.inj h3; subst h4; rfl)
   simp [Instr.lookup, run_underlying Tryz.underlying152, MapKept.run_getObj_map hb, keyT.check V _ (keyO hk), h1, Result.andThen, hv]
theorem hmfT : ∀ (fn : Fn) (first cap : Array Value) (w : World), (Instr.makeFunc fn first cap).run Tryz.prog w = .ok (.func fn first cap) w := fun _ _ _ _ => rfl
theorem neqF (f : FuncId) (a : Array Value) (w : World) : (binOp .neq 87 (.func (.func f) a #[]) .nilFunc).run Tryz.prog w = .ok (.bool true) w := by
 kernel_rfl
theorem isKind_yes {R : Value} {M kb : Nat} {V : World} (hm : V.heap[M]? = some (.map (ET R) 3)) (hk : V.heap[kb]? = some (.cells #[.map (some M)] 152 (0, 0))) (x : Tk4) (hts : x.2.1.size ≤ maxLen) (f : FuncId) (hkn : knV R x.2.1 = .func (.func f) #[R] #[]) : Calls Tryz.prog 98 #[tk4 x, .pointer (some ⟨kb, 0, none⟩)] V fun e w' => e = .returned (.bool true) ∧ Below V.heap.size V w' := by
 unfold tk4 tkV
 obtain ⟨W1, hW1⟩ : ∃ W1, V.alloc (.cells #[.int .i64 x.1, .string x.2.1, .int .i64 x.2.2.1, .int .i64 x.2.2.2] 48) = W1 := ⟨_, rfl⟩
 have hb1 : Below V.heap.size V W1 := by rw [← hW1]; exact al1t _ _
 have hr1 : W1.heap[V.heap.size]? = some (.cells #[.int .i64 x.1, .string x.2.1, .int .i64 x.2.2.1, .int .i64 x.2.2.2] 48 (0, 0)) := by rw [← hW1]; exact zna rfl
 have hlk := lookT ((hb1.block _ (zla hm)).trans hm) hts
 rw [hkn] at hlk
 have c0 : W1.cell? ⟨kb, 0, none⟩ = some (.map (some M)) := (zca ((hb1.block _ (zla hk)).trans hk) 0).trans rfl
 have c1 : W1.cell? ⟨V.heap.size, 1, none⟩ = some (.string x.2.1) := (zca hr1 1).trans rfl
 have hn := neqF f #[R]
 clear hm hk hkn
 go_enter Tryz.func98, Tryz.ntmps98
 go_wp2
 go_ret
 exact ⟨rfl, hb1⟩
end Go.Proofs.YtmahamdmapbilaaGreatDoor
namespace Go.Proofs.YtmahamdmapbilaaGreatDoor
open Go.RowKit Go.Shelf
theorem txt_sz (l : List Int) : (txt l).size = (wr l).length := by
 have h : (txt l).data.toList.length = (txt l).size := by simp
 rw [← h, txt_data]
theorem wr_one (c : Int) : wr [c] = (Utf8.encode c).data.toList := by simp [wr]
theorem wr_pos (c : Int) : 1 ≤ (wr [c]).length := by rw [wr_one, enc_len]; exact (clen_pos _).1
theorem wr_ge : ∀ l : List Int, l.length ≤ (wr l).length
 | [] => by simp
 | c :: l => by
  have h1 := wr_ge l
  have h2 := wr_pos c
  have e : wr (c :: l) = wr [c] ++ wr l := by simp [wr]
  rw [e, List.length_append, List.length_cons]
  omega
theorem txt_at (A B : List Int) (c : Int) (hc : (code c : Int) = c) : ((rn (txt (A ++ c :: B)) (wr A).length : Nat) : Int) = c ∧ wdt (txt (A ++ c :: B)) (wr A).length = (wr [c]).length ∧ (wr A).length < (txt (A ++ c :: B)).size := by
 have h := dec_enc (txt (A ++ c :: B)) (wr A) (wr B) c (by rw [txt_data, wr_append]; rfl)
 have h2 := wr_pos c
 refine ⟨?_, ?_, ?_⟩
 · unfold rn; rw [h]; exact hc
 · unfold wdt; rw [h, wr_one, enc_len]
 · rw [txt_sz, wr_append, show c :: B = [c] ++ B from rfl, wr_append, List.length_append, List.length_append]; omega
theorem txt_ext (A x B : List Int) : (txt (A ++ (x ++ B))).extract (wr A).length ((wr A).length + (wr x).length) = txt x := by
 apply ByteArray.ext
 apply Array.toList_inj.1
 rw [ByteArray.data_extract, Array.toList_extract, txt_data, txt_data, wr_append, wr_append]
 rw [List.extract_eq_take_drop, List.drop_left' rfl, Nat.add_sub_cancel_left, List.take_left' rfl]
theorem txt_rest (A B : List Int) : (txt (A ++ B)).extract (wr A).length (txt (A ++ B)).size = txt B := by
 have h := txt_ext A B []
 rw [List.append_nil] at h
 rw [← h]
 congr 1
 rw [txt_sz, wr_append, List.length_append]
theorem cut_run : ∀ (x A B : List Int) (f nx : Nat) (acc : List Tok), (∀ c ∈ x, (code c : Int) = c) → (wr (A ++ x)).length ≤ nx → cutAt (txt (A ++ (x ++ B))) (f + x.length) (wr A).length nx A.length acc = cutAt (txt (A ++ (x ++ B))) f (wr (A ++ x)).length nx (A.length + x.length) acc
 | [], A, B, f, nx, acc, _, _ => by rw [List.append_nil]; rfl
 | c :: x, A, B, f, nx, acc, hx, hn => by
  obtain ⟨h1, h2, h3⟩ := txt_at A (x ++ B) c (hx c List.mem_cons_self)
  have h4 := wr_pos c
  have e1 : A ++ (c :: x ++ B) = A ++ c :: (x ++ B) := rfl
  have e2 : A ++ c :: (x ++ B) = (A ++ [c]) ++ (x ++ B) := by simp
  have e3 : A ++ c :: x = (A ++ [c]) ++ x := by simp
  have e4 : (wr (A ++ [c])).length = (wr A).length + (wr [c]).length := by rw [wr_append, List.length_append]
  rw [e3] at hn ⊢
  have hle : (wr (A ++ [c])).length ≤ (wr ((A ++ [c]) ++ x)).length := by rw [wr_append (A ++ [c]) x, List.length_append]; omega
  rw [List.length_cons, show f + (x.length + 1) = (f + x.length) + 1 from rfl, e1, cut_skip _ _ _ _ _ _ h3 (by omega), h2, ← e4, e2]
  have ih := cut_run x (A ++ [c]) B f nx acc (fun d hd => hx d (List.mem_cons_of_mem _ hd)) hn
  rw [List.length_append, List.length_singleton] at ih
  rw [ih]
  congr 1
  omega
theorem cut_word (x A B : List Int) (f nx : Nat) (acc : List Tok) (k : Int) (c : Int) (x' : List Int) (hx : x = c :: x') (hc : ∀ c ∈ x, (code c : Int) = c) (hn : nx ≤ (wr A).length) (hs : stepR (txt (A ++ (x ++ B))) (wr A).length = .word k (wr x).length) : cutAt (txt (A ++ (x ++ B))) (f + x.length) (wr A).length nx A.length acc = cutAt (txt (A ++ (x ++ B))) f (wr (A ++ x)).length (wr (A ++ x)).length (A.length + x.length) (acc ++ [(k, txt x, A.length + 1)]) := by
 have he := txt_ext A x B
 subst hx
 obtain ⟨h1, h2, h3⟩ := txt_at A (x' ++ B) c (hc c List.mem_cons_self)
 have e1 : A ++ (c :: x' ++ B) = A ++ c :: (x' ++ B) := rfl
 have e2 : A ++ c :: (x' ++ B) = (A ++ [c]) ++ (x' ++ B) := by simp
 have e3 : A ++ c :: x' = (A ++ [c]) ++ x' := by simp
 have e4 : (wr (A ++ [c])).length = (wr A).length + (wr [c]).length := by rw [wr_append, List.length_append]
 have e5 : (wr (A ++ c :: x')).length = (wr A).length + (wr (c :: x')).length := by rw [wr_append, List.length_append]
 rw [List.length_cons, show f + (x'.length + 1) = (f + x'.length) + 1 from rfl, cut_step _ _ _ _ _ _ (by rw [e1]; exact h3) (by omega), hs]
 dsimp only
 rw [he, e1, h2, ← e4, ← e5, e2, e3]
 have ih := cut_run x' (A ++ [c]) B f (wr ((A ++ [c]) ++ x')).length (acc ++ [(k, txt (c :: x'), A.length + 1)]) (fun d hd => hc d (List.mem_cons_of_mem _ hd)) (Nat.le_refl _)
 rw [List.length_append, List.length_singleton] at ih
 rw [ih]
 congr 1
 omega
def Sp : List Int → Prop
 | [] => True
 | c :: _ => (code c : Int) = c ∧ ¬ (cls c = 4 ∨ cls c = 3)
theorem run_txt : ∀ (x A B : List Int) (f n : Nat), (∀ c ∈ x, (code c : Int) = c ∧ (cls c = 4 ∨ cls c = 3)) → Sp B → (txt (A ++ (x ++ B))).size ≤ (wr A).length + f → runAt (txt (A ++ (x ++ B))) f (wr A).length n = ((wr (A ++ x)).length, n + x.length)
 | [], A, B, f, n, _, hB, hf => by
  rw [List.append_nil, List.nil_append, List.length_nil, Nat.add_zero]
  cases f with
  | zero => rfl
  | succ f =>
   cases B with
   | nil =>
    have e : (txt (A ++ [])).size = (wr A).length := by rw [List.append_nil, txt_sz]
    rw [runAt, if_pos (by omega), e]
   | cons c B =>
    obtain ⟨h1, h2, h3⟩ := txt_at A B c hB.1
    rw [runAt, if_neg (by omega), h1, if_neg hB.2]
 | c :: x, A, B, f, n, hx, hB, hf => by
  obtain ⟨h1, h2, h3⟩ := txt_at A (x ++ B) c (hx c List.mem_cons_self).1
  have h4 := wr_pos c
  have e1 : A ++ (c :: x ++ B) = A ++ c :: (x ++ B) := rfl
  have e2 : A ++ c :: (x ++ B) = (A ++ [c]) ++ (x ++ B) := by simp
  have e3 : A ++ c :: x = (A ++ [c]) ++ x := by simp
  have e4 : (wr (A ++ [c])).length = (wr A).length + (wr [c]).length := by rw [wr_append, List.length_append]
  rw [e1] at hf ⊢
  obtain ⟨g, rfl⟩ : ∃ g, f = g + 1 := ⟨f - 1, by omega⟩
  rw [runAt, if_neg (by omega), h1, if_pos (hx c List.mem_cons_self).2, h2, ← e4, e2, e3]
  rw [e2] at hf
  rw [run_txt x (A ++ [c]) B g (n + 1) (fun d hd => hx d (List.mem_cons_of_mem _ hd)) hB (by omega), List.length_cons]
  congr 1
  omega
theorem runR_txt (x B : List Int) (hx : ∀ c ∈ x, (code c : Int) = c ∧ (cls c = 4 ∨ cls c = 3)) (hB : Sp B) : runR (txt (x ++ B)) = ((wr x).length, x.length) := by
 have h := run_txt x [] B ((txt (x ++ B)).size + 1) 0 hx hB (by simp only [List.nil_append]; omega)
 unfold runR
 rw [List.nil_append, List.nil_append, Nat.zero_add] at h
 exact h
theorem kind_name {c : Int} (h : cls c = 4) : kindR c = 2 := by
 have h1 : c ≠ 34 := fun e => by subst e; exact absurd h (by decide)
 have h2 : c ≠ 35 := fun e => by subst e; exact absurd h (by decide)
 unfold kindR
 rw [if_neg h1, if_neg h2, h]
 rfl
theorem kind_dig {c : Int} (h : cls c = 3) : kindR c = 3 := by
 have h1 : c ≠ 34 := fun e => by subst e; exact absurd h (by decide)
 have h2 : c ≠ 35 := fun e => by subst e; exact absurd h (by decide)
 unfold kindR
 rw [if_neg h1, if_neg h2, h]
 rfl
theorem kind_mark {c : Int} (h : cls c = 5) (h1 : c ≠ 34) (h2 : c ≠ 35) : kindR c = 5 := by
 unfold kindR
 rw [if_neg h1, if_neg h2, h]
 rfl
theorem step_name (x A B : List Int) (c : Int) (x' : List Int) (e : x = c :: x') (hc : cls c = 4) (hx : ∀ c ∈ x, (code c : Int) = c ∧ (cls c = 4 ∨ cls c = 3)) (hl : x.length ≤ 128) (hB : Sp B) : stepR (txt (A ++ (x ++ B))) (wr A).length = .word 2 (wr x).length := by
 have hr := runR_txt x B hx hB
 have ht := txt_rest A (x ++ B)
 have h1 : ((rn (txt (A ++ (x ++ B))) (wr A).length : Nat) : Int) = c := by
  subst e
  exact (txt_at A (x' ++ B) c (hx c List.mem_cons_self).1).1
 unfold stepR
 rw [h1, kind_name hc, if_neg (by decide), if_neg (by decide), if_pos rfl, ht, hr, if_neg (by dsimp only; omega)]
theorem step_num (x A B : List Int) (c : Int) (x' : List Int) (e : x = c :: x') (hx : ∀ c ∈ x, (code c : Int) = c ∧ cls c = 3) (hB : Sp B) (hn : numR (txt x) ≠ none) : stepR (txt (A ++ (x ++ B))) (wr A).length = .word 3 (wr x).length := by
 have hr := runR_txt x B (fun d hd => ⟨(hx d hd).1, .inr (hx d hd).2⟩) hB
 have ht := txt_rest A (x ++ B)
 have he := txt_ext A x B
 have hc : cls c = 3 := (hx c (by rw [e]; exact List.mem_cons_self)).2
 have h1 : ((rn (txt (A ++ (x ++ B))) (wr A).length : Nat) : Int) = c := by
  subst e
  exact (txt_at A (x' ++ B) c (hx c List.mem_cons_self).1).1
 unfold stepR
 rw [h1, kind_dig hc, if_neg (by decide), if_neg (by decide), if_neg (by decide), if_pos rfl, ht, hr]
 dsimp only
 rw [he, if_neg hn]
theorem step_mark (A B : List Int) (c : Int) (hk : (code c : Int) = c) (hc : cls c = 5) (h34 : c ≠ 34) (h35 : c ≠ 35) (hl : (wr [c]).length = 1) : stepR (txt (A ++ ([c] ++ B))) (wr A).length = .word 5 (wr [c]).length := by
 have h1 := (txt_at A B c hk).1
 unfold stepR
 rw [List.singleton_append, h1, kind_mark hc h34 h35, if_neg (by decide), if_neg (by decide), if_neg (by decide), if_neg (by decide), if_neg (by decide), if_pos rfl, hl]
theorem step_gap (A B : List Int) : stepR (txt (A ++ 32 :: B)) (wr A).length = .gap := by
 have h1 := (txt_at A B 32 (by decide)).1
 unfold stepR
 rw [h1, if_pos (by decide)]
abbrev Pc := Int × List Int
def pcR : List Pc → List Int
 | [] => []
 | (_, x) :: r => x ++ pcR r
def okW (k : Int) (x B : List Int) : Prop :=
 (k = 0 ∧ x = [32]) ∨ (k = 2 ∧ (∃ c x', x = c :: x' ∧ cls c = 4) ∧ (∀ c ∈ x, cls c = 4 ∨ cls c = 3) ∧ x.length ≤ 128 ∧ Sp B) ∨ (k = 3 ∧ (∃ c x', x = c :: x') ∧ (∀ c ∈ x, cls c = 3) ∧ numR (txt x) ≠ none ∧ Sp B) ∨ (k = 5 ∧ ∃ c, x = [c] ∧ cls c = 5 ∧ c ≠ 34 ∧ c ≠ 35 ∧ (wr [c]).length = 1)
def okP : List Pc → Prop
 | [] => True
 | (k, x) :: r => (∀ c ∈ x, (code c : Int) = c ∧ c ≠ 10) ∧ okW k x (pcR r) ∧ okP r
def tks : Nat → List Pc → List Tok
 | _, [] => []
 | n, (k, x) :: r => (if k = 0 then [] else [(k, txt x, n + 1)]) ++ tks (n + x.length) r
theorem cut_pcs : ∀ (r : List Pc) (A : List Int) (acc : List Tok) (nx f : Nat), okP r → nx ≤ (wr A).length → (pcR r).length < f → cutAt (txt (A ++ pcR r)) f (wr A).length nx A.length acc = (acc ++ tks A.length r, 0, 0)
 | [], A, acc, nx, f, _, _, hf => by
  obtain ⟨g, rfl⟩ : ∃ g, f = g + 1 := ⟨f - 1, by omega⟩
  rw [pcR, List.append_nil, cut_end _ _ _ _ _ _ (by rw [txt_sz]; omega), tks, List.append_nil]
 | (k, x) :: r, A, acc, nx, f, hk, hn, hf => by
  obtain ⟨h1, h2, h3⟩ := hk
  rw [pcR, List.length_append] at hf
  have hf2 : ∃ g, f = g + x.length := ⟨f - x.length, by omega⟩
  obtain ⟨g, rfl⟩ := hf2
  have hz : ∀ nx', nx' ≤ (wr (A ++ x)).length → ∀ acc', cutAt (txt (A ++ (x ++ pcR r))) g (wr (A ++ x)).length nx' (A.length + x.length) acc' = (acc' ++ tks (A.length + x.length) r, 0, 0) := fun nx' hn' acc' => by
    have ih := cut_pcs r (A ++ x) acc' nx' g h3 hn' (by omega)
    rw [List.append_assoc, List.length_append] at ih
    exact ih
  have hw : ∀ c x', x = c :: x' → stepR (txt (A ++ (x ++ pcR r))) (wr A).length = .word k (wr x).length → k ≠ 0 → cutAt (txt (A ++ (x ++ pcR r))) (g + x.length) (wr A).length nx A.length acc = (acc ++ tks A.length ((k, x) :: r), 0, 0) := fun c x' e hs hk0 => by
    rw [cut_word x A (pcR r) g nx acc k c x' e (fun d hd => (h1 d hd).1) hn hs, hz _ (Nat.le_refl _), tks, if_neg hk0, List.append_assoc]
  rw [pcR]
  rcases h2 with ⟨rfl, rfl⟩ | ⟨rfl, ⟨c, x', e, hc⟩, hl, h128, hB⟩ | ⟨rfl, ⟨c, x', e⟩, hl, hnum, hB⟩ | ⟨rfl, c, rfl, hc, h34, h35, hl⟩
  · obtain ⟨_, k2, k3⟩ := txt_at A (pcR r) 32 (by decide)
    have hs := step_gap A (pcR r)
    have hz' := hz nx (by rw [wr_append, List.length_append]; omega) acc
    rw [wr_append, List.length_append] at hz'
    rw [List.singleton_append] at hz' ⊢
    rw [List.length_singleton, cut_step _ _ _ _ _ _ k3 (by omega), hs]
    dsimp only
    rw [k2, tks, if_pos rfl, List.nil_append]
    exact hz'
  · exact hw c x' e (step_name x A (pcR r) c x' e hc (fun d hd => ⟨(h1 d hd).1, hl d hd⟩) h128 hB) (by decide)
  · exact hw c x' e (step_num x A (pcR r) c x' e (fun d hd => ⟨(h1 d hd).1, hl d hd⟩) hB hnum) (by decide)
  · exact hw c [] rfl (step_mark A (pcR r) c (h1 c List.mem_cons_self).1 hc h34 h35 hl) (by decide)
theorem cut_told (r : List Pc) (h : okP r) : cutR (txt (pcR r)) = (tks 0 r, 0, 0) := by
 have := cut_pcs r [] [] 0 ((txt (pcR r)).size + 1) h (Nat.zero_le _) (by rw [txt_sz]; have := wr_ge (pcR r); omega)
 unfold cutR
 rw [List.nil_append, List.nil_append] at this
 exact this
theorem pc_no10 : ∀ (r : List Pc), okP r → ∀ c ∈ pcR r, (code c : Int) = c ∧ c ≠ 10
 | [], _, c, hc => by cases hc
 | (k, x) :: r, h, c, hc => by
  rw [pcR] at hc
  rcases List.mem_append.1 hc with hc | hc
  · exact h.1 c hc
  · exact pc_no10 r h.2.2 c hc
theorem enc_no10 {c : Int} (h : (code c : Int) ≠ 10) : ∀ b ∈ (Utf8.encode c).data.toList, b ≠ 10 := by
 have hok := code_ok c
 rw [enc_list]
 generalize code c = k at *
 intro b hb e
 subst e
 have hof : ∀ n : Nat, n < 256 → n ≠ 10 → (10 : UInt8) ≠ UInt8.ofNat n := fun n h1 h2 e => by
   have := congrArg UInt8.toNat e
   rw [ofNat8 n h1] at this
   exact h2 this.symm
 split at hb
 · rcases List.mem_singleton.1 hb with e
   exact hof _ (by omega) (by omega) e
 · split at hb
   · simp only [List.mem_cons, List.not_mem_nil, or_false] at hb
     rcases hb with e | e <;> exact hof _ (by omega) (by omega) e
   · split at hb
     · simp only [List.mem_cons, List.not_mem_nil, or_false] at hb
       rcases hb with e | e | e <;> exact hof _ (by omega) (by omega) e
     · simp only [List.mem_cons, List.not_mem_nil, or_false] at hb
       rcases hb with e | e | e | e <;> exact hof _ (by omega) (by omega) e
theorem wr_no10 : ∀ (l : List Int), (∀ c ∈ l, (code c : Int) = c ∧ c ≠ 10) → ∀ b ∈ wr l, b ≠ 10
 | [], _, b, hb => by cases hb
 | c :: l, h, b, hb => by
  rw [wr] at hb
  rcases List.mem_append.1 hb with hb | hb
  · exact enc_no10 (by have := h c List.mem_cons_self; omega) b hb
  · exact wr_no10 l (fun d hd => h d (List.mem_cons_of_mem _ hd)) b hb
theorem lines_told (r : List Pc) (h : okP r) : linesOf (txt (pcR r)) = [txt (pcR r)] := by
 have hn : nlAt (txt (pcR r)) < 0 := by
  rcases Int.lt_or_le (nlAt (txt (pcR r))) 0 with k | k
  · exact k
  · obtain ⟨o, ho⟩ := Int.eq_ofNat_of_zero_le k
    have h2 := (Lib.indexByte_some (o := o) ho).1
    have hm := List.mem_of_getElem? h2
    rw [txt_data] at hm
    exact absurd rfl (wr_no10 _ (pc_no10 r h) 10 hm)
 unfold linesOf
 exact lines_last hn
def wds (r : List Pc) : List Tk4 := (tks 0 r).map (fun x => (x.1, x.2.1, (1 : Int), ((x.2.2 : Nat) : Int))) ++ [(1, ⟨#[10]⟩, 1, (((pcR r).length + 1 : Nat) : Int))]
theorem flat_tk (ln : Nat) : ∀ l : List Tok, flatT ln l = (l.map (fun x => ((x.1, x.2.1, (ln : Int), ((x.2.2 : Nat) : Int)) : Tk4))).flatMap (fun x => (tkC x).toList)
 | [] => rfl
 | (k, t, c) :: l => by
  rw [flatT, flat_tk ln l, List.map_cons, List.flatMap_cons]
  rfl
theorem starts_told (l : List Int) : (starts (txt l)).length = l.length := by
 have h := (starts_wr (txt l) l [] (txt l).size (by rw [txt_data]; rfl) (by simp)).1
 exact h
theorem told_rows (r : List Pc) (h : okP r) (hne : tks 0 r ≠ []) : badL (linesOf (txt (pcR r))) = none ∧ kkL (linesOf (txt (pcR r))) = (wds r).length ∧ xxL 0 (linesOf (txt (pcR r))) = (wds r).flatMap (fun x => (tkC x).toList) := by
 have hl : (tks 0 r).length ≠ 0 := fun e => hne (List.eq_nil_of_length_eq_zero e)
 rw [lines_told r h]
 refine ⟨?_, ?_, ?_⟩
 · rw [badL, cut_told r h]; rfl
 · rw [kkL, kkL, lineN, cut_told r h]
   dsimp only
   rw [if_neg hl, wds, List.length_append, List.length_map]
   rfl
 · rw [xxL, xxL, lineT, cut_told r h]
   dsimp only
   rw [if_neg hl, wds, List.flatMap_append, List.append_nil, flat_tk (0 + 1) (tks 0 r), starts_told]
   rfl
end Go.Proofs.YtmahamdmapbilaaGreatDoor
namespace Go.Proofs.YtmahamdmapbilaaGreatDoor
open Go.RowKit Go.Shelf Go.Lib
theorem taker_any (ad : Option Addr) (cap : Nat) (l : List Tk4) (hl : l ≠ []) (w : World) (h : RdK w ad l) : Calls Tryz.prog 22 #[.slice ad l.length cap] w fun e w' => e = .returned (rdF (w.heap.size + 1) w.heap.size) ∧ Tk (w.heap.size + 1) w.heap.size l 0 w' ∧ Below w.heap.size w w' := by
 have hmf := hmfT
 unfold rdF
 have HA : Hid (∀ b off, ad = some ⟨b, off, none⟩ → b < w.heap.size) := fun b off e => by
  obtain ⟨b', off', e', h1, _⟩ := h hl
  rw [e] at e'
  cases e'
  exact h1
 have HR : Hid (RdK w ad l) := h
 clear h
 go_enter Tryz.func22, Tryz.ntmps22
 go_wp2
 go_ret
 have hb1 := al1t w (.cells #[.slice ad l.length cap] 44)
 have hb2 : Below w.heap.size w ((w.alloc (.cells #[.slice ad l.length cap] 44)).alloc (.cells #[.int .i64 0] 3)) := hb1.trans ((al1t _ _).mono (by simp))
 exact ⟨rfl, ⟨zna (by simp), ad, cap, zoa (zna rfl), HR.out.carry hb2, fun b off e => by have := HA.out b off e; omega⟩, hb2⟩
theorem assertR_nilT (w : World) : (Instr.typeAssert .nilIface 20 81 true).run Tryz.prog w = .ok (.tuple #[.agg #[.int .i64 0, .int .i64 0], .bool false]) w := by kernel_rfl
theorem catch_idleT (a b c : Nat) (w : World) :
  CallsD Tryz.prog 21 #[.pointer (some ⟨a, 0, none⟩), .pointer (some ⟨b, 0, none⟩), .pointer (some ⟨c, 0, none⟩)] .returning w fun e u' w' => e = .returned (.tuple #[]) ∧ u' = .returning ∧ Below w.heap.size w w' := by
 have hb := al1t w (.cells #[.int .i64 0, .int .i64 0] 81)
 refine callsD_of_wpS Tryz.func21 rfl fun c₀ cs hu => ?_
 apply wpS_seq
 apply wpS_region
 simp [wpOpsS, go_sem, recoverD, hu, Tryz.ntmps21, Exit.thenS, assertR_nilT]
 apply wpS_seq
 apply wpS_region
 simp [wpOpsS, go_sem, Exit.thenS]
 refine wpS_cond (t := false) (by simp [Act.eval, Array.replicate]) ?_
 simp only [Bool.false_eq_true, if_false]
 refine wpS_of_wp (wp_skip ?_)
 cases c₀
 simp_all [bodyPostS, results, Tryz.results21]
theorem res3T {tmps : Array Value} {W : World} {a b c : Nat} {x : Value} {y z : Int} (h4 : tmps[4]?.getD undef = .pointer (some ⟨a, 0, none⟩)) (h5 : tmps[5]?.getD undef = .pointer (some ⟨b, 0, none⟩)) (h6 : tmps[6]?.getD undef = .pointer (some ⟨c, 0, none⟩)) (hx : W.heap[a]? = some (.cells #[x] 30 (0, 0))) (hy : W.heap[b]? = some (.cells #[.int .i64 y] 26 (0, 0))) (hz : W.heap[c]? = some (.cells #[.int .i64 z] 3 (0, 0))) : (results Tryz.f7 tmps).run Tryz.prog W = .ok (.tuple #[x, .int .i64 y, .int .i64 z]) W := by
 have c1 := zca hx 0
 have c2 := zca hy 0
 have c3 := zca hz 0
 simp at c1 c2 c3
 simp [results, Tryz.results7, go_sem, h4, h5, h6, c1, c2, c3]
structure JD (w Z : World) (sl mp : Value) (l : List Tk4) (ns : List N3t) (T : TypeId) (X : Value → Value) (nb wb : Nat) (v : Value) (d2 d4 d5 : Bool) (W : World) : Prop where
 below : Below w.heap.size w W
 zb : d5 = false → Below Z.heap.size Z W
 size : Z.heap.size ≤ W.heap.size
 rb : W.heap[w.heap.size]? = some (.cells #[sl, mp] 25 (0, 0))
 ra : W.heap[w.heap.size + 1]? = some (.cells #[if d5 = true then .iface T (X v) else .nilIface] 30 (0, 0))
 re : W.heap[w.heap.size + 1 + 1]? = some (.cells #[.int .i64 0] 26 (0, 0))
 rc : W.heap[w.heap.size + 1 + 1 + 1]? = some (.cells #[.int .i64 0] 3 (0, 0))
 tk : d2 = true → Z.heap.size ≤ nb ∧ (d4 = false → Tk nb wb l 0 W)
 row : d4 = true → W.ownsRow Z.heap.size 124 3 v ns.length (fl ns)
theorem JD.carry {w Z : World} {sl mp : Value} {l : List Tk4} {ns : List N3t} {T : TypeId} {X : Value → Value} {nb wb : Nat} {v : Value} {d2 d4 d5 : Bool} {W V : World} (h : JD w Z sl mp l ns T X nb wb v d2 d4 d5 W) (hb : Below W.heap.size W V) : JD w Z sl mp l ns T X nb wb v d2 d4 d5 V :=
 ⟨bel3 h.below hb, fun e => bel3 (h.zb e) hb, Nat.le_trans h.size hb.size, (hb.block _ (zla h.rb)).trans h.rb, (hb.block _ (zla h.ra)).trans h.ra, (hb.block _ (zla h.re)).trans h.re, (hb.block _ (zla h.rc)).trans h.rc, fun e => ⟨(h.tk e).1, fun e2 => ((h.tk e).2 e2).carry hb⟩, fun e => zrb (h.row e) hb⟩
theorem load_ros3 {W : World} {B : Nat} {u v : Value} (h : W.heap[B]? = some (.cells #[u, v] 25 (0, 0))) : (Instr.loadAt 25 (.pointer (some ⟨B, 0, none⟩))).run Tryz.prog W = .ok (.agg #[u, v]) W := by
 have c0 : W.cell? ⟨B, 0, none⟩ = some u := (zca h 0).trans rfl
 have c1 : W.cell? ⟨B, 1, none⟩ = some v := (zca h 1).trans rfl
 go_simp
theorem step_bld2T {P : Program} {md : Region.Mode} {ops : Array Oper} {Q : Exit → Act → World → Prop} {X0 : Array Value} {val : Nat → Value} {J : World → Prop} {i : Nat} {o : Oper} (hi : ops[i]? = some o) (hg : GOk md ops X0 val i o) (t : TypeId) (k0 k1 : Nat) (x0 x1 : Operand) (v0 v1 : Value) (ho : o.op = .build t #[(k0, x0), (k1, x1)]) (h0 : rdo md ops X0 val i o x0 = some v0) (h1 : rdo md ops X0 val i o x1 = some v1) (hr : ∀ w, J w → (Instr.build t #[(k0, v0), (k1, v1)]).run P w = .ok (val i) w) : StepAt P md ops Q X0 val J J i o :=
 step_of hi hg fun a w hJ hS => by
  unfold Oper.wp execOp
  simp only [ho, hS.eval h0, hS.eval h1, List.map_toArray, List.map_cons, List.map_nil, Sem.run_bind, hr w hJ, Result.andThen_ok, Sem.run_pure, Oper.upon_value]
  exact ⟨trivial, hJ⟩
theorem bld_R (sl mp : Value) (nb wb : Nat) (w : World) : (Instr.build 86 #[(0, .agg #[sl, mp]), (1, rdF nb wb)]).run Tryz.prog w = .ok (.agg #[sl, mp, rdF nb wb]) w := by
 unfold rdF
 go_simp
theorem store_if {W : World} {B : Nat} {x : Value} (h : W.heap[B]? = some (.cells #[x] 30 (0, 0))) (T : TypeId) (y : Value) : (Instr.storeAt 30 (.pointer (some ⟨B, 0, none⟩)) (.iface T y)).run Tryz.prog W = .ok () (W.setCell ⟨B, 0, none⟩ (.iface T y)) := by
 have c0 : W.cell? ⟨B, 0, none⟩ = some x := (zca h 0).trans rfl
 have z0 := zta h 0
 go_simp
theorem store_en {W : World} {B : Nat} {x : Value} (h : W.heap[B]? = some (.cells #[x] 26 (0, 0))) (y : Int) : (Instr.storeAt 26 (.pointer (some ⟨B, 0, none⟩)) (.int .i64 y)).run Tryz.prog W = .ok () (W.setCell ⟨B, 0, none⟩ (.int .i64 y)) := by
 have c0 : W.cell? ⟨B, 0, none⟩ = some x := (zca h 0).trans rfl
 have z0 := zta h 0
 go_simp
theorem store_in {W : World} {B : Nat} {x : Value} (h : W.heap[B]? = some (.cells #[x] 3 (0, 0))) (y : Int) : (Instr.storeAt 3 (.pointer (some ⟨B, 0, none⟩)) (.int .i64 y)).run Tryz.prog W = .ok () (W.setCell ⟨B, 0, none⟩ (.int .i64 y)) := by
 have c0 : W.cell? ⟨B, 0, none⟩ = some x := (zca h 0).trans rfl
 have z0 := zta h 0
 go_simp
theorem JD.st5 {w Z : World} {sl mp : Value} {l : List Tk4} {ns : List N3t} {T : TypeId} {X : Value → Value} {nb wb : Nat} {v : Value} {d5 : Bool} {W : World} (hZ : w.heap.size + 4 ≤ Z.heap.size) (h : JD w Z sl mp l ns T X nb wb v true true d5 W) : JD w Z sl mp l ns T X nb wb v true true true (W.setCell ⟨w.heap.size + 1, 0, none⟩ (.iface T (X v))) :=
 ⟨h.below.setCell (p := ⟨w.heap.size + 1, 0, none⟩) (by simp) _, (fun e => by cases e), by simp only [World.setCell, Array.size_modify]; exact h.size, (Below.heap_setCell _ _ _ _ (by simp)).trans h.rb, (heap_setCell_same _ _ 0 _ _ _ h.ra).trans (by simp), (Below.heap_setCell _ _ _ _ (by simp)).trans h.re, (Below.heap_setCell _ _ _ _ (by show w.heap.size + 1 + 1 + 1 ≠ w.heap.size + 1; omega)).trans h.rc, fun _ => ⟨(h.tk rfl).1, fun e => by cases e⟩, fun e => ownsRow_setCell_below (h.row e) (by show w.heap.size + 1 < Z.heap.size; omega) _⟩
theorem JD.st6 {w Z : World} {sl mp : Value} {l : List Tk4} {ns : List N3t} {T : TypeId} {X : Value → Value} {nb wb : Nat} {v : Value} {W : World} (hZ : w.heap.size + 4 ≤ Z.heap.size) (h : JD w Z sl mp l ns T X nb wb v true true true W) : JD w Z sl mp l ns T X nb wb v true true true (W.setCell ⟨w.heap.size + 1 + 1, 0, none⟩ (.int .i64 0)) :=
 ⟨h.below.setCell (p := ⟨w.heap.size + 1 + 1, 0, none⟩) (by show w.heap.size ≤ w.heap.size + 1 + 1; omega) _, (fun e => by cases e), by simp only [World.setCell, Array.size_modify]; exact h.size, (Below.heap_setCell _ _ _ _ (by show w.heap.size ≠ w.heap.size + 1 + 1; omega)).trans h.rb, (Below.heap_setCell _ _ _ _ (by show w.heap.size + 1 ≠ w.heap.size + 1 + 1; omega)).trans h.ra, (heap_setCell_same _ _ 0 _ _ _ h.re).trans (by simp), (Below.heap_setCell _ _ _ _ (by simp)).trans h.rc, fun _ => ⟨(h.tk rfl).1, fun e => by cases e⟩, fun e => ownsRow_setCell_below (h.row e) (by show w.heap.size + 1 + 1 < Z.heap.size; omega) _⟩
theorem JD.st7 {w Z : World} {sl mp : Value} {l : List Tk4} {ns : List N3t} {T : TypeId} {X : Value → Value} {nb wb : Nat} {v : Value} {W : World} (hZ : w.heap.size + 4 ≤ Z.heap.size) (h : JD w Z sl mp l ns T X nb wb v true true true W) : JD w Z sl mp l ns T X nb wb v true true true (W.setCell ⟨w.heap.size + 1 + 1 + 1, 0, none⟩ (.int .i64 0)) :=
 ⟨h.below.setCell (p := ⟨w.heap.size + 1 + 1 + 1, 0, none⟩) (by show w.heap.size ≤ w.heap.size + 1 + 1 + 1; omega) _, (fun e => by cases e), by simp only [World.setCell, Array.size_modify]; exact h.size, (Below.heap_setCell _ _ _ _ (by show w.heap.size ≠ w.heap.size + 1 + 1 + 1; omega)).trans h.rb, (Below.heap_setCell _ _ _ _ (by show w.heap.size + 1 ≠ w.heap.size + 1 + 1 + 1; omega)).trans h.ra, (Below.heap_setCell _ _ _ _ (by simp)).trans h.re, (heap_setCell_same _ _ 0 _ _ _ h.rc).trans (by simp), fun _ => ⟨(h.tk rfl).1, fun e => by cases e⟩, fun e => ownsRow_setCell_below (h.row e) (by show w.heap.size + 1 + 1 + 1 < Z.heap.size; omega) _⟩
def RdT (T : TypeId) (X : Value → Value) (ns : List N3t) (w : World) (e : Ending) (w' : World) : Prop := ∃ v, e = .returned (.tuple #[.iface T (X v), .int .i64 0, .int .i64 0]) ∧ w'.ownsRow w.heap.size 124 3 v ns.length (fl ns) ∧ Below w.heap.size w w'
theorem read_of {M : Nat} {sl mp : Value} {L : List Int} {w : World} (hR : Ros M w (.agg #[sl, mp]) L) (hM : M ≤ w.heap.size) (hU : Ut w) (hL : L.length ≠ 0) (s : ByteArray) (l : List Tk4) (hne : l ≠ []) (hS : ∀ V, Calls Tryz.prog 11 #[.string s] V fun e w' => ∃ ad cap, e = .returned (.tuple #[.slice ad l.length cap, .int .i64 0, .int .i64 0, .int .i64 0]) ∧ RdK w' ad l ∧ Below V.heap.size V w') (T : TypeId) (X : Value → Value) (ns : List N3t) (hN : ∀ nb wb V, En M L sl mp nb V → Tk nb wb l 0 V → Calls Tryz.prog 23 #[.agg #[sl, mp, rdF nb wb]] V (NtO nb wb l l.length ns V (fun v => .iface T (X v)))) : Calls Tryz.prog 7 #[.agg #[sl, mp], .string s] w (RdT T X ns w) := by
 have hmx := mixO
 have hmf := hmfT
 have HSZ : Hid (∀ V, Below w.heap.size w V → Calls Tryz.prog 20 #[.agg #[sl, mp]] V fun e w' => e = .returned (.int .i64 (L.length : Int)) ∧ Below V.heap.size V w') := fun V hV => size_any V (hR.below (hV.mono hM))
 obtain ⟨n, hn⟩ : ∃ n, L.length = n := ⟨_, rfl⟩
 rw [hn] at HSZ hL
 have hn0 : ((n : Int) == 0) = false := by simp; omega
 obtain ⟨W1, hW1⟩ : ∃ W1, w.alloc (.cells #[sl, mp] 25) = W1 := ⟨_, rfl⟩
 have hb1 : Below w.heap.size w W1 := by rw [← hW1]; exact al1t _ _
 have z1 : W1.heap.size = w.heap.size + 1 := by rw [← hW1]; simp
 have r1 : W1.heap[w.heap.size]? = some (.cells #[sl, mp] 25 (0, 0)) := by rw [← hW1]; exact zna rfl
 obtain ⟨W2, hW2⟩ : ∃ W2, W1.alloc (.cells #[.nilIface] 30) = W2 := ⟨_, rfl⟩
 have hb2 : Below W1.heap.size W1 W2 := by rw [← hW2]; exact al1t _ _
 have z2 : W2.heap.size = w.heap.size + 1 + 1 := by rw [← hW2]; simp; omega
 have r2 : W2.heap[w.heap.size + 1]? = some (.cells #[.nilIface] 30 (0, 0)) := by rw [← hW2]; exact zna z1.symm
 obtain ⟨W3, hW3⟩ : ∃ W3, W2.alloc (.cells #[.int .i64 0] 26) = W3 := ⟨_, rfl⟩
 have hb3 : Below W2.heap.size W2 W3 := by rw [← hW3]; exact al1t _ _
 have z3 : W3.heap.size = w.heap.size + 1 + 1 + 1 := by rw [← hW3]; simp; omega
 have r3 : W3.heap[w.heap.size + 1 + 1]? = some (.cells #[.int .i64 0] 26 (0, 0)) := by rw [← hW3]; exact zna z2.symm
 obtain ⟨W4, hW4⟩ : ∃ W4, W3.alloc (.cells #[.int .i64 0] 3) = W4 := ⟨_, rfl⟩
 have hb4 : Below W3.heap.size W3 W4 := by rw [← hW4]; exact al1t _ _
 have z4 : W4.heap.size = w.heap.size + 1 + 1 + 1 + 1 := by rw [← hW4]; simp; omega
 have r4 : W4.heap[w.heap.size + 1 + 1 + 1]? = some (.cells #[.int .i64 0] 3 (0, 0)) := by rw [← hW4]; exact zna z3.symm
 have hb04 := bel3 (bel3 (bel3 hb1 hb2) hb3) hb4
 have g1 : W4.heap[w.heap.size]? = some (.cells #[sl, mp] 25 (0, 0)) := (hb4.block _ (by omega)).trans ((hb3.block _ (by omega)).trans ((hb2.block _ (by omega)).trans r1))
 have g2 := (hb4.block _ (by omega)).trans ((hb3.block _ (by omega)).trans r2)
 have g3 := (hb4.block _ (by omega)).trans r3
 have c0 : W4.cell? ⟨w.heap.size, 0, none⟩ = some sl := (zca g1 0).trans rfl
 have c1 : W4.cell? ⟨w.heap.size, 1, none⟩ = some mp := (zca g1 1).trans rfl
 have HR : Hid (Ros M w (.agg #[sl, mp]) L) := hR
 have HS : Hid (∀ V, Calls Tryz.prog 11 #[.string s] V fun e w' => ∃ ad cap, e = .returned (.tuple #[.slice ad l.length cap, .int .i64 0, .int .i64 0, .int .i64 0]) ∧ RdK w' ad l ∧ Below V.heap.size V w') := hS
 have HN : Hid (∀ nb wb V, En M L sl mp nb V → Tk nb wb l 0 V → Calls Tryz.prog 23 #[.agg #[sl, mp, rdF nb wb]] V (NtO nb wb l l.length ns V (fun v => .iface T (X v)))) := hN
 have hz4 := hb04.size
 obtain ⟨m, hm⟩ : ∃ m, l.length = m := ⟨_, rfl⟩
 have hm' : Hid (l.length = m) := hm
 rw [hm] at HS
 have HU : Hid (Ut w) := hU
 have HNE : Hid (l ≠ []) := hne
 have HHM : Hid (M ≤ w.heap.size) := hM
 clear hR hN hS hn hb1 hb2 hb3 hb4 r1 r2 r3 hU hne hL hm hM
 have q1 : W1.heap.size = w.heap.size + 1 := z1
 go_enter_defers Tryz.func7, Tryz.ntmps7
 go_wp2_with (first
  | (go_at_call 11; (with_reducible refine (HS.out _).mono ?_); rintro e u2 ⟨ad, cap, rfl, hrd, hu2⟩)
  | (go_at_call 20; (with_reducible refine (HSZ.out _ hb04).mono ?_); rintro e u1 ⟨rfl, hu1⟩))
 have hu12 := bel3 hu1 hu2
 have hb2 := bel3 hb04 hu12
 have hz2 := hu12.size
 have hz5 : w.heap.size + 4 ≤ u2.heap.size := by omega
 have hJ : Hid (JD w u2 sl mp l ns T X 0 0 undef false false false u2) := ⟨hb2, fun _ => Below.refl _ _, Nat.le_refl _, (hu12.block _ (by omega)).trans g1, (hu12.block _ (by omega)).trans g2, (hu12.block _ (by omega)).trans g3, (hu12.block _ (by omega)).trans r4, (fun e => by cases e), (fun e => by cases e)⟩
 have HEN : Hid (∀ nb V, Below w.heap.size w V → w.heap.size ≤ nb → En M L sl mp nb V) := fun nb V hV hn => ⟨fun U hO => HR.out.below ((hO.below hV hn hV.size).mono HHM.out), fun U hO => HU.out.carry (hO.below hV hn hV.size), Nat.le_trans HHM.out hn, Nat.le_trans HHM.out hV.size⟩
 have HRD : Hid (RdK u2 ad l) := hrd
 clear g1 g2 g3 r4 c0 c1 hrd HSZ HS
 refine wp_region_any hmx ?_
 refine zwt (G := ((Nat × Nat) × Value)) (fun g i__ => ([(.agg #[sl, mp]), (.slice ad m cap), (rdF g.1.1 g.1.2), (.agg #[sl, mp, rdF g.1.1 g.1.2]), (.iface T (X g.2)), undef, undef, undef] : List Value).getD i__ undef) (fun g d V => JD w u2 sl mp l ns T X g.1.1 g.1.2 g.2 (d 2) (d 4) (d 5) V) (by kernel_rfl) (((0, 0), undef)) (hJ.out.carry (Below.refl _ _).drew) ?step8 ?fin8
 case step8 =>
  intro i o ho
  have hi : i < 8 := getElem?_lt ho
  match i, hi, ho with
  | 0, _, ho => cases ho; exact zgo fun g d hdep => zld rfl trivial _ _ _ rfl rfl (fun v hw => load_ros3 hw.rb)
  | 1, _, ho => cases ho; exact zgo fun g d hdep => zmv rfl trivial _ rfl (by kernel_rfl)
  | 2, _, ho => cases ho; exact stepG_call rfl (fun _ => trivial) 22 _ _ (fun _ => [.slice ad m cap]) rfl (fun g => by kernel_rfl) (enters_of Tryz.func22 (by kernel_rfl) rfl) (fun g d V hJ hun hdep hcl => by have h5 : d 5 = false := (by cases h : d 5 with | false => rfl | true => exact absurd (hcl 5 _ rfl h 2 (by kernel_rfl)) (by rw [hun]; simp)); have h4 : d 4 = false := (by cases h : d 4 with | false => rfl | true => exact absurd (hcl 4 _ rfl h 2 (by kernel_rfl)) (by rw [hun]; simp)); rw [← hm'.out]; exact (taker_any ad cap l HNE.out V (HRD.out.carry (hJ.zb h5))).mono (by rintro e w' ⟨rfl, h1, h2⟩; refine ⟨((V.heap.size + 1, V.heap.size), g.2), rfl, (fun j hj => match j, hj with | 2, hj => (by rw [hj] at hun; cases hun) | 3, hj => absurd ((hcl 3 _ rfl hj 2 (by kernel_rfl))) (by rw [hun]; simp) | 0, _ => rfl | 1, _ => rfl | 4, _ => rfl | 5, _ => rfl | 6, _ => rfl | 7, _ => rfl | _ + 8, _ => rfl), ?_⟩; have h := hJ.carry h2; rw [hun, h4, h5] at h; show JD w u2 sl mp l ns T X (V.heap.size + 1) V.heap.size g.2 true (d 4) (d 5) w'; rw [h4, h5]; exact ⟨h.below, h.zb, h.size, h.rb, h.ra, h.re, h.rc, fun _ => ⟨Nat.le_succ_of_le hJ.size, fun _ => h1⟩, fun e => by cases e⟩))
  | 3, _, ho => cases ho; exact zgo (fun g d hdep => step_bld2T rfl trivial _ _ _ _ _ (.agg #[sl, mp]) (rdF g.1.1 g.1.2) rfl (by kernel_rfl) (by kernel_rfl) (fun v hw => bld_R sl mp _ _ v))
  | 4, _, ho => cases ho; exact stepG_call rfl (fun _ => trivial) 23 _ _ (fun g => [.agg #[sl, mp, rdF g.1.1 g.1.2]]) rfl (fun g => by kernel_rfl) (enters_of Tryz.func23 (by kernel_rfl) rfl) (fun g d V hJ hun hdep hcl => by have h5 : d 5 = false := (by cases h : d 5 with | false => rfl | true => exact absurd (hcl 5 _ rfl h 4 (by kernel_rfl)) (by rw [hun]; simp)); have h2 := hdep 2 (by kernel_rfl); rw [h2, hun, h5] at hJ; have hk := hJ.tk rfl; have hzu := hb2.size; exact (HN.out g.1.1 g.1.2 V (HEN.out g.1.1 V hJ.below (by omega)) (hk.2 rfl)).mono (by rintro e w' ⟨v, rfl, h1, h3, h4⟩; refine ⟨(g.1, v), rfl, (fun j hj => match j, hj with | 4, hj => (by rw [hj] at hun; cases hun)  | 0, _ => rfl | 1, _ => rfl | 2, _ => rfl | 3, _ => rfl | 5, _ => rfl | 6, _ => rfl | 7, _ => rfl | _ + 8, _ => rfl), ?_⟩; show JD w u2 sl mp l ns T X g.1.1 g.1.2 v (d 2) true (d 5) w'; rw [h2, h5]; exact ⟨h4.below hJ.below (by omega) hJ.below.size, fun _ => h4.below (hJ.zb rfl) hk.1 hJ.size, Nat.le_trans hJ.size h4.size, (h4.block _ (zla hJ.rb) (by omega)).trans hJ.rb, (h4.block _ (zla hJ.ra) (by omega)).trans hJ.ra, (h4.block _ (zla hJ.re) (by omega)).trans hJ.re, (h4.block _ (zla hJ.rc) (by omega)).trans hJ.rc, fun _ => ⟨hk.1, fun e => by cases e⟩, fun _ => ownsRow_base h1 hJ.size⟩))
  | 5, _, ho => cases ho; exact zgo fun g d hdep => step_store rfl trivial rfl _ _ _ _ _ rfl rfl rfl (fun V hw => by have h2 := hdep 2 (by kernel_rfl); have h4 := hdep 4 (by kernel_rfl); rw [h2, h4] at hw; refine ⟨_, store_if hw.ra T (X g.2), ?_⟩; show JD w u2 sl mp l ns T X g.1.1 g.1.2 g.2 (d 2) (d 4) true _; rw [h2, h4]; exact hw.st5 hz5)
  | 6, _, ho => cases ho; exact zgo fun g d hdep => step_store rfl trivial rfl _ _ _ _ _ rfl rfl rfl (fun V hw => by have h2 := hdep 2 (by kernel_rfl); have h4 := hdep 4 (by kernel_rfl); have h5 := hdep 5 (by kernel_rfl); rw [h2, h4, h5] at hw; refine ⟨_, store_en hw.re 0, ?_⟩; show JD w u2 sl mp l ns T X g.1.1 g.1.2 g.2 (d 2) (d 4) (d 5) _; rw [h2, h4, h5]; exact hw.st6 hz5)
  | 7, _, ho => cases ho; exact zgo fun g d hdep => step_store rfl trivial rfl _ _ _ _ _ rfl rfl rfl (fun V hw => by have h2 := hdep 2 (by kernel_rfl); have h4 := hdep 4 (by kernel_rfl); have h5 := hdep 5 (by kernel_rfl); rw [h2, h4, h5] at hw; refine ⟨_, store_in hw.rc 0, ?_⟩; show JD w u2 sl mp l ns T X g.1.1 g.1.2 g.2 (d 2) (d 4) (d 5) _; rw [h2, h4, h5]; exact hw.st7 hz5)
 intro g d W hall hW
 first | refine hK _ _ ?_ | refine (‹∀ (a : Act) (w : World), Code.wp Tryz.prog _ _ a w → _›) _ _ ?_ | skip
 simp only [finL, List.getD_cons_zero, List.getD_cons_succ, Nat.zero_add, Nat.reduceAdd, List.setIfInBounds_toArray, List.set_cons_zero, List.set_cons_succ]
 have hjW : JD w u2 sl mp l ns T X g.1.1 g.1.2 g.2 true true true W := by have := hW; rw [hall 2 (by decide), hall 4 (by decide), hall 5 (by decide)] at this; exact this
 go_wp2
 refine leaves_cons (f := 21) (args := #[.pointer (some ⟨w.heap.size + 1, 0, none⟩), .pointer (some ⟨w.heap.size + 1 + 1, 0, none⟩), .pointer (some ⟨w.heap.size + 1 + 1 + 1, 0, none⟩)]) (by simp) (by simp [go_sem]) ?_
 refine (catch_idleT (w.heap.size + 1) (w.heap.size + 1 + 1) (w.heap.size + 1 + 1 + 1) _).mono ?_
 rintro e u' w'' ⟨rfl, rfl, hbw⟩
 have hj := hjW.carry hbw
 have hA := hj.ra
 rw [if_pos rfl] at hA
 exact ⟨_, res3T rfl rfl rfl hA hj.re hj.rc, g.2, rfl, ownsRow_base (hj.row rfl) hb2.size, hj.below⟩
def hereT (l : List Tk4) (i : Nat) : Tk4 := (l[i]?).getD (0, ⟨#[]⟩, 0, 1)
abbrev ErT := Int × Int
def oneS (x : Tk4) : Bool := x.1 == 2 && ((starts x.2.1).length : Int) == 1
def endB (x : Tk4) : Bool := x.1 == 5 && x.2.1.toList == [93]
def begB (x : Tk4) : Bool := x.1 == 5 && x.2.1.toList == [91]
def setKT (x : Tk4) : Bool := x.1 == 2 || (x.1 == 5 && x.2.1.toList == [45])
def mrkB (x : Tk4) : Bool := (x.1 == 5 && x.2.1.toList == [63]) || (x.1 == 5 && x.2.1.toList == [33])
def sgI (L : List Int) (x : Tk4) : Except ErT Int := if ((rn x.2.1 0 : Nat) : Int) ∈ L then .ok ((L.idxOf ((rn x.2.1 0 : Nat) : Int) : Nat) : Int) else .error (41, x.2.2.2)
def sgR (L : List Int) (l : List Tk4) (i : Nat) : Except ErT Int := if oneS (hereT l i) = true then sgI L (hereT l i) else .error (80, (hereT l i).2.2.2)
def rnI (x : Tk4) : Except ErT Nat := if (numR x.2.1).getD 0 < 1 ∨ 1099511627775 < (numR x.2.1).getD 0 then .error (73, x.2.2.2) else .ok ((numR x.2.1).getD 0)
def rnR (l : List Tk4) (i : Nat) : Except ErT Nat := if (hereT l i).1 = 3 then rnI (hereT l i) else .error (80, (hereT l i).2.2.2)
def hdI (L : List Int) (x : Tk4) : Except ErT Nat := if (parseR L x.2.1).2.2 = 0 then .ok (parseR L x.2.1).1 else .error ((parseR L x.2.1).2.2, x.2.2.2)
def hdR (L : List Int) (l : List Tk4) (i : Nat) : Except ErT Nat := if setKT (hereT l i) = true then hdI L (hereT l i) else .error (80, (hereT l i).2.2.2)
def ntS (x y z : Tk4) : ByteArray := x.2.1 ++ y.2.1 ++ z.2.1
def nteT (L : List Int) (l : List Tk4) (i : Nat) : Except ErT N3t :=
 if mrkB (hereT l (i + 1)) = true then
  if (hereT l (i + 2)).1 = 3 then
   if (rdP L (ntS (hereT l i) (hereT l (i + 1)) (hereT l (i + 2)))).2.2.2 = 0 then .ok ((rdP L (ntS (hereT l i) (hereT l (i + 1)) (hereT l (i + 2)))).1, (rdP L (ntS (hereT l i) (hereT l (i + 1)) (hereT l (i + 2)))).2.1, (rdP L (ntS (hereT l i) (hereT l (i + 1)) (hereT l (i + 2)))).2.2.1)
   else .error (75, (hereT l (i + 2)).2.2.2)
  else .error (80, (hereT l (i + 2)).2.2.2)
 else .error (80, (hereT l (i + 1)).2.2.2)
def stT (L : List Int) (l : List Tk4) (i : Nat) (A : Int) : Except ErT (Option N3t) :=
 if endB (hereT l i) = true then .ok none
 else if oneS (hereT l i) = true then
  match sgI L (hereT l i) with
  | .error q => .error q
  | .ok o => if o ≤ A then .error (75, (hereT l i).2.2.2) else match nteT L l i with | .error q => .error q | .ok n => .ok (some n)
 else .error (80, (hereT l i).2.2.2)
def nwR (L : List Int) (l : List Tk4) : Nat → Nat → Int → Except ErT (List N3t × Nat)
 | 0, _, _ => .error (80, 1)
 | f + 1, i, A => match stT L l i A with
  | .error q => .error q
  | .ok none => .ok ([], i + 1)
  | .ok (some n) => match nwR L l f (i + 3) n.1 with
   | .error q => .error q
   | .ok (ns, j) => .ok (n :: ns, j)
def nwsR (L : List Int) (l : List Tk4) (i : Nat) : Except ErT (List N3t × Nat) := if begB (hereT l i) = true then nwR L l (l.length + 1) (i + 1) (-1) else .error (80, (hereT l i).2.2.2)
abbrev Nt5 := Nat × Int × Nat × Nat × List N3t
def qR (L : List Int) (l : List Tk4) : Except ErT (Nt5 × Nat) := match sgR L l 1 with
 | .error q => .error q
 | .ok fr => match rnR l 2 with
  | .error q => .error q
  | .ok rd => match nwsR L l 3 with
   | .error q => .error q
   | .ok (ns, j) => .ok ((1, fr, rd, 0, ns), j)
def pR (L : List Int) (l : List Tk4) : Except ErT (Nt5 × Nat) := match sgR L l 1 with
 | .error q => .error q
 | .ok fr => match rnR l 2 with
  | .error q => .error q
  | .ok rd => match hdR L l 3 with
   | .error q => .error q
   | .ok N => match nwsR L l 4 with
    | .error q => .error q
    | .ok (ns, j) => .ok ((2, fr, rd, N, ns), j)
def uR (L : List Int) (l : List Tk4) : Except ErT (Nt5 × Nat) := match sgR L l 1 with
 | .error q => .error q
 | .ok fr => match nwsR L l 2 with
  | .error q => .error q
  | .ok (ns, j) => .ok ((3, fr, 0, 0, ns), j)
def kdW (t : ByteArray) : Nat := if t = ⟨#[113, 117, 101, 114, 121]⟩ then 1 else if t = ⟨#[114, 101, 112, 108, 121]⟩ then 2 else if t = ⟨#[114, 117, 109, 111, 114]⟩ then 3 else 0
def bodR (L : List Int) (l : List Tk4) : Except ErT (Nt5 × Nat) := if kdW (hereT l 0).2.1 = 0 then .error (80, (hereT l 0).2.2.2) else if kdW (hereT l 0).2.1 = 1 then qR L l else if kdW (hereT l 0).2.1 = 2 then pR L l else uR L l
def rdWT (L : List Int) (l : List Tk4) : Except ErT Nt5 := match bodR L l with
 | .error q => .error q
 | .ok (n, j) => if (hereT l j).1 = 1 then (if (hereT l (j + 1)).1 = 0 then .ok n else .error (80, (hereT l (j + 1)).2.2.2)) else .error (80, (hereT l j).2.2.2)
theorem here_in {l : List Tk4} {i : Nat} {x : Tk4} (h : hereT l i = x) (hx : x.1 ≠ 0) : l[i]? = some x := by
 unfold hereT at h
 cases e : l[i]? with
 | none => rw [e] at h; subst h; exact absurd rfl hx
 | some y => rw [e] at h; subst h; rfl
theorem here_lt {l : List Tk4} {i : Nat} (hx : (hereT l i).1 ≠ 0) : i < l.length := (List.getElem?_eq_some_iff.1 (here_in rfl hx)).1
theorem oneS_k {x : Tk4} (h : oneS x = true) : x.1 = 2 ∧ ((starts x.2.1).length : Int) = 1 := by
 unfold oneS at h
 simpa using h
theorem endB_k {x : Tk4} (h : endB x = true) : x.1 = 5 ∧ x.2.1.toList = [93] := by
 unfold endB at h
 simpa using h
theorem begB_k {x : Tk4} (h : begB x = true) : x.1 = 5 ∧ x.2.1.toList = [91] := by
 unfold begB at h
 simpa using h
theorem setKT_k {x : Tk4} (h : setKT x = true) : x.1 ≠ 0 := by
 unfold setKT at h
 simp at h
 omega
theorem mrkB_k {x : Tk4} (h : mrkB x = true) : x.1 = 5 := by
 unfold mrkB at h
 simp at h
 omega
def Shw (l : List Tk4) : Prop := ∀ i, (hereT l i).2.1.size ≤ 100000
theorem sgT_ok {L : List Int} {l : List Tk4} (hS : Shw l) {i : Nat} {fr : Int} (h : sgR L l i = .ok fr) : SgA L l i fr := by
 unfold sgR at h
 by_cases h1 : oneS (hereT l i) = true
 · rw [if_pos h1] at h
   unfold sgI at h
   obtain ⟨h2, h3⟩ := oneS_k h1
   by_cases h4 : ((rn (hereT l i).2.1 0 : Nat) : Int) ∈ L
   · rw [if_pos h4] at h
     cases h
     exact ⟨_, here_in rfl (by omega), h2, h3, hS i, h4, rfl⟩
   · rw [if_neg h4] at h
     cases h
 · rw [if_neg h1] at h
   cases h
theorem rndT_ok {l : List Tk4} (hS : Shw l) {i : Nat} {rd : Nat} (h : rnR l i = .ok rd) : RnA l i rd := by
 unfold rnR at h
 by_cases h1 : (hereT l i).1 = 3
 · rw [if_pos h1] at h
   unfold rnI at h
   split at h
   · cases h
   · rename_i h2
     cases h
     refine ⟨_, here_in rfl (by omega), h1, hS i, ?_, by omega, by omega⟩
     cases e : numR (hereT l i).2.1 with
     | none => rw [e] at h2; simp at h2
     | some v => rfl
 · rw [if_neg h1] at h
   cases h
theorem hdT_ok {L : List Int} {l : List Tk4} (hS : Shw l) (hP : ∀ s, (parseR L s).2.2 = 0 → (parseR L s).2.1 = 0) {i : Nat} {N : Nat} (h : hdR L l i = .ok N) : HdA L l i N := by
 unfold hdR at h
 by_cases h1 : setKT (hereT l i) = true
 · rw [if_pos h1] at h
   unfold hdI at h
   split at h
   · rename_i h2
     cases h
     refine ⟨_, here_in rfl (setKT_k h1), h1, hS i, ?_⟩
     have h3 := hP _ h2
     rw [Prod.ext_iff, Prod.ext_iff]
     exact ⟨rfl, h3, h2⟩
   · cases h
 · rw [if_neg h1] at h
   cases h
end Go.Proofs.YtmahamdmapbilaaGreatDoor
