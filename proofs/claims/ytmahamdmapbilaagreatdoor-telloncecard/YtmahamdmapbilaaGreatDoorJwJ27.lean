import Derived.Test.YtmahamdmapbilaaGreatDoorJwJ26
import Derived.Test.YtmahamdmapbilaaGreatDoorJwJ1
import Derived.Deep.QuietTactic
import Derived.BigQuiet
import Derived.Test.YtmahamdmapbilaaGreatDoorJwJ13
import Derived.Test.YtmahamdmapbilaaGreatDoorJwJ2
set_option maxHeartbeats 40000000
set_option maxRecDepth 100000
set_option linter.unusedVariables false
namespace Go.Proofs.YtmahamdmapbilaaGreatDoor
open Go.RowKit Go.Shelf Go.Lib
theorem assertR_yesT (v : Value) (w : World) : (Instr.typeAssert (.iface 81 v) 20 81 true).run Tryz.prog w = .ok (.tuple #[v, .bool true]) w := by kernel_rfl
structure JC (B a b c k : Nat) (er col : Int) (w W : World) (d5 d6 : Bool) : Prop where
 why : W.heap[k]? = some (.cells #[.int .i64 er, .int .i64 col] 81 (0, 0))
 ra : W.heap[a]? = some (.cells #[.nilIface] 30 (0, 0))
 re : W.heap[b]? = some (.cells #[.int .i64 (if d5 = true then er else 0)] 26 (0, 0))
 rc : W.heap[c]? = some (.cells #[.int .i64 (if d6 = true then col else 0)] 3 (0, 0))
 below : Below B w W
theorem JC.carry {B a b c k : Nat} {er col : Int} {w W V : World} {d5 d6 : Bool} (h : JC B a b c k er col w W d5 d6) (hB : B ≤ w.heap.size) (hb : Below W.heap.size W V) : JC B a b c k er col w V d5 d6 := ⟨(hb.block _ (zla h.why)).trans h.why, (hb.block _ (zla h.ra)).trans h.ra, (hb.block _ (zla h.re)).trans h.re, (hb.block _ (zla h.rc)).trans h.rc, h.below.trans (hb.mono (Nat.le_trans hB h.below.size))⟩
theorem fld_r0 (W : World) (b : Nat) : (Instr.fieldAt 81 (.pointer (some ⟨b, 0, none⟩)) 0).run Tryz.prog W = .ok (.pointer (some ⟨b, 0, none⟩)) W := by go_simp
theorem fld_r1 (W : World) (b : Nat) : (Instr.fieldAt 81 (.pointer (some ⟨b, 0, none⟩)) 1).run Tryz.prog W = .ok (.pointer (some ⟨b, 1, none⟩)) W := by go_simp
theorem ld_r0 {W : World} {b : Nat} {x y : Int} (h : W.heap[b]? = some (.cells #[.int .i64 x, .int .i64 y] 81 (0, 0))) : (Instr.loadAt 26 (.pointer (some ⟨b, 0, none⟩))).run Tryz.prog W = .ok (.int .i64 x) W := by
 have c0 : W.cell? ⟨b, 0, none⟩ = some (.int .i64 x) := (zca h 0).trans rfl
 go_simp
theorem ld_r1 {W : World} {b : Nat} {x y : Int} (h : W.heap[b]? = some (.cells #[.int .i64 x, .int .i64 y] 81 (0, 0))) : (Instr.loadAt 3 (.pointer (some ⟨b, 1, none⟩))).run Tryz.prog W = .ok (.int .i64 y) W := by
 have c0 : W.cell? ⟨b, 1, none⟩ = some (.int .i64 y) := (zca h 1).trans rfl
 go_simp
theorem store_nil {W : World} {B : Nat} {x : Value} (h : W.heap[B]? = some (.cells #[x] 30 (0, 0))) : (Instr.storeAt 30 (.pointer (some ⟨B, 0, none⟩)) .nilIface).run Tryz.prog W = .ok () (W.setCell ⟨B, 0, none⟩ .nilIface) := by
 have c0 : W.cell? ⟨B, 0, none⟩ = some x := (zca h 0).trans rfl
 have z0 := zta h 0
 go_simp
theorem JC.s4 {B a b c k : Nat} {er col : Int} {w W : World} {d5 d6 : Bool} (h : JC B a b c k er col w W d5 d6) (h1 : B ≤ a) (n1 : a ≠ b) (n2 : a ≠ c) (n3 : k ≠ a) : JC B a b c k er col w (W.setCell ⟨a, 0, none⟩ .nilIface) d5 d6 :=
 ⟨(Below.heap_setCell _ _ _ _ n3).trans h.why, (heap_setCell_same _ _ 0 _ _ _ h.ra).trans (by simp), (Below.heap_setCell _ _ _ _ (Ne.symm n1)).trans h.re, (Below.heap_setCell _ _ _ _ (Ne.symm n2)).trans h.rc, h.below.setCell (p := ⟨a, 0, none⟩) h1 _⟩
theorem JC.s5 {B a b c k : Nat} {er col : Int} {w W : World} {d5 d6 : Bool} (h : JC B a b c k er col w W d5 d6) (h1 : B ≤ b) (n1 : a ≠ b) (n2 : b ≠ c) (n3 : k ≠ b) : JC B a b c k er col w (W.setCell ⟨b, 0, none⟩ (.int .i64 er)) true d6 :=
 ⟨(Below.heap_setCell _ _ _ _ n3).trans h.why, (Below.heap_setCell _ _ _ _ n1).trans h.ra, (heap_setCell_same _ _ 0 _ _ _ h.re).trans (by simp), (Below.heap_setCell _ _ _ _ (Ne.symm n2)).trans h.rc, h.below.setCell (p := ⟨b, 0, none⟩) h1 _⟩
theorem JC.s6 {B a b c k : Nat} {er col : Int} {w W : World} {d5 d6 : Bool} (h : JC B a b c k er col w W d5 d6) (h1 : B ≤ c) (n1 : a ≠ c) (n2 : b ≠ c) (n3 : k ≠ c) : JC B a b c k er col w (W.setCell ⟨c, 0, none⟩ (.int .i64 col)) d5 true :=
 ⟨(Below.heap_setCell _ _ _ _ n3).trans h.why, (Below.heap_setCell _ _ _ _ n1).trans h.ra, (Below.heap_setCell _ _ _ _ n2).trans h.re, (heap_setCell_same _ _ 0 _ _ _ h.rc).trans (by simp), h.below.setCell (p := ⟨c, 0, none⟩) h1 _⟩
theorem catch_panicT (B a b c : Nat) (er col : Int) (w : World) (ha : w.heap[a]? = some (.cells #[.nilIface] 30 (0, 0))) (hb : w.heap[b]? = some (.cells #[.int .i64 0] 26 (0, 0))) (hc : w.heap[c]? = some (.cells #[.int .i64 0] 3 (0, 0))) (h1 : B ≤ a) (h2 : B ≤ b) (h3 : B ≤ c) (h4 : B ≤ w.heap.size) :
  CallsD Tryz.prog 21 #[.pointer (some ⟨a, 0, none⟩), .pointer (some ⟨b, 0, none⟩), .pointer (some ⟨c, 0, none⟩)] (.panicking (rfT er col)) w fun e u' w' =>
   e = .returned (.tuple #[]) ∧ u' = .panicking [{ v := .iface 81 (.agg #[.int .i64 er, .int .i64 col]), recovered := true }] ∧ w'.heap[a]? = some (.cells #[.nilIface] 30 (0, 0)) ∧ w'.heap[b]? = some (.cells #[.int .i64 er] 26 (0, 0)) ∧ w'.heap[c]? = some (.cells #[.int .i64 col] 3 (0, 0)) ∧ Below B w w' := by
 have hmx := mixO
 unfold rfT
 refine callsD_of_wpS Tryz.func21 rfl fun c₀ cs hu => ?_
 apply wpS_seq
 apply wpS_region
 simp [wpOpsS, go_sem, recoverD, hu, Tryz.ntmps21, Exit.thenS, assertR_yesT]
 apply wpS_seq
 apply wpS_region
 simp [wpOpsS, go_sem, Exit.thenS]
 refine wpS_cond (t := true) (by simp [Act.eval, Array.replicate]) ?_
 simp only [if_true]
 refine wpS_of_wp ?_
 obtain ⟨W1, hW1⟩ : ∃ W1, w.alloc (.cells #[.int .i64 er, .int .i64 col] 81) = W1 := ⟨_, rfl⟩
 rw [hW1]
 have hb1 : Below w.heap.size w W1 := by rw [← hW1]; exact al1t _ _
 have hk : W1.heap[w.heap.size]? = some (.cells #[.int .i64 er, .int .i64 col] 81 (0, 0)) := by rw [← hW1]; exact zna rfl
 have hab : a < w.heap.size := zla ha
 have hbb : b < w.heap.size := zla hb
 have hcb : c < w.heap.size := zla hc
 have hne1 : a ≠ b := fun e => by rw [e, hb] at ha; simp only [Option.some.injEq, Obj.cells.injEq] at ha; exact absurd ha.2.1 (by decide)
 have hne2 : a ≠ c := fun e => by rw [e, hc] at ha; simp only [Option.some.injEq, Obj.cells.injEq] at ha; exact absurd ha.2.1 (by decide)
 have hne3 : b ≠ c := fun e => by rw [e, hc] at hb; simp only [Option.some.injEq, Obj.cells.injEq] at hb; exact absurd hb.2.1 (by decide)
 have hJ : JC B a b c w.heap.size er col w W1 false false := ⟨hk, (hb1.block _ hab).trans ha, (hb1.block _ hbb).trans hb, (hb1.block _ hcb).trans hc, hb1.mono h4⟩
 rw [show Array.replicate 12 undef = #[undef, undef, undef, undef, undef, undef, undef, undef, undef, undef, undef, undef] from rfl]
 simp only [List.setIfInBounds_toArray, List.set_cons_zero, List.set_cons_succ, List.append_toArray, List.cons_append, List.nil_append]
 refine wp_region_any hmx ?_
 refine zwt (G := (Unit)) (fun g i__ => ([(.pointer (some ⟨w.heap.size, 0, none⟩)), (.int .i64 er), (.pointer (some ⟨w.heap.size, 1, none⟩)), (.int .i64 col), undef, undef, undef] : List Value).getD i__ undef) (fun _ d V => JC B a b c w.heap.size er col w V (d 5) (d 6)) (by kernel_rfl) (()) (hJ.carry h4 (Below.refl _ _).drew) ?step24 ?fin24
 case step24 =>
  intro i o ho
  have hi : i < 7 := getElem?_lt ho
  match i, hi, ho with
  | 0, _, ho => cases ho; exact zgo fun g d hdep => zfa rfl trivial _ _ _ _ rfl rfl (fun v hw => fld_r0 v _)
  | 1, _, ho => cases ho; exact zgo fun g d hdep => zld rfl trivial _ _ _ rfl rfl (fun v hw => ld_r0 hw.why)
  | 2, _, ho => cases ho; exact zgo fun g d hdep => zfa rfl trivial _ _ _ _ rfl rfl (fun v hw => fld_r1 v _)
  | 3, _, ho => cases ho; exact zgo fun g d hdep => zld rfl trivial _ _ _ rfl rfl (fun v hw => ld_r1 hw.why)
  | 4, _, ho => cases ho; exact zgo fun g d hdep => step_store rfl trivial rfl _ _ _ _ _ rfl rfl rfl (fun V hw => ⟨_, store_nil hw.ra, hw.s4 h1 hne1 hne2 (by omega)⟩)
  | 5, _, ho => cases ho; exact zgo fun g d hdep => step_store rfl trivial rfl _ _ _ _ _ rfl rfl rfl (fun V hw => ⟨_, store_en hw.re er, hw.s5 h2 hne1 hne3 (by omega)⟩)
  | 6, _, ho => cases ho; exact zgo fun g d hdep => step_store rfl trivial rfl _ _ _ _ _ rfl rfl rfl (fun V hw => ⟨_, store_in hw.rc col, hw.s6 h3 hne2 hne3 (by omega)⟩)
 intro g d W hall hW
 first | refine hK _ _ ?_ | refine (‹∀ (a : Act) (w : World), Code.wp Tryz.prog _ _ a w → _›) _ _ ?_ | skip
 simp only [finL, List.getD_cons_zero, List.getD_cons_succ, Nat.zero_add, Nat.reduceAdd, List.setIfInBounds_toArray, List.set_cons_zero, List.set_cons_succ]
 have hjW : JC B a b c w.heap.size er col w W true true := by have := hW; rw [hall 5 (by decide), hall 6 (by decide)] at this; exact this
 have hra := hjW.ra
 have hre := hjW.re
 have hrc := hjW.rc
 have hbl := hjW.below
 clear hW hall hJ hjW
 simp [bodyPostS, results, Tryz.results21]
 exact ⟨hra, hre, hrc, hbl⟩
abbrev ScR := List Tk4 ⊕ (Int × Int × Int)
def ScT (Sc : ScR) (V : World) (e : Ending) (w' : World) : Prop := match Sc with
 | .inl l => ∃ ad cap, e = .returned (.tuple #[.slice ad l.length cap, .int .i64 0, .int .i64 0, .int .i64 0]) ∧ RdK w' ad l ∧ (∀ b off, ad = some ⟨b, off, none⟩ → b < w'.heap.size) ∧ Below V.heap.size V w'
 | .inr q => e = .returned (.tuple #[.slice none 0 0, .int .i64 q.1, .int .i64 q.2.1, .int .i64 q.2.2]) ∧ Below V.heap.size V w'
def readT (L : List Int) (Sc : ScR) : Except ErT Nt5 := if L.length = 0 then .error (1, 0) else match Sc with
 | .inr q => .error (q.1, q.2.2)
 | .inl l => rdWT L l
def RdTR (w : World) (r : Except ErT Nt5) (e : Ending) (w' : World) : Prop := match r with
 | .error q => e = .returned (.tuple #[.nilIface, .int .i64 q.1, .int .i64 q.2]) ∧ Below w.heap.size w w'
 | .ok n => ∃ v, e = .returned (.tuple #[noteV n.1 n.2.1 (n.2.2.1 : Nat) n.2.2.2.1 v, .int .i64 0, .int .i64 0]) ∧ w'.ownsRow w.heap.size 124 3 v n.2.2.2.2.length (fl n.2.2.2.2) ∧ Below w.heap.size w w'
theorem taker2 (ad : Option Addr) (cap : Nat) (l : List Tk4) (w : World) (h : RdK w ad l) (ha : ∀ b off, ad = some ⟨b, off, none⟩ → b < w.heap.size) : Calls Tryz.prog 22 #[.slice ad l.length cap] w fun e w' => e = .returned (rdF (w.heap.size + 1) w.heap.size) ∧ Tk (w.heap.size + 1) w.heap.size l 0 w' ∧ Below w.heap.size w w' := by
 have hmf := hmfT
 unfold rdF
 have HA : Hid (∀ b off, ad = some ⟨b, off, none⟩ → b < w.heap.size) := ha
 have HR : Hid (RdK w ad l) := h
 clear h ha
 go_enter Tryz.func22, Tryz.ntmps22
 go_wp2
 go_ret
 have hb1 := al1t w (.cells #[.slice ad l.length cap] 44)
 have hb2 : Below w.heap.size w ((w.alloc (.cells #[.slice ad l.length cap] 44)).alloc (.cells #[.int .i64 0] 3)) := hb1.trans ((al1t _ _).mono (by simp))
 exact ⟨rfl, ⟨zna (by simp), ad, cap, zoa (zna rfl), HR.out.carry hb2, fun b off e => by have := HA.out b off e; omega⟩, hb2⟩
theorem fin3T {u w : World} {p : Nat} (h : Below p w u) (i2 : u.heap[p + 1]? = some (.cells #[.nilIface] 30 (0, 0))) (i3 : u.heap[p + 1 + 1]? = some (.cells #[.int .i64 0] 26 (0, 0))) (i4 : u.heap[p + 1 + 1 + 1]? = some (.cells #[.int .i64 0] 3 (0, 0))) (er col : Int) : (((u.setCell ⟨p + 1, 0, none⟩ .nilIface).setCell ⟨p + 1 + 1, 0, none⟩ (.int .i64 er)).setCell ⟨p + 1 + 1 + 1, 0, none⟩ (.int .i64 col)).heap[p + 1]? = some (.cells #[.nilIface] 30 (0, 0)) ∧ (((u.setCell ⟨p + 1, 0, none⟩ .nilIface).setCell ⟨p + 1 + 1, 0, none⟩ (.int .i64 er)).setCell ⟨p + 1 + 1 + 1, 0, none⟩ (.int .i64 col)).heap[p + 1 + 1]? = some (.cells #[.int .i64 er] 26 (0, 0)) ∧ (((u.setCell ⟨p + 1, 0, none⟩ .nilIface).setCell ⟨p + 1 + 1, 0, none⟩ (.int .i64 er)).setCell ⟨p + 1 + 1 + 1, 0, none⟩ (.int .i64 col)).heap[p + 1 + 1 + 1]? = some (.cells #[.int .i64 col] 3 (0, 0)) ∧ Below p w (((u.setCell ⟨p + 1, 0, none⟩ .nilIface).setCell ⟨p + 1 + 1, 0, none⟩ (.int .i64 er)).setCell ⟨p + 1 + 1 + 1, 0, none⟩ (.int .i64 col)) := by
 have a1 : (u.setCell ⟨p + 1, 0, none⟩ .nilIface).heap[p + 1]? = some (.cells #[.nilIface] 30 (0, 0)) := (heap_setCell_same _ _ 0 _ _ _ i2).trans (by simp)
 have a2 : (u.setCell ⟨p + 1, 0, none⟩ .nilIface).heap[p + 1 + 1]? = some (.cells #[.int .i64 0] 26 (0, 0)) := (Below.heap_setCell _ _ _ _ (by show p + 1 + 1 ≠ p + 1; omega)).trans i3
 have a3 : (u.setCell ⟨p + 1, 0, none⟩ .nilIface).heap[p + 1 + 1 + 1]? = some (.cells #[.int .i64 0] 3 (0, 0)) := (Below.heap_setCell _ _ _ _ (by show p + 1 + 1 + 1 ≠ p + 1; omega)).trans i4
 have hb1 : Below p w (u.setCell ⟨p + 1, 0, none⟩ .nilIface) := h.setCell (p := ⟨p + 1, 0, none⟩) (by show p ≤ p + 1; omega) _
 generalize u.setCell ⟨p + 1, 0, none⟩ .nilIface = V at *
 have b1 : (V.setCell ⟨p + 1 + 1, 0, none⟩ (.int .i64 er)).heap[p + 1]? = some (.cells #[.nilIface] 30 (0, 0)) := (Below.heap_setCell _ _ _ _ (by show p + 1 ≠ p + 1 + 1; omega)).trans a1
 have b2 : (V.setCell ⟨p + 1 + 1, 0, none⟩ (.int .i64 er)).heap[p + 1 + 1]? = some (.cells #[.int .i64 er] 26 (0, 0)) := (heap_setCell_same _ _ 0 _ _ _ a2).trans (by simp)
 have b3 : (V.setCell ⟨p + 1 + 1, 0, none⟩ (.int .i64 er)).heap[p + 1 + 1 + 1]? = some (.cells #[.int .i64 0] 3 (0, 0)) := (Below.heap_setCell _ _ _ _ (by show p + 1 + 1 + 1 ≠ p + 1 + 1; omega)).trans a3
 have hb2 : Below p w (V.setCell ⟨p + 1 + 1, 0, none⟩ (.int .i64 er)) := hb1.setCell (p := ⟨p + 1 + 1, 0, none⟩) (by show p ≤ p + 1 + 1; omega) _
 generalize V.setCell ⟨p + 1 + 1, 0, none⟩ (.int .i64 er) = U at *
 exact ⟨(Below.heap_setCell _ _ _ _ (by show p + 1 ≠ p + 1 + 1 + 1; omega)).trans b1, (Below.heap_setCell _ _ _ _ (by show p + 1 + 1 ≠ p + 1 + 1 + 1; omega)).trans b2, (heap_setCell_same _ _ 0 _ _ _ b3).trans (by simp), hb2.setCell (p := ⟨p + 1 + 1 + 1, 0, none⟩) (by show p ≤ p + 1 + 1 + 1; omega) _⟩
theorem read_zero {M : Nat} {sl mp : Value} {L : List Int} {w : World} (hR : Ros M w (.agg #[sl, mp]) L) (hM : M ≤ w.heap.size) (hL : L.length = 0) (s : ByteArray) : Calls Tryz.prog 7 #[.agg #[sl, mp], .string s] w fun e w' => e = .returned (.tuple #[.nilIface, .int .i64 1, .int .i64 0]) ∧ Below w.heap.size w w' := by
 have hmf := hmfT
 have HSZ : Hid (∀ V, Below w.heap.size w V → Calls Tryz.prog 20 #[.agg #[sl, mp]] V fun e w' => e = .returned (.int .i64 0) ∧ Below V.heap.size V w') := fun V hV => by
  have := size_any V (hR.below (hV.mono hM))
  rw [hL] at this
  exact this
 obtain ⟨W1, hW1⟩ : ∃ W1, w.alloc (.cells #[sl, mp] 25) = W1 := ⟨_, rfl⟩
 have hb1 : Below w.heap.size w W1 := by rw [← hW1]; exact al1t _ _
 have z1 : W1.heap.size = w.heap.size + 1 := by rw [← hW1]; simp
 have r1 : W1.heap[w.heap.size]? = some (.cells #[sl, mp] 25 (0, 0)) := by rw [← hW1]; exact zna rfl
 obtain ⟨W2, hW2⟩ : ∃ W2, W1.alloc (.cells #[.nilIface] 30) = W2 := ⟨_, rfl⟩
 have hb2 : Below W1.heap.size W1 W2 := by rw [← hW2]; exact al1t _ _
 have z2 : W2.heap.size = w.heap.size + 1 + 1 := by rw [← hW2]; simp; omega
 have r2 : W2.heap[w.heap.size + 1]? = some (.cells #[.nilIface] 30 (0, 0)) := by rw [← hW2]; exact zna z1.symm
 obtain ⟨W3, hW3⟩ : ∃ W3, W2.alloc (.cells #[.int .i64 0] 26) = W3 := ⟨_, rfl⟩
 have hb3 : Below W2.heap.size W2 W3 := by rw [← hW3]; exact al1t _ _
 have z3 : W3.heap.size = w.heap.size + 1 + 1 + 1 := by rw [← hW3]; simp; omega
 have r3 : W3.heap[w.heap.size + 1 + 1]? = some (.cells #[.int .i64 0] 26 (0, 0)) := by rw [← hW3]; exact zna z2.symm
 obtain ⟨W4, hW4⟩ : ∃ W4, W3.alloc (.cells #[.int .i64 0] 3) = W4 := ⟨_, rfl⟩
 have hb4 : Below W3.heap.size W3 W4 := by rw [← hW4]; exact al1t _ _
 have z4 : W4.heap.size = w.heap.size + 1 + 1 + 1 + 1 := by rw [← hW4]; simp; omega
 have r4 : W4.heap[w.heap.size + 1 + 1 + 1]? = some (.cells #[.int .i64 0] 3 (0, 0)) := by rw [← hW4]; exact zna z3.symm
 have hb04 := bel3 (bel3 (bel3 hb1 hb2) hb3) hb4
 have g1 : W4.heap[w.heap.size]? = some (.cells #[sl, mp] 25 (0, 0)) := (hb4.block _ (by omega)).trans ((hb3.block _ (by omega)).trans ((hb2.block _ (by omega)).trans r1))
 have g2 := (hb4.block _ (by omega)).trans ((hb3.block _ (by omega)).trans r2)
 have g3 := (hb4.block _ (by omega)).trans r3
 have c0 : W4.cell? ⟨w.heap.size, 0, none⟩ = some sl := (zca g1 0).trans rfl
 have c1 : W4.cell? ⟨w.heap.size, 1, none⟩ = some mp := (zca g1 1).trans rfl
 have hz4 := hb04.size
 clear hb1 hb2 hb3 hb4 r1 r2 r3
 have q1 : W1.heap.size = w.heap.size + 1 := z1
 clear hR hL
 go_enter_defers Tryz.func7, Tryz.ntmps7
 go_wp2_with (go_at_call 20; (with_reducible refine (HSZ.out _ hb04).mono ?_); rintro e u1 ⟨rfl, hu1⟩; (have i2 := (hu1.block _ (show w.heap.size + 1 < W4.heap.size by omega)).trans g2); (have i3 := (hu1.block _ (show w.heap.size + 1 + 1 < W4.heap.size by omega)).trans g3); (have i4 := (hu1.block _ (show w.heap.size + 1 + 1 + 1 < W4.heap.size by omega)).trans r4); (have ca := zca i2 0); (have cb := zca i3 0); (have cc := zca i4 0); (have za := zta i2 0); (have zb := zta i3 0); (have zc := zta i4 0); simp at ca cb cc)
 obtain ⟨y1, y2, y3, y4⟩ := fin3T (bel3 hb04 hu1) i2 i3 i4 1 0
 exact ⟨_, res3T rfl rfl rfl y1 y2 y3, rfl, y4⟩
theorem read_scan {M : Nat} {sl mp : Value} {L : List Int} {w : World} (hR : Ros M w (.agg #[sl, mp]) L) (hM : M ≤ w.heap.size) (hL : L.length ≠ 0) (s : ByteArray) (er ln col : Int) (hne : er ≠ 0) (hS : ∀ V, Calls Tryz.prog 11 #[.string s] V fun e w' => e = .returned (.tuple #[.slice none 0 0, .int .i64 er, .int .i64 ln, .int .i64 col]) ∧ Below V.heap.size V w') : Calls Tryz.prog 7 #[.agg #[sl, mp], .string s] w fun e w' => e = .returned (.tuple #[.nilIface, .int .i64 er, .int .i64 col]) ∧ Below w.heap.size w w' := by
 have hmf := hmfT
 have HSZ : Hid (∀ V, Below w.heap.size w V → Calls Tryz.prog 20 #[.agg #[sl, mp]] V fun e w' => e = .returned (.int .i64 (L.length : Int)) ∧ Below V.heap.size V w') := fun V hV => size_any V (hR.below (hV.mono hM))
 obtain ⟨n, hn⟩ : ∃ n, L.length = n := ⟨_, rfl⟩
 rw [hn] at HSZ hL
 have hn0 : ((n : Int) == 0) = false := by simp; omega
 have hne1 : (er == 0) = false := by simpa using hne
 have hne2 : (er != 0) = true := by simpa using hne
 obtain ⟨W1, hW1⟩ : ∃ W1, w.alloc (.cells #[sl, mp] 25) = W1 := ⟨_, rfl⟩
 have hb1 : Below w.heap.size w W1 := by rw [← hW1]; exact al1t _ _
 have z1 : W1.heap.size = w.heap.size + 1 := by rw [← hW1]; simp
 have r1 : W1.heap[w.heap.size]? = some (.cells #[sl, mp] 25 (0, 0)) := by rw [← hW1]; exact zna rfl
 obtain ⟨W2, hW2⟩ : ∃ W2, W1.alloc (.cells #[.nilIface] 30) = W2 := ⟨_, rfl⟩
 have hb2 : Below W1.heap.size W1 W2 := by rw [← hW2]; exact al1t _ _
 have z2 : W2.heap.size = w.heap.size + 1 + 1 := by rw [← hW2]; simp; omega
 have r2 : W2.heap[w.heap.size + 1]? = some (.cells #[.nilIface] 30 (0, 0)) := by rw [← hW2]; exact zna z1.symm
 obtain ⟨W3, hW3⟩ : ∃ W3, W2.alloc (.cells #[.int .i64 0] 26) = W3 := ⟨_, rfl⟩
 have hb3 : Below W2.heap.size W2 W3 := by rw [← hW3]; exact al1t _ _
 have z3 : W3.heap.size = w.heap.size + 1 + 1 + 1 := by rw [← hW3]; simp; omega
 have r3 : W3.heap[w.heap.size + 1 + 1]? = some (.cells #[.int .i64 0] 26 (0, 0)) := by rw [← hW3]; exact zna z2.symm
 obtain ⟨W4, hW4⟩ : ∃ W4, W3.alloc (.cells #[.int .i64 0] 3) = W4 := ⟨_, rfl⟩
 have hb4 : Below W3.heap.size W3 W4 := by rw [← hW4]; exact al1t _ _
 have z4 : W4.heap.size = w.heap.size + 1 + 1 + 1 + 1 := by rw [← hW4]; simp; omega
 have r4 : W4.heap[w.heap.size + 1 + 1 + 1]? = some (.cells #[.int .i64 0] 3 (0, 0)) := by rw [← hW4]; exact zna z3.symm
 have hb04 := bel3 (bel3 (bel3 hb1 hb2) hb3) hb4
 have g1 : W4.heap[w.heap.size]? = some (.cells #[sl, mp] 25 (0, 0)) := (hb4.block _ (by omega)).trans ((hb3.block _ (by omega)).trans ((hb2.block _ (by omega)).trans r1))
 have g2 := (hb4.block _ (by omega)).trans ((hb3.block _ (by omega)).trans r2)
 have g3 := (hb4.block _ (by omega)).trans r3
 have c0 : W4.cell? ⟨w.heap.size, 0, none⟩ = some sl := (zca g1 0).trans rfl
 have c1 : W4.cell? ⟨w.heap.size, 1, none⟩ = some mp := (zca g1 1).trans rfl
 have hz4 := hb04.size
 clear hb1 hb2 hb3 hb4 r1 r2 r3
 have q1 : W1.heap.size = w.heap.size + 1 := z1
 clear hR hL hn hne
 go_enter_defers Tryz.func7, Tryz.ntmps7
 go_wp2_with (first
  | (go_at_call 11; (with_reducible refine (hS _).mono ?_); rintro e u2 ⟨rfl, hu2⟩; (have hu12 := bel3 hu1 hu2); (have i2 := (hu12.block _ (show w.heap.size + 1 < W4.heap.size by omega)).trans g2); (have i3 := (hu12.block _ (show w.heap.size + 1 + 1 < W4.heap.size by omega)).trans g3); (have i4 := (hu12.block _ (show w.heap.size + 1 + 1 + 1 < W4.heap.size by omega)).trans r4); (have ca := zca i2 0); (have cb := zca i3 0); (have cc := zca i4 0); (have za := zta i2 0); (have zb := zta i3 0); (have zc := zta i4 0); simp at ca cb cc)
  | (go_at_call 20; (with_reducible refine (HSZ.out _ hb04).mono ?_); rintro e u1 ⟨rfl, hu1⟩))
 obtain ⟨y1, y2, y3, y4⟩ := fin3T (bel3 hb04 hu12) i2 i3 i4 er col
 exact ⟨_, res3T rfl rfl rfl y1 y2 y3, rfl, y4⟩
theorem read_no {M : Nat} {sl mp : Value} {L : List Int} {w : World} (hR : Ros M w (.agg #[sl, mp]) L) (hM : M ≤ w.heap.size) (hU : Ut w) (hL : L.length ≠ 0) (s : ByteArray) (l : List Tk4) (hS : ∀ V, Calls Tryz.prog 11 #[.string s] V fun e w' => ∃ ad cap, e = .returned (.tuple #[.slice ad l.length cap, .int .i64 0, .int .i64 0, .int .i64 0]) ∧ RdK w' ad l ∧ (∀ b off, ad = some ⟨b, off, none⟩ → b < w'.heap.size) ∧ Below V.heap.size V w') (er col : Int) (hN : ∀ nb wb V, En M L sl mp nb V → Tk nb wb l 0 V → Calls Tryz.prog 23 #[.agg #[sl, mp, rdF nb wb]] V (Dy nb V er col)) : Calls Tryz.prog 7 #[.agg #[sl, mp], .string s] w fun e w' => e = .returned (.tuple #[.nilIface, .int .i64 er, .int .i64 col]) ∧ Below w.heap.size w w' := by
 have hmx := mixO
 have hmf := hmfT
 have HSZ : Hid (∀ V, Below w.heap.size w V → Calls Tryz.prog 20 #[.agg #[sl, mp]] V fun e w' => e = .returned (.int .i64 (L.length : Int)) ∧ Below V.heap.size V w') := fun V hV => size_any V (hR.below (hV.mono hM))
 obtain ⟨n, hn⟩ : ∃ n, L.length = n := ⟨_, rfl⟩
 rw [hn] at HSZ hL
 have hn0 : ((n : Int) == 0) = false := by simp; omega
 obtain ⟨W1, hW1⟩ : ∃ W1, w.alloc (.cells #[sl, mp] 25) = W1 := ⟨_, rfl⟩
 have hb1 : Below w.heap.size w W1 := by rw [← hW1]; exact al1t _ _
 have z1 : W1.heap.size = w.heap.size + 1 := by rw [← hW1]; simp
 have r1 : W1.heap[w.heap.size]? = some (.cells #[sl, mp] 25 (0, 0)) := by rw [← hW1]; exact zna rfl
 obtain ⟨W2, hW2⟩ : ∃ W2, W1.alloc (.cells #[.nilIface] 30) = W2 := ⟨_, rfl⟩
 have hb2 : Below W1.heap.size W1 W2 := by rw [← hW2]; exact al1t _ _
 have z2 : W2.heap.size = w.heap.size + 1 + 1 := by rw [← hW2]; simp; omega
 have r2 : W2.heap[w.heap.size + 1]? = some (.cells #[.nilIface] 30 (0, 0)) := by rw [← hW2]; exact zna z1.symm
 obtain ⟨W3, hW3⟩ : ∃ W3, W2.alloc (.cells #[.int .i64 0] 26) = W3 := ⟨_, rfl⟩
 have hb3 : Below W2.heap.size W2 W3 := by rw [← hW3]; exact al1t _ _
 have z3 : W3.heap.size = w.heap.size + 1 + 1 + 1 := by rw [← hW3]; simp; omega
 have r3 : W3.heap[w.heap.size + 1 + 1]? = some (.cells #[.int .i64 0] 26 (0, 0)) := by rw [← hW3]; exact zna z2.symm
 obtain ⟨W4, hW4⟩ : ∃ W4, W3.alloc (.cells #[.int .i64 0] 3) = W4 := ⟨_, rfl⟩
 have hb4 : Below W3.heap.size W3 W4 := by rw [← hW4]; exact al1t _ _
 have z4 : W4.heap.size = w.heap.size + 1 + 1 + 1 + 1 := by rw [← hW4]; simp; omega
 have r4 : W4.heap[w.heap.size + 1 + 1 + 1]? = some (.cells #[.int .i64 0] 3 (0, 0)) := by rw [← hW4]; exact zna z3.symm
 have hb04 := bel3 (bel3 (bel3 hb1 hb2) hb3) hb4
 have g1 : W4.heap[w.heap.size]? = some (.cells #[sl, mp] 25 (0, 0)) := (hb4.block _ (by omega)).trans ((hb3.block _ (by omega)).trans ((hb2.block _ (by omega)).trans r1))
 have g2 := (hb4.block _ (by omega)).trans ((hb3.block _ (by omega)).trans r2)
 have g3 := (hb4.block _ (by omega)).trans r3
 have c0 : W4.cell? ⟨w.heap.size, 0, none⟩ = some sl := (zca g1 0).trans rfl
 have c1 : W4.cell? ⟨w.heap.size, 1, none⟩ = some mp := (zca g1 1).trans rfl
 have hz4 := hb04.size
 clear hb1 hb2 hb3 hb4 r1 r2 r3
 have q1 : W1.heap.size = w.heap.size + 1 := z1
 have HR : Hid (Ros M w (.agg #[sl, mp]) L) := hR
 have HS : Hid (∀ V, Calls Tryz.prog 11 #[.string s] V fun e w' => ∃ ad cap, e = .returned (.tuple #[.slice ad l.length cap, .int .i64 0, .int .i64 0, .int .i64 0]) ∧ RdK w' ad l ∧ (∀ b off, ad = some ⟨b, off, none⟩ → b < w'.heap.size) ∧ Below V.heap.size V w') := hS
 have HN : Hid (∀ nb wb V, En M L sl mp nb V → Tk nb wb l 0 V → Calls Tryz.prog 23 #[.agg #[sl, mp, rdF nb wb]] V (Dy nb V er col)) := hN
 obtain ⟨m, hm⟩ : ∃ m, l.length = m := ⟨_, rfl⟩
 have hm' : Hid (l.length = m) := hm
 rw [hm] at HS
 have HU : Hid (Ut w) := hU
 have HHM : Hid (M ≤ w.heap.size) := hM
 clear hR hN hS hn hU hL hm hM
 go_enter_defers Tryz.func7, Tryz.ntmps7
 go_wp2_with (first
  | (go_at_call 11; (with_reducible refine (HS.out _).mono ?_); rintro e u2 ⟨ad, cap, rfl, hrd, hra2, hu2⟩)
  | (go_at_call 20; (with_reducible refine (HSZ.out _ hb04).mono ?_); rintro e u1 ⟨rfl, hu1⟩))
 have hu12 := bel3 hu1 hu2
 have hb2 := bel3 hb04 hu12
 have hz2 := hu12.size
 have hz5 : w.heap.size + 4 ≤ u2.heap.size := by omega
 have hJ : Hid (JD w u2 sl mp l [] 0 (fun v => v) 0 0 undef false false false u2) := ⟨hb2, fun _ => Below.refl _ _, Nat.le_refl _, (hu12.block _ (by omega)).trans g1, (hu12.block _ (by omega)).trans g2, (hu12.block _ (by omega)).trans g3, (hu12.block _ (by omega)).trans r4, (fun e => by cases e), (fun e => by cases e)⟩
 have HEN : Hid (∀ nb V, Below w.heap.size w V → w.heap.size ≤ nb → En M L sl mp nb V) := fun nb V hV hn => ⟨fun U hO => HR.out.below ((hO.below hV hn hV.size).mono HHM.out), fun U hO => HU.out.carry (hO.below hV hn hV.size), Nat.le_trans HHM.out hn, Nat.le_trans HHM.out hV.size⟩
 have HRD : Hid (RdK u2 ad l) := hrd
 have HRA : Hid (∀ b off, ad = some ⟨b, off, none⟩ → b < u2.heap.size) := hra2
 clear g1 g2 g3 r4 c0 c1 hrd hra2 HSZ HS
 refine wp_region_any hmx ?_
 refine wpAny_diesG (G := ((Nat × Nat) × Value)) 4 [5, 6, 7] (fun g i__ => ([(.agg #[sl, mp]), (.slice ad m cap), (rdF g.1.1 g.1.2), (.agg #[sl, mp, rdF g.1.1 g.1.2]), undef, undef, undef, undef] : List Value).getD i__ undef) (fun g d V => JD w u2 sl mp l [] 0 (fun v => v) g.1.1 g.1.2 g.2 (d 2) false false V) (by decide) (by kernel_rfl) (by kernel_rfl) (((0, 0), undef)) (hJ.out.carry (Below.refl _ _).drew) ?step25 ?fin25
 case step25 =>
  intro i o ho
  have hi : i < 8 := getElem?_lt ho
  match i, hi, ho with
  | 0, _, ho =>
   cases ho
   refine .inr ?_
   refine zgo (fun g d hdep => ?_)
   exact zld rfl trivial _ _ _ rfl rfl (fun v hw => load_ros3 hw.rb)
  | 1, _, ho =>
   cases ho
   refine .inr ?_
   refine zgo (fun g d hdep => ?_)
   exact zmv rfl trivial _ rfl (by kernel_rfl)
  | 2, _, ho =>
   cases ho
   refine .inr ?_
   exact stepG_call rfl (fun _ => trivial) 22 _ _ (fun _ => [.slice ad m cap]) rfl (fun g => by kernel_rfl) (enters_of Tryz.func22 (by kernel_rfl) rfl) (fun g d V hJ hun hdep hcl => by rw [← hm'.out]; have hz := hJ.zb rfl; exact (taker2 ad cap l V (HRD.out.carry hz) (fun b off e => Nat.lt_of_lt_of_le (HRA.out b off e) hz.size)).mono (by rintro e w' ⟨rfl, h1, h2⟩; refine ⟨((V.heap.size + 1, V.heap.size), g.2), rfl, (fun j hj => match j, hj with | 2, hj => (by rw [hj] at hun; cases hun) | 3, hj => absurd ((hcl 3 _ rfl hj 2 (by kernel_rfl))) (by rw [hun]; simp) | 0, _ => rfl | 1, _ => rfl | 4, _ => rfl | 5, _ => rfl | 6, _ => rfl | 7, _ => rfl | _ + 8, _ => rfl), ?_⟩; have h := hJ.carry h2; rw [hun] at h; show JD w u2 sl mp l [] 0 (fun v => v) (V.heap.size + 1) V.heap.size g.2 true false false w'; exact ⟨h.below, h.zb, h.size, h.rb, h.ra, h.re, h.rc, fun _ => ⟨Nat.le_succ_of_le hJ.size, fun _ => h1⟩, fun e => by cases e⟩))
  | 3, _, ho =>
   cases ho
   refine .inr ?_
   exact zgo (fun g d hdep => step_bld2T rfl trivial _ _ _ _ _ (.agg #[sl, mp]) (rdF g.1.1 g.1.2) rfl (by kernel_rfl) (by kernel_rfl) (fun v hw => bld_R sl mp _ _ v))
  | 4, _, ho => exact .inl (by simp)
  | 5, _, ho => exact .inl (by simp)
  | 6, _, ho => exact .inl (by simp)
  | 7, _, ho => exact .inl (by simp)
 intro o ho
 cases ho
 exact dieG_call rfl (fun _ => trivial) 23 _ _ (fun g => [.agg #[sl, mp, rdF g.1.1 g.1.2]]) rfl (fun g => by kernel_rfl) (enters_of Tryz.func23 (by kernel_rfl) rfl) (rfT er col) (J2 := fun V => ∃ nb wb v, JD w u2 sl mp l [] 0 (fun v => v) nb wb v false false false V) (fun g d V hJ hun hdep hcl => by have h2 := hdep 2 (by kernel_rfl); rw [h2] at hJ; have hk := hJ.tk rfl; have hzu := hb2.size; exact (HN.out g.1.1 g.1.2 V (HEN.out g.1.1 V hJ.below (by omega)) (hk.2 rfl)).mono (by rintro e w' ⟨rfl, h4⟩; refine ⟨rfl, g.1.1, g.1.2, g.2, ?_⟩; exact ⟨h4.below hJ.below (by omega) hJ.below.size, fun _ => h4.below (hJ.zb rfl) hk.1 hJ.size, Nat.le_trans hJ.size h4.size, (h4.block _ (zla hJ.rb) (by omega)).trans hJ.rb, (h4.block _ (zla hJ.ra) (by omega)).trans hJ.ra, (h4.block _ (zla hJ.re) (by omega)).trans hJ.re, (h4.block _ (zla hJ.rc) (by omega)).trans hJ.rc, (fun e => by cases e), fun e => by cases e⟩)) (by intro g a V hd hSn hb; obtain ⟨nb, wb, v, hj⟩ := hb; obtain ⟨ta, da⟩ := a; (have hd' : da = [_] := hd); (subst hd'); (have t4 : ta.getD 4 undef = .pointer (some ⟨w.heap.size + 1, 0, none⟩) := hSn 4 _ (by kernel_rfl)); (have t5 : ta.getD 5 undef = .pointer (some ⟨w.heap.size + 1 + 1, 0, none⟩) := hSn 5 _ (by kernel_rfl)); (have t6 : ta.getD 6 undef = .pointer (some ⟨w.heap.size + 1 + 1 + 1, 0, none⟩) := hSn 6 _ (by kernel_rfl)); (have hja := hj.ra); (rw [if_neg (by decide)] at hja); (refine leaves_cons (f := 21) (args := #[.pointer (some ⟨w.heap.size + 1, 0, none⟩), .pointer (some ⟨w.heap.size + 1 + 1, 0, none⟩), .pointer (some ⟨w.heap.size + 1 + 1 + 1, 0, none⟩)]) (by simp) (by simp [go_sem]) ?_); (refine (catch_panicT w.heap.size (w.heap.size + 1) (w.heap.size + 1 + 1) (w.heap.size + 1 + 1 + 1) er col V hja hj.re hj.rc (by omega) (by omega) (by omega) hj.below.size).mono ?_); rintro e u' w'' ⟨rfl, rfl, q1, q2, q3, hbw⟩; (exact ⟨_, res3T (by simpa [Array.getD_eq_getD_getElem?] using t4) (by simpa [Array.getD_eq_getD_getElem?] using t5) (by simpa [Array.getD_eq_getD_getElem?] using t6) q1 q2 q3, rfl, hj.below.trans hbw⟩))
theorem read_all {M : Nat} {sl mp : Value} {L : List Int} {w : World} (hR : Ros M w (.agg #[sl, mp]) L) (hM : M ≤ w.heap.size) (hU : Ut w) (s : ByteArray) (Sc : ScR) (hS : ∀ V, Calls Tryz.prog 11 #[.string s] V (ScT Sc V)) (hg : ∀ l, Sc = .inl l → Shw l ∧ Wk4 l ∧ l.length ≤ 1000000) (he : ∀ q, Sc = .inr q → q.1 ≠ 0) : Calls Tryz.prog 7 #[.agg #[sl, mp], .string s] w (RdTR w (readT L Sc)) := by
 by_cases hL : L.length = 0
 · rw [show readT L Sc = .error (1, 0) from if_pos hL]
   exact read_zero hR hM hL s
 cases Sc with
 | inr q =>
   rw [show readT L (.inr q) = .error (q.1, q.2.2) from if_neg hL]
   exact read_scan hR hM hL s q.1 q.2.1 q.2.2 (he q rfl) hS
 | inl l =>
   obtain ⟨h1, h2, h3⟩ := hg l rfl
   have hNA : ∀ nb wb V, En M L sl mp nb V → Tk nb wb l 0 V → Calls Tryz.prog 23 #[.agg #[sl, mp, rdF nb wb]] V (NoO nb wb l V (rdWT L l)) := fun nb wb V hE hT => note_all hE h1 h2 hT h3
   rw [show readT L (.inl l) = rdWT L l from if_neg hL]
   unfold RdTR
   cases hr : rdWT L l with
   | error q =>
    rw [hr] at hNA
    exact read_no hR hM hU hL s l hS q.1 q.2 hNA
   | ok n =>
    rw [hr] at hNA
    have hne : l ≠ [] := by
     rintro rfl
     rw [rdWT, bodR, if_pos (by rfl)] at hr
     cases hr
    obtain ⟨T, X, hTX⟩ := noteV_two n.1 n.2.1 (n.2.2.1 : Nat) n.2.2.2.1
    refine (read_of hR hM hU hL s l hne (fun V => (hS V).mono (by rintro e w' ⟨ad, cap, rfl, q1, _, q2⟩; exact ⟨ad, cap, rfl, q1, q2⟩)) T X n.2.2.2.2 (fun nb wb V hE hT => (hNA nb wb V hE hT).mono (by
     rintro e w' ⟨v, rfl, q⟩
     exact ⟨v, by rw [hTX], q⟩))).mono ?_
    rintro e w' ⟨v, rfl, q⟩
    exact ⟨v, by rw [hTX], q⟩
end Go.Proofs.YtmahamdmapbilaaGreatDoor
namespace Go.Proofs.YtmahamdmapbilaaGreatDoor
open Go.RowKit Go.Shelf
def by8 (s : ByteArray) (i : Nat) : Nat := (s.get! i).toNat
def mB (s : ByteArray) (i : Nat) : Bool := decide (i < s.size ∧ 128 ≤ by8 s i ∧ by8 s i ≤ 191)
theorem by8_eq (s : ByteArray) (i : Nat) (h : i < s.size) : by8 s i = (s[i]'h).toNat := by
 unfold by8
 rw [get_eq s i h]
 rfl
theorem ret_boolA {a b : Bool} (h : a = b) : Ending.returned (.bool a) = .returned (.bool b) := by rw [h]
theorem more_any (s : ByteArray) (_hs : s.size ≤ maxLen) (i : Nat) (w : World) :
   Calls Tryz.prog 110 #[.string s, .int .i64 i] w fun e w' => e = .returned (.bool (mB s i)) ∧ w' = w := by
 unfold maxLen at _hs
 by_cases h : i < s.size
 · have HB : Hid (by8 s i = (s[i]'h).toNat) := by8_eq s i h
   go_enter Tryz.func110, Tryz.ntmps110
   go_wp2
   all_goals
    go_ret
    refine ⟨ret_boolA ?_, rfl⟩
    unfold mB
    rw [HB.out]
    rw [Bool.eq_iff_iff]
    simp only [decide_eq_true_eq, Bool.false_eq_true, false_iff, h, true_and]
    omega
 · have HB : Hid (mB s i = false) := by show mB s i = false; simp [mB, h]
   go_enter Tryz.func110, Tryz.ntmps110
   go_wp2
   go_ret
   rw [HB.out]
   exact ⟨rfl, rfl⟩
theorem more_at (s : ByteArray) (hs : s.size ≤ maxLen) (k : Nat) (i : Int) (h : i = (k : Int)) (w : World) :
  Calls Tryz.prog 110 #[.string s, .int .i64 i] w fun e w' => e = .returned (.bool (mB s k)) ∧ w' = w := by
 subst h
 exact more_any s hs k w
theorem idx_any (s : ByteArray) (k : Nat) (i : Int) (hi : i = (k : Int)) (hk : k < s.size) (w : World) : (Instr.index 9 (.string s) (.int .i64 i)).run Tryz.prog w = .ok (.int .u8 (s[k]'hk).toNat) w := by
 subst hi
 rw [run_index_string _ _ _ _ _ Tryz.underlying9]
 simp [hk]
theorem mB_in {s : ByteArray} {k : Nat} (h : mB s k = true) : ∃ hk : k < s.size, 128 ≤ (s[k]'hk).toNat ∧ (s[k]'hk).toNat ≤ 191 := by
 unfold mB at h
 rw [decide_eq_true_eq] at h
 obtain ⟨h1, h2, h3⟩ := h
 rw [by8_eq s k h1] at h2 h3
 exact ⟨h1, h2, h3⟩
theorem at_one (s : ByteArray) (hs' : s.size ≤ 140737488355328) (p : Nat) (hp : p < s.size) (h0 : (s[p]'hp).toNat < 128) (w : World) :
  Calls Tryz.prog 33 #[.string s, .int .i64 p] w fun e w' => e = .returned (.tuple #[.int .i64 (s[p]'hp).toNat, .int .i64 1, .bool false]) ∧ ∃ n, w' = w.drewN n := by
 have hs : s.size ≤ maxLen := by unfold maxLen; omega
 go_enter Tryz.func33, Tryz.ntmps33
 go_wp2
 go_ret3
 exact ⟨rfl, 0, rfl⟩
theorem at_none (s : ByteArray) (_hs' : s.size ≤ 140737488355328) (p : Nat) (hp : p < s.size) (h0 : 128 ≤ (s[p]'hp).toNat) (h1 : (s[p]'hp).toNat < 194 ∨ 244 < (s[p]'hp).toNat) (w : World) :
  Calls Tryz.prog 33 #[.string s, .int .i64 p] w fun e w' => e = .returned (.tuple #[.int .i64 65533, .int .i64 1, .bool true]) ∧ ∃ n, w' = w.drewN n := by
 have hlt : (s[p]'hp).toNat < 256 := (s[p]'hp).toNat_lt
 rcases h1 with h1 | h1
 all_goals
  go_enter Tryz.func33, Tryz.ntmps33
  go_wp2
  go_ret3
  exact ⟨rfl, 0, rfl⟩
theorem at_two (s : ByteArray) (hs' : s.size ≤ 140737488355328) (p : Nat) (hp : p < s.size) (h0 : 194 ≤ (s[p]'hp).toNat) (h1 : (s[p]'hp).toNat ≤ 223) (hq : p + 1 < s.size) (k1 : 128 ≤ (s[p + 1]'hq).toNat) (k2 : (s[p + 1]'hq).toNat ≤ 191) (m1 : mB s (p + 1) = true) (w : World) :
  Calls Tryz.prog 33 #[.string s, .int .i64 p] w fun e w' => e = .returned (.tuple #[.int .i64 (((s[p]'hp).toNat - 192) * 64 + (s[p + 1]'hq).toNat - 128 : Int), .int .i64 2, .bool false]) ∧ ∃ n, w' = w.drewN n := by
 have hs : s.size ≤ maxLen := by unfold maxLen; omega
 go_enter Tryz.func33, Tryz.ntmps33
 go_wp2_with fail
 refine (more_at s hs (p + 1) _ (by omega) _).mono ?_
 rintro e w' ⟨rfl, rfl⟩
 rw [m1]
 go_wp2
 go_ret3
 exact ⟨rfl, 0, rfl⟩
theorem at_two_no (s : ByteArray) (hs' : s.size ≤ 140737488355328) (p : Nat) (hp : p < s.size) (h0 : 194 ≤ (s[p]'hp).toNat) (h1 : (s[p]'hp).toNat ≤ 223) (m1 : mB s (p + 1) = false) (w : World) :
  Calls Tryz.prog 33 #[.string s, .int .i64 p] w fun e w' => e = .returned (.tuple #[.int .i64 65533, .int .i64 1, .bool true]) ∧ ∃ n, w' = w.drewN n := by
 have hs : s.size ≤ maxLen := by unfold maxLen; omega
 go_enter Tryz.func33, Tryz.ntmps33
 go_wp2_with fail
 refine (more_at s hs (p + 1) _ (by omega) _).mono ?_
 rintro e w' ⟨rfl, rfl⟩
 rw [m1]
 go_wp2
 go_ret3
 exact ⟨rfl, 0, rfl⟩
theorem at_three_no (s : ByteArray) (hs' : s.size ≤ 140737488355328) (p : Nat) (hp : p < s.size) (h0 : 224 ≤ (s[p]'hp).toNat) (h1 : (s[p]'hp).toNat ≤ 239) (m1 : mB s (p + 1) = false) (w : World) :
  Calls Tryz.prog 33 #[.string s, .int .i64 p] w fun e w' => e = .returned (.tuple #[.int .i64 65533, .int .i64 1, .bool true]) ∧ ∃ n, w' = w.drewN n := by
 have hs : s.size ≤ maxLen := by unfold maxLen; omega
 go_enter Tryz.func33, Tryz.ntmps33
 go_wp2_with fail
 refine (more_at s hs (p + 1) _ (by omega) _).mono ?_
 rintro e w' ⟨rfl, rfl⟩
 rw [m1]
 go_wp2
 go_ret3
 exact ⟨rfl, 0, rfl⟩
theorem at_three_no2 (s : ByteArray) (hs' : s.size ≤ 140737488355328) (p : Nat) (hp : p < s.size) (h0 : 224 ≤ (s[p]'hp).toNat) (h1 : (s[p]'hp).toNat ≤ 239) (m1 : mB s (p + 1) = true) (m2 : mB s (p + 2) = false) (w : World) :
  Calls Tryz.prog 33 #[.string s, .int .i64 p] w fun e w' => e = .returned (.tuple #[.int .i64 65533, .int .i64 1, .bool true]) ∧ ∃ n, w' = w.drewN n := by
 have hs : s.size ≤ maxLen := by unfold maxLen; omega
 go_enter Tryz.func33, Tryz.ntmps33
 go_wp2_with fail
 refine (more_at s hs (p + 1) _ (by omega) _).mono ?_
 rintro e w' ⟨rfl, rfl⟩
 rw [m1]
 go_wp2_with fail
 refine (more_at s hs (p + 2) _ (by omega) _).mono ?_
 rintro e w' ⟨rfl, rfl⟩
 rw [m2]
 go_wp2
 go_ret3
 exact ⟨rfl, 0, rfl⟩
theorem at_three (s : ByteArray) (hs' : s.size ≤ 140737488355328) (p : Nat) (hp : p < s.size) (h0 : 224 ≤ (s[p]'hp).toNat) (h1 : (s[p]'hp).toNat ≤ 239) (hq : p + 1 < s.size) (k1 : 128 ≤ (s[p + 1]'hq).toNat) (k2 : (s[p + 1]'hq).toNat ≤ 191) (hr : p + 2 < s.size) (k3 : 128 ≤ (s[p + 2]'hr).toNat) (k4 : (s[p + 2]'hr).toNat ≤ 191) (m1 : mB s (p + 1) = true) (m2 : mB s (p + 2) = true) (hv : 2048 ≤ (((s[p]'hp).toNat - 224) * 4096 + ((s[p + 1]'hq).toNat - 128) * 64 + (s[p + 2]'hr).toNat - 128 : Int) ∧ ((((s[p]'hp).toNat - 224) * 4096 + ((s[p + 1]'hq).toNat - 128) * 64 + (s[p + 2]'hr).toNat - 128 : Int) < 55296 ∨ 57343 < (((s[p]'hp).toNat - 224) * 4096 + ((s[p + 1]'hq).toNat - 128) * 64 + (s[p + 2]'hr).toNat - 128 : Int))) (w : World) :
  Calls Tryz.prog 33 #[.string s, .int .i64 p] w fun e w' => e = .returned (.tuple #[.int .i64 (((s[p]'hp).toNat - 224) * 4096 + ((s[p + 1]'hq).toNat - 128) * 64 + (s[p + 2]'hr).toNat - 128 : Int), .int .i64 3, .bool false]) ∧ ∃ n, w' = w.drewN n := by
 have hs : s.size ≤ maxLen := by unfold maxLen; omega
 go_enter Tryz.func33, Tryz.ntmps33
 go_wp2_with fail
 refine (more_at s hs (p + 1) _ (by omega) _).mono ?_
 rintro e w' ⟨rfl, rfl⟩
 rw [m1]
 go_wp2_with fail
 refine (more_at s hs (p + 2) _ (by omega) _).mono ?_
 rintro e w' ⟨rfl, rfl⟩
 rw [m2]
 have i1 := idx_any s (p + 1) (p + 1) (by omega) hq
 have i2 := idx_any s (p + 2) (p + 2) (by omega) hr
 go_wp2_with fail
 go_quiet (fail)
 clear i1 i2
 generalize hrr : (((s[p]'hp).toNat - 224) * 4096 + ((s[p + 1]'hq).toNat - 128) * 64 + (s[p + 2]'hr).toNat - 128 : Int) = r at hv ⊢
 have HR : Hid ((((s[p]'hp).toNat - 224) * 4096 + ((s[p + 1]'hq).toNat - 128) * 64 + (s[p + 2]'hr).toNat - 128 : Int) = r) := hrr
 clear hrr
 rcases hv with ⟨v1, v2 | v2⟩
 all_goals
  go_wp2
  go_ret3
  exact ⟨congrArg (fun z => Ending.returned (.tuple #[.int .i64 z, .int .i64 3, .bool false])) HR.out.symm, nq, rfl⟩
theorem at_three_bad (s : ByteArray) (hs' : s.size ≤ 140737488355328) (p : Nat) (hp : p < s.size) (h0 : 224 ≤ (s[p]'hp).toNat) (h1 : (s[p]'hp).toNat ≤ 239) (hq : p + 1 < s.size) (k1 : 128 ≤ (s[p + 1]'hq).toNat) (k2 : (s[p + 1]'hq).toNat ≤ 191) (hr : p + 2 < s.size) (k3 : 128 ≤ (s[p + 2]'hr).toNat) (k4 : (s[p + 2]'hr).toNat ≤ 191) (m1 : mB s (p + 1) = true) (m2 : mB s (p + 2) = true) (hv : (((s[p]'hp).toNat - 224) * 4096 + ((s[p + 1]'hq).toNat - 128) * 64 + (s[p + 2]'hr).toNat - 128 : Int) < 2048 ∨ (2048 ≤ (((s[p]'hp).toNat - 224) * 4096 + ((s[p + 1]'hq).toNat - 128) * 64 + (s[p + 2]'hr).toNat - 128 : Int) ∧ 55296 ≤ (((s[p]'hp).toNat - 224) * 4096 + ((s[p + 1]'hq).toNat - 128) * 64 + (s[p + 2]'hr).toNat - 128 : Int) ∧ (((s[p]'hp).toNat - 224) * 4096 + ((s[p + 1]'hq).toNat - 128) * 64 + (s[p + 2]'hr).toNat - 128 : Int) ≤ 57343)) (w : World) :
  Calls Tryz.prog 33 #[.string s, .int .i64 p] w fun e w' => e = .returned (.tuple #[.int .i64 65533, .int .i64 1, .bool true]) ∧ ∃ n, w' = w.drewN n := by
 have hs : s.size ≤ maxLen := by unfold maxLen; omega
 go_enter Tryz.func33, Tryz.ntmps33
 go_wp2_with fail
 refine (more_at s hs (p + 1) _ (by omega) _).mono ?_
 rintro e w' ⟨rfl, rfl⟩
 rw [m1]
 go_wp2_with fail
 refine (more_at s hs (p + 2) _ (by omega) _).mono ?_
 rintro e w' ⟨rfl, rfl⟩
 rw [m2]
 have i1 := idx_any s (p + 1) (p + 1) (by omega) hq
 have i2 := idx_any s (p + 2) (p + 2) (by omega) hr
 go_wp2_with fail
 go_quiet (fail)
 clear i1 i2
 generalize (((s[p]'hp).toNat - 224) * 4096 + ((s[p + 1]'hq).toNat - 128) * 64 + (s[p + 2]'hr).toNat - 128 : Int) = r at *
 rcases hv with v1 | ⟨v1, v2, v3⟩
 all_goals
  go_wp2
  go_ret3
  exact ⟨rfl, nq, rfl⟩
theorem at_four_no (s : ByteArray) (hs' : s.size ≤ 140737488355328) (p : Nat) (hp : p < s.size) (h0 : 240 ≤ (s[p]'hp).toNat) (h1 : (s[p]'hp).toNat ≤ 244) (m1 : mB s (p + 1) = false) (w : World) :
  Calls Tryz.prog 33 #[.string s, .int .i64 p] w fun e w' => e = .returned (.tuple #[.int .i64 65533, .int .i64 1, .bool true]) ∧ ∃ n, w' = w.drewN n := by
 have hs : s.size ≤ maxLen := by unfold maxLen; omega
 go_enter Tryz.func33, Tryz.ntmps33
 go_wp2_with fail
 refine (more_at s hs (p + 1) _ (by omega) _).mono ?_
 rintro e w' ⟨rfl, rfl⟩
 rw [m1]
 go_wp2
 go_ret3
 exact ⟨rfl, 0, rfl⟩
theorem at_four_no2 (s : ByteArray) (hs' : s.size ≤ 140737488355328) (p : Nat) (hp : p < s.size) (h0 : 240 ≤ (s[p]'hp).toNat) (h1 : (s[p]'hp).toNat ≤ 244) (m1 : mB s (p + 1) = true) (m2 : mB s (p + 2) = false) (w : World) :
  Calls Tryz.prog 33 #[.string s, .int .i64 p] w fun e w' => e = .returned (.tuple #[.int .i64 65533, .int .i64 1, .bool true]) ∧ ∃ n, w' = w.drewN n := by
 have hs : s.size ≤ maxLen := by unfold maxLen; omega
 go_enter Tryz.func33, Tryz.ntmps33
 go_wp2_with fail
 refine (more_at s hs (p + 1) _ (by omega) _).mono ?_
 rintro e w' ⟨rfl, rfl⟩
 rw [m1]
 go_wp2_with fail
 refine (more_at s hs (p + 2) _ (by omega) _).mono ?_
 rintro e w' ⟨rfl, rfl⟩
 rw [m2]
 go_wp2
 go_ret3
 exact ⟨rfl, 0, rfl⟩
theorem at_four_no3 (s : ByteArray) (hs' : s.size ≤ 140737488355328) (p : Nat) (hp : p < s.size) (h0 : 240 ≤ (s[p]'hp).toNat) (h1 : (s[p]'hp).toNat ≤ 244) (m1 : mB s (p + 1) = true) (m2 : mB s (p + 2) = true) (m3 : mB s (p + 3) = false) (w : World) :
  Calls Tryz.prog 33 #[.string s, .int .i64 p] w fun e w' => e = .returned (.tuple #[.int .i64 65533, .int .i64 1, .bool true]) ∧ ∃ n, w' = w.drewN n := by
 have hs : s.size ≤ maxLen := by unfold maxLen; omega
 go_enter Tryz.func33, Tryz.ntmps33
 go_wp2_with fail
 refine (more_at s hs (p + 1) _ (by omega) _).mono ?_
 rintro e w' ⟨rfl, rfl⟩
 rw [m1]
 go_wp2_with fail
 refine (more_at s hs (p + 2) _ (by omega) _).mono ?_
 rintro e w' ⟨rfl, rfl⟩
 rw [m2]
 go_wp2_with fail
 refine (more_at s hs (p + 3) _ (by omega) _).mono ?_
 rintro e w' ⟨rfl, rfl⟩
 rw [m3]
 go_wp2
 go_ret3
 exact ⟨rfl, 0, rfl⟩
theorem at_four (s : ByteArray) (hs' : s.size ≤ 140737488355328) (p : Nat) (hp : p < s.size) (h0 : 240 ≤ (s[p]'hp).toNat) (h1 : (s[p]'hp).toNat ≤ 244) (hq : p + 1 < s.size) (k1 : 128 ≤ (s[p + 1]'hq).toNat) (k2 : (s[p + 1]'hq).toNat ≤ 191) (hr : p + 2 < s.size) (k3 : 128 ≤ (s[p + 2]'hr).toNat) (k4 : (s[p + 2]'hr).toNat ≤ 191) (ht : p + 3 < s.size) (k5 : 128 ≤ (s[p + 3]'ht).toNat) (k6 : (s[p + 3]'ht).toNat ≤ 191) (m1 : mB s (p + 1) = true) (m2 : mB s (p + 2) = true) (m3 : mB s (p + 3) = true) (hv : 65536 ≤ (((s[p]'hp).toNat - 240) * 262144 + ((s[p + 1]'hq).toNat - 128) * 4096 + ((s[p + 2]'hr).toNat - 128) * 64 + (s[p + 3]'ht).toNat - 128 : Int) ∧ (((s[p]'hp).toNat - 240) * 262144 + ((s[p + 1]'hq).toNat - 128) * 4096 + ((s[p + 2]'hr).toNat - 128) * 64 + (s[p + 3]'ht).toNat - 128 : Int) ≤ 1114111) (w : World) :
  Calls Tryz.prog 33 #[.string s, .int .i64 p] w fun e w' => e = .returned (.tuple #[.int .i64 (((s[p]'hp).toNat - 240) * 262144 + ((s[p + 1]'hq).toNat - 128) * 4096 + ((s[p + 2]'hr).toNat - 128) * 64 + (s[p + 3]'ht).toNat - 128 : Int), .int .i64 4, .bool false]) ∧ ∃ n, w' = w.drewN n := by
 have hs : s.size ≤ maxLen := by unfold maxLen; omega
 go_enter Tryz.func33, Tryz.ntmps33
 go_wp2_with fail
 refine (more_at s hs (p + 1) _ (by omega) _).mono ?_
 rintro e w' ⟨rfl, rfl⟩
 rw [m1]
 go_wp2_with fail
 refine (more_at s hs (p + 2) _ (by omega) _).mono ?_
 rintro e w' ⟨rfl, rfl⟩
 rw [m2]
 go_wp2_with fail
 refine (more_at s hs (p + 3) _ (by omega) _).mono ?_
 rintro e w' ⟨rfl, rfl⟩
 rw [m3]
 have i1 := idx_any s (p + 1) (p + 1) (by omega) hq
 have i2 := idx_any s (p + 2) (p + 2) (by omega) hr
 have i3 := idx_any s (p + 3) (p + 3) (by omega) ht
 go_wp2_with fail
 go_quiet (fail)
 clear i1 i2 i3
 generalize hrr : (((s[p]'hp).toNat - 240) * 262144 + ((s[p + 1]'hq).toNat - 128) * 4096 + ((s[p + 2]'hr).toNat - 128) * 64 + (s[p + 3]'ht).toNat - 128 : Int) = r at hv ⊢
 have HR : Hid ((((s[p]'hp).toNat - 240) * 262144 + ((s[p + 1]'hq).toNat - 128) * 4096 + ((s[p + 2]'hr).toNat - 128) * 64 + (s[p + 3]'ht).toNat - 128 : Int) = r) := hrr
 clear hrr
 obtain ⟨v1, v2⟩ := hv
 go_wp2
 go_ret3
 exact ⟨congrArg (fun z => Ending.returned (.tuple #[.int .i64 z, .int .i64 4, .bool false])) HR.out.symm, nq, rfl⟩
theorem at_four_bad (s : ByteArray) (hs' : s.size ≤ 140737488355328) (p : Nat) (hp : p < s.size) (h0 : 240 ≤ (s[p]'hp).toNat) (h1 : (s[p]'hp).toNat ≤ 244) (hq : p + 1 < s.size) (k1 : 128 ≤ (s[p + 1]'hq).toNat) (k2 : (s[p + 1]'hq).toNat ≤ 191) (hr : p + 2 < s.size) (k3 : 128 ≤ (s[p + 2]'hr).toNat) (k4 : (s[p + 2]'hr).toNat ≤ 191) (ht : p + 3 < s.size) (k5 : 128 ≤ (s[p + 3]'ht).toNat) (k6 : (s[p + 3]'ht).toNat ≤ 191) (m1 : mB s (p + 1) = true) (m2 : mB s (p + 2) = true) (m3 : mB s (p + 3) = true) (hv : (((s[p]'hp).toNat - 240) * 262144 + ((s[p + 1]'hq).toNat - 128) * 4096 + ((s[p + 2]'hr).toNat - 128) * 64 + (s[p + 3]'ht).toNat - 128 : Int) < 65536 ∨ (65536 ≤ (((s[p]'hp).toNat - 240) * 262144 + ((s[p + 1]'hq).toNat - 128) * 4096 + ((s[p + 2]'hr).toNat - 128) * 64 + (s[p + 3]'ht).toNat - 128 : Int) ∧ 1114111 < (((s[p]'hp).toNat - 240) * 262144 + ((s[p + 1]'hq).toNat - 128) * 4096 + ((s[p + 2]'hr).toNat - 128) * 64 + (s[p + 3]'ht).toNat - 128 : Int))) (w : World) :
  Calls Tryz.prog 33 #[.string s, .int .i64 p] w fun e w' => e = .returned (.tuple #[.int .i64 65533, .int .i64 1, .bool true]) ∧ ∃ n, w' = w.drewN n := by
 have hs : s.size ≤ maxLen := by unfold maxLen; omega
 go_enter Tryz.func33, Tryz.ntmps33
 go_wp2_with fail
 refine (more_at s hs (p + 1) _ (by omega) _).mono ?_
 rintro e w' ⟨rfl, rfl⟩
 rw [m1]
 go_wp2_with fail
 refine (more_at s hs (p + 2) _ (by omega) _).mono ?_
 rintro e w' ⟨rfl, rfl⟩
 rw [m2]
 go_wp2_with fail
 refine (more_at s hs (p + 3) _ (by omega) _).mono ?_
 rintro e w' ⟨rfl, rfl⟩
 rw [m3]
 have i1 := idx_any s (p + 1) (p + 1) (by omega) hq
 have i2 := idx_any s (p + 2) (p + 2) (by omega) hr
 have i3 := idx_any s (p + 3) (p + 3) (by omega) ht
 go_wp2_with fail
 go_quiet (fail)
 clear i1 i2 i3
 generalize (((s[p]'hp).toNat - 240) * 262144 + ((s[p + 1]'hq).toNat - 128) * 4096 + ((s[p + 2]'hr).toNat - 128) * 64 + (s[p + 3]'ht).toNat - 128 : Int) = r at *
 rcases hv with v1 | ⟨v1, v2⟩
 all_goals
  go_wp2
  go_ret3
  exact ⟨rfl, nq, rfl⟩
theorem at_any (s : ByteArray) (hs : s.size ≤ 140737488355328) (p : Nat) (hp : p < s.size) (w : World) :
   Calls Tryz.prog 33 #[.string s, .int .i64 p] w fun e w' => e = .returned (.tuple #[.int .i64 (rn s p), .int .i64 (wdt s p), .bool (looseB s p)]) ∧ ∃ n, w' = w.drewN n := by
 have b0 : by8 s p = (s[p]'hp).toNat := by8_eq s p hp
 have hsh : Utf8.decode s p = Lib.decodeN (s.size - p) (by8 s p) (by8 s (p + 1)) (by8 s (p + 2)) (by8 s (p + 3)) := shape s p
 have hlt : by8 s p < 256 := (s.get! p).toNat_lt
 have loose : Utf8.decode s p = (65533, 1) → (Calls Tryz.prog 33 #[.string s, .int .i64 p] w fun e w' => e = .returned (.tuple #[.int .i64 65533, .int .i64 1, .bool true]) ∧ ∃ n, w' = w.drewN n) →
     Calls Tryz.prog 33 #[.string s, .int .i64 p] w fun e w' => e = .returned (.tuple #[.int .i64 (rn s p), .int .i64 (wdt s p), .bool (looseB s p)]) ∧ ∃ n, w' = w.drewN n := by
   intro hd hc
   have e1 : rn s p = 65533 := by unfold rn; rw [hd]
   have e2 : wdt s p = 1 := by unfold wdt; rw [hd]
   have e3 : looseB s p = true := by unfold looseB; rw [e1, e2]; rfl
   rw [e1, e2, e3]
   exact hc
 have whole : ∀ (r k : Nat) (z : Int), Utf8.decode s p = (r, k) → z = (r : Int) → (r ≠ 65533 ∨ k ≠ 1) → (Calls Tryz.prog 33 #[.string s, .int .i64 p] w fun e w' => e = .returned (.tuple #[.int .i64 z, .int .i64 k, .bool false]) ∧ ∃ n, w' = w.drewN n) →
     Calls Tryz.prog 33 #[.string s, .int .i64 p] w fun e w' => e = .returned (.tuple #[.int .i64 (rn s p), .int .i64 (wdt s p), .bool (looseB s p)]) ∧ ∃ n, w' = w.drewN n := by
   intro r k z hd hz hne hc
   have e1 : rn s p = r := by unfold rn; rw [hd]
   have e2 : wdt s p = k := by unfold wdt; rw [hd]
   have e3 : looseB s p = false := by unfold looseB; rw [e1, e2, decide_eq_false_iff_not]; omega
   rw [e1, e2, e3, ← hz]
   exact hc
 have mn : ∀ k, mB s (p + k) = false → p + k < s.size → by8 s (p + k) < 256 → by8 s (p + k) / 64 ≠ 2 := by
   intro k hm hk hl
   unfold mB at hm
   rw [decide_eq_false_iff_not] at hm
   omega
 have k1 : by8 s (p + 1) < 256 := (s.get! (p + 1)).toNat_lt
 have k2 : by8 s (p + 2) < 256 := (s.get! (p + 2)).toNat_lt
 have k3 : by8 s (p + 3) < 256 := (s.get! (p + 3)).toNat_lt
 by_cases c1 : by8 s p < 128
 · refine whole (by8 s p) 1 ((s[p]'hp).toNat : Int) ?_ (by omega) (by omega) (at_one s hs p hp (by omega) w)
   rw [hsh]; simp [Lib.decodeN, c1]
 by_cases c2 : by8 s p < 194 ∨ 244 < by8 s p
 · refine loose ?_ (at_none s hs p hp (by omega) (by omega) w)
   rw [hsh]
   rcases Lib.decodeN_shape (s.size - p) (by8 s p) (by8 s (p + 1)) (by8 s (p + 2)) (by8 s (p + 3)) with ⟨c, e⟩ | ⟨d1, d2, d3, dv, e⟩ | ⟨d1, d2, d3, d4, dv, ds, e⟩ | ⟨d1, d2, d3, d4, d5, dv, dw, e⟩ | e
   · omega
   · omega
   · omega
   · omega
   · exact e
 have d1 : ¬ by8 s p < 128 := c1
 by_cases c3 : by8 s p ≤ 223
 · cases m1 : mB s (p + 1) with
   | true =>
     obtain ⟨hq, g1, g2⟩ := mB_in m1
     have b1 := by8_eq s (p + 1) hq
     refine whole (by8 s p % 32 * 64 + by8 s (p + 1) % 64) 2 _ ?_ ?_ (by omega) (at_two s hs p hp (by omega) (by omega) hq g1 g2 m1 w)
     · rw [hsh]; unfold Lib.decodeN; rw [if_neg (by omega), if_pos (by omega), if_pos (by omega)]
     · omega
   | false =>
     refine loose ?_ (at_two_no s hs p hp (by omega) (by omega) m1 w)
     have := mn 1 m1
     rw [hsh]; unfold Lib.decodeN; rw [if_neg (by omega), if_neg (by omega), if_neg (by omega), if_neg (by omega)]
 by_cases c4 : by8 s p ≤ 239
 · cases m1 : mB s (p + 1) with
   | false =>
     refine loose ?_ (at_three_no s hs p hp (by omega) (by omega) m1 w)
     have := mn 1 m1
     rw [hsh]; unfold Lib.decodeN; rw [if_neg (by omega), if_neg (by omega), if_neg (by omega), if_neg (by omega)]
   | true =>
     obtain ⟨hq, g1, g2⟩ := mB_in m1
     have b1 := by8_eq s (p + 1) hq
     cases m2 : mB s (p + 2) with
     | false =>
       refine loose ?_ (at_three_no2 s hs p hp (by omega) (by omega) m1 m2 w)
       have := mn 2 m2
       rw [hsh]; unfold Lib.decodeN; rw [if_neg (by omega), if_neg (by omega), if_neg (by omega), if_neg (by omega)]
     | true =>
       obtain ⟨hr, g3, g4⟩ := mB_in m2
       have b2 := by8_eq s (p + 2) hr
       by_cases hv : 2048 ≤ by8 s p % 16 * 4096 + by8 s (p + 1) % 64 * 64 + by8 s (p + 2) % 64 ∧ (by8 s p % 16 * 4096 + by8 s (p + 1) % 64 * 64 + by8 s (p + 2) % 64 < 55296 ∨ 57343 < by8 s p % 16 * 4096 + by8 s (p + 1) % 64 * 64 + by8 s (p + 2) % 64)
       · refine whole (by8 s p % 16 * 4096 + by8 s (p + 1) % 64 * 64 + by8 s (p + 2) % 64) 3 _ ?_ ?_ (by omega) (at_three s hs p hp (by omega) (by omega) hq g1 g2 hr g3 g4 m1 m2 (by omega) w)
         · rw [hsh]; unfold Lib.decodeN; rw [if_neg (by omega), if_neg (by omega), if_pos (by omega), if_pos (by omega)]
         · omega
       · refine loose ?_ (at_three_bad s hs p hp (by omega) (by omega) hq g1 g2 hr g3 g4 m1 m2 (by omega) w)
         rw [hsh]; unfold Lib.decodeN; rw [if_neg (by omega), if_neg (by omega), if_pos (by omega), if_neg (by omega)]
 · cases m1 : mB s (p + 1) with
   | false =>
     refine loose ?_ (at_four_no s hs p hp (by omega) (by omega) m1 w)
     have := mn 1 m1
     rw [hsh]; unfold Lib.decodeN; rw [if_neg (by omega), if_neg (by omega), if_neg (by omega), if_neg (by omega)]
   | true =>
     obtain ⟨hq, g1, g2⟩ := mB_in m1
     have b1 := by8_eq s (p + 1) hq
     cases m2 : mB s (p + 2) with
     | false =>
       refine loose ?_ (at_four_no2 s hs p hp (by omega) (by omega) m1 m2 w)
       have := mn 2 m2
       rw [hsh]; unfold Lib.decodeN; rw [if_neg (by omega), if_neg (by omega), if_neg (by omega), if_neg (by omega)]
     | true =>
       obtain ⟨hr, g3, g4⟩ := mB_in m2
       have b2 := by8_eq s (p + 2) hr
       cases m3 : mB s (p + 3) with
       | false =>
         refine loose ?_ (at_four_no3 s hs p hp (by omega) (by omega) m1 m2 m3 w)
         have := mn 3 m3
         rw [hsh]; unfold Lib.decodeN; rw [if_neg (by omega), if_neg (by omega), if_neg (by omega), if_neg (by omega)]
       | true =>
         obtain ⟨ht, g5, g6⟩ := mB_in m3
         have b3 := by8_eq s (p + 3) ht
         by_cases hv : 65536 ≤ by8 s p % 8 * 262144 + by8 s (p + 1) % 64 * 4096 + by8 s (p + 2) % 64 * 64 + by8 s (p + 3) % 64 ∧ by8 s p % 8 * 262144 + by8 s (p + 1) % 64 * 4096 + by8 s (p + 2) % 64 * 64 + by8 s (p + 3) % 64 ≤ 1114111
         · refine whole (by8 s p % 8 * 262144 + by8 s (p + 1) % 64 * 4096 + by8 s (p + 2) % 64 * 64 + by8 s (p + 3) % 64) 4 _ ?_ ?_ (by omega) (at_four s hs p hp (by omega) (by omega) hq g1 g2 hr g3 g4 ht g5 g6 m1 m2 m3 (by omega) w)
           · rw [hsh]; unfold Lib.decodeN; rw [if_neg (by omega), if_neg (by omega), if_neg (by omega), if_pos (by omega), if_pos (by omega)]
           · omega
         · refine loose ?_ (at_four_bad s hs p hp (by omega) (by omega) hq g1 g2 hr g3 g4 ht g5 g6 m1 m2 m3 (by omega) w)
           rw [hsh]; unfold Lib.decodeN; rw [if_neg (by omega), if_neg (by omega), if_neg (by omega), if_pos (by omega), if_neg (by omega)]
end Go.Proofs.YtmahamdmapbilaaGreatDoor
namespace Go.Proofs.YtmahamdmapbilaaGreatDoor
open Go.RowKit Go.Shelf Go.Lib
end Go.Proofs.YtmahamdmapbilaaGreatDoor
namespace Go.Proofs.YtmahamdmapbilaaGreatDoor
open Go.RowKit Go.Shelf
def runD (s : ByteArray) : Nat → Nat → Nat
 | 0, p => p
 | f + 1, p => if p < s.size ∧ looseB s p = false ∧ (cls (rn s p : Int) = 3 ∨ cls (rn s p : Int) = 4) then runD s f (p + wdt s p) else p
theorem runD_on (s : ByteArray) (f p : Nat) (h : p < s.size) (hl : looseB s p = false) (hc : cls (rn s p : Int) = 3 ∨ cls (rn s p : Int) = 4) : runD s (f + 1) p = runD s f (p + wdt s p) := by rw [runD, if_pos ⟨h, hl, hc⟩]
theorem runD_end (s : ByteArray) (f p : Nat) (h : ¬ (p < s.size ∧ looseB s p = false ∧ (cls (rn s p : Int) = 3 ∨ cls (rn s p : Int) = 4))) : runD s f p = p := by
 cases f with
 | zero => rfl
 | succ f => rw [runD, if_neg h]
def vnatD (v : Value) : Nat := match v with | .int _ n => n.toNat | _ => 0
theorem at_w (s : ByteArray) (hs : s.size ≤ 65536) (p : Nat) (hp : p < s.size) (w : World) : Calls Tryz.prog 33 #[.string s, .int .i64 (p : Int)] w fun e w' => e = .returned (.tuple #[.int .i64 (rn s p), .int .i64 (wdt s p), .bool (looseB s p)]) ∧ Below w.heap.size w w' := by
 refine (at_any s (by omega) p hp w).mono ?_
 rintro e w' ⟨he, n, rfl⟩
 exact ⟨he, ⟨rfl, rfl, rfl, Nat.le_refl _, fun _ _ => rfl⟩⟩
theorem rRun_any (s : ByteArray) (hs : s.size ≤ 65536) (p : Nat) (hp : p ≤ s.size) (w : World) : Calls Tryz.prog 171 #[.string s, .int .i64 (p : Int)] w fun e w' => e = .returned (.int .i64 (runD s s.size p)) ∧ Below w.heap.size w w' := by
 obtain ⟨R, hR⟩ : ∃ R, runD s s.size p = R := ⟨_, rfl⟩
 rw [hR]
 have HR : Hid (runD s s.size p = R) := hR
 clear hR
 go_enter Tryz.func171, Tryz.ntmps171
 go_wp2
 go_loopw [1] (fun i wz => ∃ (k f : Nat), i = .int .i64 (k : Int) ∧ k ≤ s.size ∧ s.size ≤ k + f ∧ Hid (runD s f k = R) ∧ Below w.heap.size w wz) (fun i _ => s.size - vnatD i)
 case atStart => exact ⟨p, s.size, rfl, hp, by omega, HR, Below.refl _ _⟩
 case round =>
  obtain ⟨k, f, rfl, hk, hf, HK, hbw⟩ := hrel
  by_cases hkl : k < s.size
  · obtain ⟨g, rfl⟩ : ∃ g, f = g + 1 := ⟨f - 1, by omega⟩
    have hat := at_w s hs k hkl
    have hwp := wdt_pos s k
    have hwl := wdt_le s k hkl
    have hcl := refClass_any (rn s k : Int)
    have hki : (k : Int) < (s.size : Int) := by omega
    by_cases hc : looseB s k = false ∧ (cls (rn s k : Int) = 3 ∨ cls (rn s k : Int) = 4)
    · have HN : Hid (runD s g (k + wdt s k) = R) := by show runD s g (k + wdt s k) = R; rw [← HK.out, runD_on s g k hkl hc.1 hc.2]
      rw [hc.1] at hat
      obtain ⟨_, hc⟩ := hc
      generalize cls (rn s k : Int) = C at *
      generalize rn s k = r at *
      clear HK HR
      rcases hc with rfl | rfl
      all_goals
       go_wp2_with (first | (go_at_call 33; (with_reducible refine (hat _).mono ?_); rintro e u1 ⟨rfl, hb1⟩) | (go_at_call 34; (with_reducible refine (hcl _).mono ?_); rintro e u2 ⟨rfl, rfl⟩))
       go_roundw
       case rel => exact ⟨k + wdt s k, g, by push_cast; rfl, hwl, by omega, HN, hbw.trans (hb1.mono hbw.size)⟩
       case measure => simp [vnatD]; omega
    · have HE : Hid (R = k) := by
       show R = k
       rw [← HK.out]
       exact runD_end s _ k (fun h => hc h.2)
      clear HK HR
      cases hlo : looseB s k with
      | true =>
       rw [hlo] at hat
       generalize cls (rn s k : Int) = C at *
       generalize rn s k = r at *
       clear hc hlo
       go_wp2_with (first | (go_at_call 33; (with_reducible refine (hat _).mono ?_); rintro e u1 ⟨rfl, hb1⟩) | (go_at_call 34; (with_reducible refine (hcl _).mono ?_); rintro e u2 ⟨rfl, rfl⟩))
       go_ret
       rw [HE.out]
       exact ⟨rfl, hbw.trans (hb1.mono hbw.size)⟩
      | false =>
       rw [hlo] at hat
       have h3 : ¬ cls (rn s k : Int) = 3 := fun e => hc ⟨hlo, .inl e⟩
       have h4 : ¬ cls (rn s k : Int) = 4 := fun e => hc ⟨hlo, .inr e⟩
       generalize cls (rn s k : Int) = C at *
       generalize rn s k = r at *
       have h34 : (C != 3 && C != 4) = true := by simp [h3, h4]
       clear hc hlo
       go_wp2_with (first | (go_at_call 33; (with_reducible refine (hat _).mono ?_); rintro e u1 ⟨rfl, hb1⟩) | (go_at_call 34; (with_reducible refine (hcl _).mono ?_); rintro e u2 ⟨rfl, rfl⟩))
       go_ret
       rw [HE.out]
       exact ⟨rfl, hbw.trans (hb1.mono hbw.size)⟩
  · have HE : Hid (R = k) := by
      show R = k
      rw [← HK.out]
      exact runD_end s _ k (fun h => hkl h.1)
    clear HK HR
    go_wp2
    go_ret
    rw [HE.out]
    exact ⟨rfl, hbw⟩
end Go.Proofs.YtmahamdmapbilaaGreatDoor
