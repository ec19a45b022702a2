/- Words joined; tell.newsText. -/
import Derived.Test.YtnkpohkodkjkfaaGreatDoorJpJ0
import Derived.Test.YtnkpohkodkjkfaaGreatDoorJpJ34
import Derived.Test.YtnkpohkodkjkfaaGreatDoorJpJ17
import Derived.Test.YtnkpohkodkjkfaaGreatDoorJpJ31
import Derived.Test.YtnkpohkodkjkfaaGreatDoorJpJ26
set_option maxHeartbeats 40000000
set_option maxRecDepth 100000
set_option linter.unusedVariables false
namespace Go.Proofs.YtnkpohkodkjkfaaGreatDoor
open Go.RowKit Go.Shelf Go.Lib

theorem extra156 : Builder.Extra Tryz.prog ren156 := {
  sizeBuilder := by kernel_rfl
  liesBuilder := by kernel_rfl
  t5 := Tryz.underlying5
  a5 := Tryz.isAgg5
  z5 := Tryz.sizeOf5
  v5 := Tryz.zeroValue5
  infoByte := by kernel_rfl
  cellsByte := by kernel_rfl
  sizeByte := by kernel_rfl
  neB5 := by decide }
/-- Words, a blank between. -/
def jnB (xs : List ByteArray) : ByteArray := ⟨(Lib.join (xs.map (·.data.toList)) [32]).toArray⟩
/-- A list of texts in memory. -/
def RdX (W : World) (ad : Option Addr) (xs : List ByteArray) : Prop := xs ≠ [] → ∃ b off, ad = some ⟨b, off, none⟩ ∧ b < W.heap.size ∧ ∀ (j : Nat) x, xs[j]? = some x → W.cell? ⟨b, off + j, none⟩ = some (.string x)
theorem join_any (ad : Option Addr) (c : Nat) (xs : List ByteArray) (w : World) (h : RdX w ad xs) (hc : xs.length ≤ c) (hN : xs.length ≤ 100000) (hlen : (jnB xs).size ≤ 140737488355328) : Calls Tryz.prog 71 #[.slice ad xs.length c, .string ⟨#[32]⟩] w fun e w' => e = .returned (.string (jnB xs)) ∧ Below w.heap.size w w' := by
  by_cases hx : xs = []
  · subst hx
    refine (Any.strings_Join_none lays156 extra156 ad c ⟨#[32]⟩ w).mono ?_
    rintro e w' ⟨rfl, rfl⟩
    exact ⟨rfl, Below.refl _ _⟩
  · obtain ⟨b, off, rfl, h1, h2⟩ := h hx
    exact Any.strings_Join lays156 extra156 b off c xs ⟨#[32]⟩ w h2 h1 (by omega) hc (by have : (jnB xs).size = (Lib.join (xs.map (·.data.toList)) [32]).length := by show (Lib.join _ _).toArray.size = _; simp
                                                                                         rw [this] at hlen; exact hlen)
/-- The text of a notice. -/
def ntT (L : List Int) (x : N3t) : ByteArray := prT (L.getD x.1.toNat 0) x.2.1 x.2.2
theorem ntT_data (L : List Int) (x : N3t) : (ntT L x).data.toList = wr (pcR (ntP L x)) := by
  unfold ntT ntP sgP mkP nuP
  rw [prT_data, pcR, pcR, pcR, pcR, List.append_nil, wr_append, wr_append, wr_one]
  have e : wr (dgR x.2.1.toNat) = decDigits x.2.1.toNat := wr_asc _ (fun b hb => by have := (dec_spec _).1 b hb; unfold dgt at this; omega)
  rw [e]
  congr 1
  congr 1
  unfold mkI
  split <;> kernel_rfl
theorem join_ns (L : List Int) : ∀ ns : List N3t, Lib.join ((ns.map (ntT L)).map (·.data.toList)) [32] = wr (pcR (nsP L ns))
  | [] => rfl
  | [x] => by rw [List.map_cons, List.map_nil, List.map_cons, List.map_nil, Lib.join_one, ntT_data]; rfl
  | x :: y :: ns => by
    have ih := join_ns L (y :: ns)
    rw [nsP, pcR_app, wr_append, ← ntT_data]
    have e : pcR (blP :: nsP L (y :: ns)) = [32] ++ pcR (nsP L (y :: ns)) := rfl
    rw [e, wr_append, ← ih]
    have e2 : wr [32] = [32] := by kernel_rfl
    rw [e2]
    rw [List.map_cons, List.map_cons, List.map_cons, List.map_cons, Lib.join_cons, Lib.join_cons, Lib.joinTail, List.map_cons, List.flatten_cons, Lib.joinTail]
    simp
theorem jn_ns (L : List Int) (ns : List N3t) : jnB (ns.map (ntT L)) = txt (pcR (nsP L ns)) := by
  unfold jnB txt
  rw [join_ns]
/-- The text of the news. -/
def nwT (L : List Int) (ns : List N3t) : ByteArray := txt (pcR (newsP L ns))
theorem nwT_eq (L : List Int) (ns : List N3t) : (⟨#[91]⟩ : ByteArray) ++ jnB (ns.map (ntT L)) ++ ⟨#[93]⟩ = nwT L ns := by
  apply ByteArray.ext
  apply Array.toList_inj.1
  unfold nwT newsP
  rw [jn_ns, ByteArray.data_append, ByteArray.data_append, Array.toList_append, Array.toList_append, txt_data, txt_data]
  have e : pcR (mkP 91 :: (nsP L ns ++ [mkP 93])) = [91] ++ (pcR (nsP L ns) ++ [93]) := by
    show [91] ++ pcR (nsP L ns ++ [mkP 93]) = _
    rw [pcR_app]
    rfl
  rw [e, wr_append, wr_append]
  have e1 : wr [91] = [91] := by kernel_rfl
  have e2 : wr [93] = [93] := by kernel_rfl
  rw [e1, e2]
  simp

theorem infoSt : (Tryz.prog.info? 9).map (fun i => (i.zero, i.size, i.bytes)) = some (some (.string ⟨#[]⟩), 1, 16) := by kernel_rfl
theorem mk_strs (n : Nat) (hn : n ≤ 100000) (W : World) : (Instr.makeSlice 125 (.int .i64 (n : Int)) (.int .i64 (n : Int))).run Tryz.prog W = .ok (.slice (some ⟨W.heap.size, 0, none⟩) n n) (W.alloc (.cells (List.replicate n (.string ⟨#[]⟩)).toArray 9)) := by
  have hi := infoSt
  cases hx : Tryz.prog.info? 9 with
  | none => rw [hx] at hi; cases hi
  | some ic =>
    rw [hx] at hi
    simp only [Option.map_some, Option.some.injEq, Prod.mk.injEq] at hi
    obtain ⟨hz0, hz1, hz2⟩ := hi
    have h := run_make (P := Tryz.prog) W 125 9 ic _ Tryz.underlying125 hx hz0 .i64 .i64 (n : Int) (n : Int) (by omega) (Int.le_refl _) (by rw [hz2]; omega) (by omega)
    rw [h, hz1]
    have e : madeCells (Value.string ⟨#[]⟩).cells (((n : Int).toNat) * 1) = (List.replicate n (.string ⟨#[]⟩)).toArray := by
      apply Array.toList_inj.1
      have := toList_madeCells_one (.string ⟨#[]⟩) n
      simpa [Value.cells] using this
    rw [e, Int.toNat_natCast]
/-- The texts, while they are made. -/
def rC (L : List Int) (ns : List N3t) (k : Nat) : List Value := (ns.take k).map (fun x => .string (ntT L x)) ++ List.replicate (ns.length - k) (.string ⟨#[]⟩)
theorem rC_len (L : List Int) (ns : List N3t) (k : Nat) (h : k ≤ ns.length) : (rC L ns k).length = ns.length := by
  unfold rC
  rw [List.length_append, List.length_map, List.length_take, List.length_replicate]
  omega
theorem rC_set (L : List Int) (ns : List N3t) (k : Nat) (x : N3t) (h : ns[k]? = some x) : (rC L ns k).set k (.string (ntT L x)) = rC L ns (k + 1) := by
  have hk := (List.getElem?_eq_some_iff.1 h).1
  unfold rC
  rw [List.set_append_right _ _ (by rw [List.length_map, List.length_take]; omega), List.length_map, List.length_take, show k - min k ns.length = 0 by omega, List.take_add_one, h, List.map_append, List.append_assoc]
  congr 1
  obtain ⟨m, hm⟩ : ∃ m, ns.length - k = m + 1 := ⟨ns.length - k - 1, by omega⟩
  rw [hm, show ns.length - (k + 1) = m by omega, List.replicate_succ, List.set_cons_zero]
  rfl
theorem rC_all (L : List Int) (ns : List N3t) : rC L ns ns.length = ns.map (fun x => .string (ntT L x)) := by
  unfold rC
  rw [List.take_length, Nat.sub_self]
  simp
theorem set_arr (l : List Value) (k : Nat) (v : Value) : l.toArray.setIfInBounds k v = (l.set k v).toArray := by simp
theorem nw_short {L : List Int} {ns : List N3t} (hv : ∀ x ∈ ns, vN L x) (hn : ns.length ≤ 1000) : (jnB (ns.map (ntT L))).size ≤ 100000 := by
  rw [jn_ns, txt_sz]
  have := wr_ns ns [] hv
  rw [List.append_nil] at this
  have e : (wr (pcR [])).length = 0 := rfl
  omega
set_option maxHeartbeats 8000000 in
set_option maxRecDepth 100000 in
theorem newsText_any {M : Nat} {sl mp : Value} {L : List Int} {w : World} (hR : Ros M w (.agg #[sl, mp]) L) (hM : M ≤ w.heap.size) (hP : Pow w) (ad : Option Addr) (cap : Nat) (ns : List N3t) (hr : RdN w ad ns) (hv : ∀ x ∈ ns, vN L x) (hn : ns.length ≤ 1000) : Calls Tryz.prog 70 #[.agg #[sl, mp], .slice ad ns.length cap] w fun e w' => e = .returned (.string (nwT L ns)) ∧ Below w.heap.size w w' := by
  obtain ⟨n, hN⟩ : ∃ n, ns.length = n := ⟨_, rfl⟩
  have HN : Hid (ns.length = n) := hN
  have hmk := mk_strs n (by omega)
  have hshort := nw_short hv hn
  have HTX := nwT_eq L ns
  rw [hN] at hn ⊢
  obtain ⟨W1, hW1⟩ : ∃ W1, w.alloc (.cells #[sl, mp] 33) = W1 := ⟨_, rfl⟩
  have hb1 : Below w.heap.size w W1 := by rw [← hW1]; exact al1t _ _
  have r1 : W1.heap[w.heap.size]? = some (.cells #[sl, mp] 33 (0, 0)) := by rw [← hW1]; exact new_at rfl
  obtain ⟨W2, hW2⟩ : ∃ W2, W1.alloc (.cells (List.replicate n (.string ⟨#[]⟩)).toArray 9) = W2 := ⟨_, rfl⟩
  have hb2 : Below W1.heap.size W1 W2 := by rw [← hW2]; exact al1t _ _
  have r2 : W2.heap[W1.heap.size]? = some (.cells (List.replicate n (.string ⟨#[]⟩)).toArray 9 (0, 0)) := by rw [← hW2]; exact new_at rfl
  have HR2 : Hid (W2.heap[W1.heap.size]? = some (.cells (rC L ns 0).toArray 9 (0, 0))) := by
    show W2.heap[W1.heap.size]? = _
    rw [r2]
    unfold rC
    rw [HN.out]
    simp
  have hmk1 := hmk W1
  rw [hW2] at hmk1
  have hb02 := bel3 hb1 hb2
  have r12 := (hb2.block _ (lt_at r1)).trans r1
  have HPR : Hid (∀ (k : Nat) (o t q : Int), ns[k]? = some (o, t, q) → ∀ V, Below w.heap.size w V → Calls Tryz.prog 93 #[.agg #[sl, mp], .agg #[.int .i64 o, .int .i64 t, .int .i64 q]] V fun e w' => e = .returned (.tuple #[.string (ntT L (o, t, q)), .int .i64 0]) ∧ Below V.heap.size V w') := fun k o t q hk V hV => by
    have h1 := hv _ (List.mem_of_getElem? hk)
    have := nprint_any V (hR.below (hV.mono hM)) (Nat.le_trans hM hV.size) o t q (hP.carry hV)
    unfold prV at this
    unfold vN at h1
    rw [if_pos h1] at this
    exact this
  have HRD : Hid (RdN w ad ns) := hr
  have hs1 := hb1.size
  have hl1 := lt_at r1
  have hl2 := lt_at r2
  clear hR hP hr hv hN r1 r2 hb1 hb2 hmk
  go_enter Tryz.func70, Tryz.ntmps70
  go_wp2
  go_loopw [13] (fun i wz => ∃ (k : Nat), i = .int .i64 (k : Int) ∧ k ≤ n ∧ wz.heap[w.heap.size]? = some (.cells #[sl, mp] 33 (0, 0)) ∧ wz.heap[W1.heap.size]? = some (.cells (rC L ns k).toArray 9 (0, 0)) ∧ Below w.heap.size w wz) (fun i _ => n - vnatR i)
  case atStart => exact ⟨0, rfl, Nat.zero_le _, r12, HR2.out, hb02⟩
  case round =>
    obtain ⟨k, rfl, hk, hro, hrow, hbw⟩ := hrel
    have hsw := hbw.size
    have hgl := lt_at hrow
    have c0 : wr.cell? ⟨w.heap.size, 0, none⟩ = some sl := (cell_at hro 0).trans rfl
    have c1 : wr.cell? ⟨w.heap.size, 1, none⟩ = some mp := (cell_at hro 1).trans rfl
    by_cases hkl : k < n
    · have hki : (k : Int) < (n : Int) := by omega
      obtain ⟨⟨o, t, q⟩, hoq⟩ : ∃ x, ns[k]? = some x := ⟨_, List.getElem?_eq_getElem (by rw [HN.out]; exact hkl)⟩
      obtain ⟨b, off, rfl, hbl, hat⟩ := HRD.out (fun e => by rw [e] at hoq; simp at hoq)
      obtain ⟨x0, x1, x2⟩ := hat k _ hoq
      have y0 := (hbw.cell (p := ⟨b, off + k * 3, none⟩) hbl).trans x0
      have y1 := (hbw.cell (p := ⟨b, off + k * 3 + 1, none⟩) hbl).trans x1
      have y2 := (hbw.cell (p := ⟨b, off + k * 3 + 2, none⟩) hbl).trans x2
      have HPV := HPR.out k o t q hoq
      have HST : Hid ((rC L ns k).set k (.string (ntT L (o, t, q))) = rC L ns (k + 1)) := rC_set L ns k _ hoq
      have hlen := rC_len L ns k (by rw [HN.out]; exact hk)
      rw [HN.out] at hlen
      generalize rC L ns k = C at *
      clear x0 x1 x2 hat hoq HR2 HPR
      dsimp only at y0 y1 y2
      obtain ⟨V1, hV1⟩ : ∃ V1, wr.alloc (.cells #[.int .i64 o, .int .i64 t, .int .i64 q] 99) = V1 := ⟨_, rfl⟩
      have hv1 : Below wr.heap.size wr V1 := by rw [← hV1]; exact al1t _ _
      have hwv := bel3 hbw hv1
      have s1 : V1.heap[wr.heap.size]? = some (.cells #[.int .i64 o, .int .i64 t, .int .i64 q] 99 (0, 0)) := by rw [← hV1]; exact new_at rfl
      have d0 : V1.cell? ⟨wr.heap.size, 0, none⟩ = some (.int .i64 o) := (cell_at s1 0).trans rfl
      have d1 : V1.cell? ⟨wr.heap.size, 1, none⟩ = some (.int .i64 t) := (cell_at s1 1).trans rfl
      have d2 : V1.cell? ⟨wr.heap.size, 2, none⟩ = some (.int .i64 q) := (cell_at s1 2).trans rfl
      have e0 : V1.cell? ⟨w.heap.size, 0, none⟩ = some sl := (hv1.cell (p := ⟨w.heap.size, 0, none⟩) (by simp; omega)).trans c0
      have e1 : V1.cell? ⟨w.heap.size, 1, none⟩ = some mp := (hv1.cell (p := ⟨w.heap.size, 1, none⟩) (by simp; omega)).trans c1
      go_wp2_with (go_at_call 93; (with_reducible refine (HPV V1 hwv).mono ?_); rintro e V2 ⟨rfl, hv2⟩; (have hrow2 := (hv2.block _ (by have := hv1.size; omega)).trans ((hv1.block _ hgl).trans hrow)); (have hro2 := (hv2.block _ (by have := hv1.size; omega)).trans ((hv1.block _ (by omega)).trans hro)); (have f1 := cell_at hrow2 k); (have f2 := thaw_at hrow2 k); rw [List.getElem?_toArray, List.getElem?_eq_getElem (by omega)] at f1)
      go_roundw
      case rel =>
        have hb2' := bel3 hwv hv2
        refine ⟨k + 1, by simp, by omega, (Below.heap_setCell _ _ _ _ (by show w.heap.size ≠ W1.heap.size; omega)).trans hro2, ?_, hb2'.setCell (p := ⟨W1.heap.size, k, none⟩) (by show w.heap.size ≤ W1.heap.size; omega) _⟩
        rw [heap_setCell_same _ _ k _ _ _ hrow2, set_arr, HST.out]
      case measure => simp [vnatR]; omega
    · have hkk : k = n := by omega
      subst hkk
      have hki : ¬ ((k : Int) < (k : Int)) := by omega
      have hX : RdX wr (some ⟨W1.heap.size, 0, none⟩) (ns.map (ntT L)) := fun _ => ⟨W1.heap.size, 0, rfl, hgl, fun j x hj => by
        rw [Nat.zero_add, cell_at hrow j, ← HN.out, rC_all, List.getElem?_toArray, List.getElem?_map]
        rw [List.getElem?_map] at hj
        cases hy : ns[j]? with
        | none => rw [hy] at hj; cases hj
        | some y => rw [hy] at hj; cases hj; rfl⟩
      have hJN := join_any (some ⟨W1.heap.size, 0, none⟩) k (ns.map (ntT L)) wr hX (by rw [List.length_map, HN.out]; omega) (by rw [List.length_map, HN.out]; omega) (by omega)
      rw [List.length_map, HN.out] at hJN
      have hj1 : (jnB (ns.map (ntT L))).size + 1 ≤ 9223372036854775807 := by omega
      generalize jnB (ns.map (ntT L)) = T at *
      have a1 : (⟨#[91]⟩ : ByteArray).size + T.size ≤ 9223372036854775807 := by have : (⟨#[91]⟩ : ByteArray).size = 1 := rfl; omega
      have a2 : ((⟨#[91]⟩ : ByteArray) ++ T).size + (⟨#[93]⟩ : ByteArray).size ≤ 9223372036854775807 := by
        have e1 : (⟨#[91]⟩ : ByteArray).size = 1 := rfl
        have e2 : (⟨#[93]⟩ : ByteArray).size = 1 := rfl
        rw [ByteArray.size_append]; omega
      clear hX HR2 HPR HRD hrow hro
      go_wp2_with (go_at_call 71; (with_reducible refine hJN.mono ?_); rintro e V2 ⟨rfl, hv2⟩)
      go_ret
      exact ⟨rfl, bel3 hbw hv2⟩
end Go.Proofs.YtnkpohkodkjkfaaGreatDoor
namespace Go.Proofs.YtnkpohkodkjkfaaGreatDoor
open Go.RowKit Go.Shelf

/-- A note's fields, as a value and as they lie. -/
def fcs (kd : Nat) (fr rd : Int) (N : Nat) (v : Value) : Array Value := #[.int .i64 (kd : Int), .int .i64 fr, .int .i64 rd, .int .u32 (wd N 0 : Nat), .int .u32 (wd N 1 : Nat), .int .u32 (wd N 2 : Nat), .int .u32 (wd N 3 : Nat), v]
def fv (kd : Nat) (fr rd : Int) (N : Nat) (v : Value) : Value := .agg (fcs kd fr rd N v)
def FB (W : World) (b kd : Nat) (fr rd : Int) (N : Nat) (v : Value) : Prop := W.heap[b]? = some (.cells (fcs kd fr rd N v) 234 (0, 0))
theorem FB.carry {W W' : World} {b kd : Nat} {fr rd : Int} {N : Nat} {v : Value} (h : FB W b kd fr rd N v) (e : W'.heap[b]? = W.heap[b]?) : FB W' b kd fr rd N v := e.trans h
theorem FB.below {W W' : World} {b kd B : Nat} {fr rd : Int} {N : Nat} {v : Value} (h : FB W b kd fr rd N v) (hb : Below B W W') (hB : b < B) : FB W' b kd fr rd N v := h.carry (hb.block b hB)
theorem FB.lt {W : World} {b kd : Nat} {fr rd : Int} {N : Nat} {v : Value} (h : FB W b kd fr rd N v) : b < W.heap.size := lt_at h
theorem FB.cells {W : World} {b kd : Nat} {fr rd : Int} {N : Nat} {v : Value} (h : FB W b kd fr rd N v) : W.cell? ⟨b, 0, none⟩ = some (.int .i64 (kd : Int)) ∧ W.cell? ⟨b, 1, none⟩ = some (.int .i64 fr) ∧ W.cell? ⟨b, 2, none⟩ = some (.int .i64 rd) ∧ W.cell? ⟨b, 3, none⟩ = some (.int .u32 (wd N 0 : Nat)) ∧ W.cell? ⟨b, 4, none⟩ = some (.int .u32 (wd N 1 : Nat)) ∧ W.cell? ⟨b, 5, none⟩ = some (.int .u32 (wd N 2 : Nat)) ∧ W.cell? ⟨b, 6, none⟩ = some (.int .u32 (wd N 3 : Nat)) ∧ W.cell? ⟨b, 7, none⟩ = some v :=
  ⟨cell_ofQ h 0, cell_ofQ h 1, cell_ofQ h 2, cell_ofQ h 3, cell_ofQ h 4, cell_ofQ h 5, cell_ofQ h 6, cell_ofQ h 7⟩
theorem al1' (w : World) (o : Obj) : Below w.heap.size w (w.alloc o) := alloc_below w o
set_option maxHeartbeats 2000000 in
set_option maxRecDepth 100000 in
theorem fault_any (kd : Nat) (n fr rd : Int) (N : Nat) (hN : N < S128) (ad : Option Addr) (cap : Nat) (l : List (Int × Int × Int)) (w : World) (h : RdN w ad l) (hl : l.length ≤ 6000000000000) : Calls Tryz.prog 181 #[fv kd fr rd N (.slice ad l.length cap), .int .i64 n] w fun e w' => e = .returned (.int .i64 (flt kd n fr rd N l)) ∧ Below w.heap.size w w' := by
  have hsz := isSize_any n
  have hro := hasRound_any kd
  have hir := isRound_any rd
  have hwi := within_any N hN n
  have hri := rising_any n ad cap l
  simp only [fv, fcs, sv] at *
  have hF0 : FB (w.alloc (.cells #[.int .i64 (kd : Int), .int .i64 fr, .int .i64 rd, .int .u32 (wd N 0 : Nat), .int .u32 (wd N 1 : Nat), .int .u32 (wd N 2 : Nat), .int .u32 (wd N 3 : Nat), .slice ad l.length cap] 234)) w.heap.size kd fr rd N (.slice ad l.length cap) := get_newQ rfl
  obtain ⟨W0, hW0⟩ : ∃ W0, w.alloc (.cells #[.int .i64 (kd : Int), .int .i64 fr, .int .i64 rd, .int .u32 (wd N 0 : Nat), .int .u32 (wd N 1 : Nat), .int .u32 (wd N 2 : Nat), .int .u32 (wd N 3 : Nat), .slice ad l.length cap] 234) = W0 := ⟨_, rfl⟩
  have hbW : Below w.heap.size w W0 := hW0 ▸ al1' w _
  rw [hW0] at hF0
  by_cases h1 : 1 ≤ n ∧ n ≤ 100
  case neg =>
    rw [show flt kd n fr rd N l = 1 from if_pos h1]
    rw [decide_eq_false h1] at hsz
    go_enter Tryz.func181, Tryz.ntmps181
    go_wp2_with (go_at_call 187; (with_reducible refine (hsz _).mono ?_); rintro e u1 ⟨rfl, rfl⟩)
    go_ret
    exact ⟨rfl, hbW⟩
  have e1 : flt kd n fr rd N l = if fr < 0 ∨ n ≤ fr then 72 else if kd ≠ 3 ∧ ¬ (1 ≤ rd ∧ rd ≤ 1099511627775) then 73 else if wthB N n = false then 74 else if ris n (-1) l = false then 75 else 0 := if_neg (fun q => q h1)
  rw [decide_eq_true h1] at hsz
  rw [e1]
  clear e1
  obtain ⟨c0, c1, c2, c3, c4, c5, c6, c7⟩ := hF0.cells
  by_cases h2 : fr < 0
  · rw [if_pos (.inl h2)]
    go_enter Tryz.func181, Tryz.ntmps181
    go_wp2_with (go_at_call 187; (with_reducible refine (hsz _).mono ?_); rintro e u1 ⟨rfl, rfl⟩)
    go_ret
    exact ⟨rfl, hbW⟩
  by_cases h3 : n ≤ fr
  · rw [if_pos (.inr h3)]
    go_enter Tryz.func181, Tryz.ntmps181
    go_wp2_with (go_at_call 187; (with_reducible refine (hsz _).mono ?_); rintro e u1 ⟨rfl, rfl⟩)
    go_ret
    exact ⟨rfl, hbW⟩
  rw [if_neg (by omega)]
  by_cases h4 : kd ≠ 3 ∧ ¬ (1 ≤ rd ∧ rd ≤ 1099511627775)
  · rw [if_pos h4]
    rw [decide_eq_true h4.1] at hro
    rw [decide_eq_false h4.2] at hir
    go_enter Tryz.func181, Tryz.ntmps181
    go_wp2_with (first | (go_at_call 187; (with_reducible refine (hsz _).mono ?_); rintro e u1 ⟨rfl, rfl⟩) | (go_at_call 183; (with_reducible refine (hro _).mono ?_); rintro e u1 ⟨rfl, rfl⟩) | (go_at_call 188; (with_reducible refine (hir _).mono ?_); rintro e u1 ⟨rfl, rfl⟩))
    go_ret
    exact ⟨rfl, hbW⟩
  rw [if_neg h4]
  have hwi' : ∀ W, Below w.heap.size w W → FB W w.heap.size kd fr rd N (.slice ad l.length cap) → Calls Tryz.prog 75 #[.agg #[.int .u32 (wd N 0 : Nat), .int .u32 (wd N 1 : Nat), .int .u32 (wd N 2 : Nat), .int .u32 (wd N 3 : Nat)], .int .i64 n] W fun e w' => e = .returned (.bool (wthB N n)) ∧ Below w.heap.size w w' ∧ w'.cell? ⟨w.heap.size, 7, none⟩ = some (.slice ad l.length cap) ∧ RdN w' ad l := fun W hW hF => (hwi W).mono (by
    rintro e w' ⟨rfl, hb⟩
    exact ⟨rfl, bel2 hW hb, (hF.below hb hF.lt).cells.2.2.2.2.2.2.2, h.carry (bel2 hW hb)⟩)
  have hwi2 := hwi' W0 hbW hF0
  by_cases h5 : wthB N n = false
  · rw [if_pos h5]
    rw [h5] at hwi2
    by_cases hk : kd = 3
    · rw [decide_eq_false (fun q : kd ≠ 3 => q hk)] at hro
      clear h4 hk
      go_enter Tryz.func181, Tryz.ntmps181
      go_wp2_with (first | (go_at_call 187; (with_reducible refine (hsz _).mono ?_); rintro e u1 ⟨rfl, rfl⟩) | (go_at_call 183; (with_reducible refine (hro _).mono ?_); rintro e u1 ⟨rfl, rfl⟩) | (go_at_call 75; (with_reducible refine hwi2.mono ?_); rintro e u2 ⟨rfl, hb2, d7, hl2⟩))
      go_ret
      exact ⟨rfl, hb2⟩
    · have hir2 : 1 ≤ rd ∧ rd ≤ 1099511627775 := Classical.byContradiction fun q => h4 ⟨hk, q⟩
      rw [decide_eq_true hir2] at hir
      rw [decide_eq_true hk] at hro
      go_enter Tryz.func181, Tryz.ntmps181
      go_wp2_with (first | (go_at_call 187; (with_reducible refine (hsz _).mono ?_); rintro e u1 ⟨rfl, rfl⟩) | (go_at_call 183; (with_reducible refine (hro _).mono ?_); rintro e u1 ⟨rfl, rfl⟩) | (go_at_call 188; (with_reducible refine (hir _).mono ?_); rintro e u1 ⟨rfl, rfl⟩) | (go_at_call 75; (with_reducible refine hwi2.mono ?_); rintro e u2 ⟨rfl, hb2, d7, hl2⟩))
      go_ret
      exact ⟨rfl, hb2⟩
  have h5t : wthB N n = true := by simpa using h5
  rw [if_neg h5]
  rw [h5t] at hwi2
  obtain ⟨B, hB⟩ : ∃ B, ris n (-1) l = B := ⟨_, rfl⟩
  rw [hB] at hri
  rw [hB]
  clear hB hwi hwi'
  by_cases hk : kd = 3
  · rw [decide_eq_false (fun q : kd ≠ 3 => q hk)] at hro
    clear h4 hk
    cases B
    all_goals
      go_enter Tryz.func181, Tryz.ntmps181
      go_wp2_with (first | (go_at_call 187; (with_reducible refine (hsz _).mono ?_); rintro e u1 ⟨rfl, rfl⟩) | (go_at_call 183; (with_reducible refine (hro _).mono ?_); rintro e u1 ⟨rfl, rfl⟩) | (go_at_call 75; (with_reducible refine hwi2.mono ?_); rintro e u2 ⟨rfl, hb2, d7, hl2⟩) | (go_at_call 189; (with_reducible refine (hri _ hl2 hl).mono ?_); rintro e u3 ⟨rfl, hb3⟩))
      go_ret
      exact ⟨rfl, bel2 hb2 hb3⟩
  · have hir2 : 1 ≤ rd ∧ rd ≤ 1099511627775 := Classical.byContradiction fun q => h4 ⟨hk, q⟩
    rw [decide_eq_true hir2] at hir
    rw [decide_eq_true hk] at hro
    cases B
    all_goals
      go_enter Tryz.func181, Tryz.ntmps181
      go_wp2_with (first | (go_at_call 187; (with_reducible refine (hsz _).mono ?_); rintro e u1 ⟨rfl, rfl⟩) | (go_at_call 183; (with_reducible refine (hro _).mono ?_); rintro e u1 ⟨rfl, rfl⟩) | (go_at_call 188; (with_reducible refine (hir _).mono ?_); rintro e u1 ⟨rfl, rfl⟩) | (go_at_call 75; (with_reducible refine hwi2.mono ?_); rintro e u2 ⟨rfl, hb2, d7, hl2⟩) | (go_at_call 189; (with_reducible refine (hri _ hl2 hl).mono ?_); rintro e u3 ⟨rfl, hb3⟩))
      go_ret
      exact ⟨rfl, bel2 hb2 hb3⟩
end Go.Proofs.YtnkpohkodkjkfaaGreatDoor
