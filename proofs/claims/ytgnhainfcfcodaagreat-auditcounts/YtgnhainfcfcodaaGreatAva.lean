/- audit.Lives, and the document's: what they answer. -/
import Derived.Test.YtgnhainfcfcodaaGreatAuj
import Derived.Test.YtgnhainfcfcodaaGreatKpInts
namespace Go.Proofs.YtgnhainfcfcodaaGreat
open Go.RowKit Go.Shelf Go.Lib
attribute [local go_sem] Oper.semAt_some

theorem wpList_load_run {P : Program} {ops : Array Oper} {rest : List Oper} {o : Oper} {a : Act} {w : World} {Q : Exit → Act → World → Prop} (hgd : o.guard = none) (ty : TypeId) (x : Operand) (ho : o.op = .load ty x) (p val : Value) (hx : a.eval x = p) (hr : (Instr.loadAt ty p).run P w = .ok val w) (h : wpList P ops Q rest (a.put o.dst val) w) : wpList P ops Q (o :: rest) a w :=
  wpList_plain hgd fun K hK => by
    unfold Oper.wp
    simp [execOp, ho, hx, hr, Result.andThen]
    exact hK _ _ h
theorem wpList_store_run {P : Program} {ops : Array Oper} {rest : List Oper} {o : Oper} {a : Act} {w V : World} {Q : Exit → Act → World → Prop} (hgd : o.guard = none) (ty : TypeId) (x y : Operand) (ho : o.op = .store ty x y) (p val : Value) (hx : a.eval x = p) (hy : a.eval y = val) (hr : (Instr.storeAt ty p val).run P w = .ok () V) (h : wpList P ops Q rest (a.put o.dst undef) V) : wpList P ops Q (o :: rest) a w :=
  wpList_plain hgd fun K hK => by
    unfold Oper.wp
    simp [execOp, ho, hx, hy, hr, Result.andThen]
    exact hK _ _ h
/-- One event more. -/
abbrev lvC (n : Nat) (x : Ev) : Prop := x.k = 1 ∧ 0 ≤ x.nd ∧ x.nd < (n : Int)
def lvS (n : Nat) (L : List Int) (x : Ev) : List Int := if lvC n x then L.set x.nd.toNat (L.getD x.nd.toNat 0 + 1) else L
def lvs (n : Nat) (l : List Ev) : List Int := l.foldl (lvS n) (List.replicate n 0)
theorem lvS_yes {n : Nat} {x : Ev} (h : lvC n x) (L : List Int) : lvS n L x = L.set x.nd.toNat (L.getD x.nd.toNat 0 + 1) := if_pos h
theorem lvS_no {n : Nat} {x : Ev} (h : ¬ lvC n x) (L : List Int) : lvS n L x = L := if_neg h
/-- What has come of the first j. -/
def lvT (n : Nat) (l : List Ev) (j : Nat) : List Int := lvs n (l.take j)
theorem lvT_succ {n j : Nat} {l : List Ev} {x : Ev} (h : l[j]? = some x) : lvT n l (j + 1) = lvS n (lvT n l j) x := by
  unfold lvT lvs
  obtain ⟨hj, rfl⟩ := List.getElem?_eq_some_iff.1 h
  rw [← List.take_append_getElem hj, List.foldl_append]
  rfl
theorem lvT_ok (n : Nat) (l : List Ev) : ∀ j, j ≤ l.length → (lvT n l j).length = n ∧ ∀ z ∈ lvT n l j, 0 ≤ z ∧ z ≤ (j : Int)
  | 0, _ => by
    unfold lvT lvs
    simp
  | j + 1, h => by
    obtain ⟨h1, h2⟩ := lvT_ok n l j (by omega)
    obtain ⟨x, hx⟩ : ∃ x, l[j]? = some x := ⟨_, List.getElem?_eq_getElem (by omega)⟩
    rw [lvT_succ hx]
    by_cases hc : lvC n x
    · rw [lvS_yes hc]
      refine ⟨by rw [List.length_set]; exact h1, fun z hz => ?_⟩
      rcases List.mem_or_eq_of_mem_set hz with q | q
      · have := h2 z q
        omega
      · have hd : 0 ≤ (lvT n l j).getD x.nd.toNat 0 ∧ (lvT n l j).getD x.nd.toNat 0 ≤ (j : Int) := by
          rw [List.getD_eq_getElem?_getD]
          cases hg : (lvT n l j)[x.nd.toNat]? with
          | none => simp
          | some y => exact h2 y (List.mem_of_getElem? hg)
        omega
    · rw [lvS_no hc]
      exact ⟨h1, fun z hz => by have := h2 z hz; omega⟩
def iA (L : List Int) : Array Value := (L.map fun z => Value.int .i64 z).toArray
def RI (W : World) (g : Nat) (L : List Int) : Prop := W.heap[g]? = some (.cells (iA L) 3 (0, 0))
theorem iA_get {L : List Int} {j : Nat} {z : Int} (h : L[j]? = some z) : (iA L)[j]? = some (.int .i64 z) := by simp [iA, h]
theorem RI.put {W : World} {g : Nat} {L : List Int} (h : RI W g L) (j : Nat) (z : Int) : RI (W.setCell ⟨g, j, none⟩ (.int .i64 z)) g (L.set j z) := by
  have := heap_setCell_same _ _ j _ _ (.int .i64 z) h
  refine this.trans ?_
  congr 2
  simp [iA, List.map_set]
theorem RI.own {W : World} {g base n : Nat} {L : List Int} (h : RI W g L) (hb : base ≤ g) (hn : L.length = n) (hn2 : n ≤ 1000) : W.ownsRow base 3 1 (.slice (some ⟨g, 0, none⟩) n n) n (Kel.fc Kel.cInts L) := by
  have e : Kel.fc Kel.cInts L = (iA L).toList := by
    simp only [Kel.fc, iA]
    clear h hn
    induction L with
    | nil => rfl
    | cons a l ih => rw [List.flatMap_cons, ih]; rfl
  have hs : (iA L).size = n := by simp [iA, hn]
  refine ⟨by rw [e, Array.length_toList, hs, Nat.mul_one], .inr ⟨g, n, iA L, rfl, hb, h, Nat.le_refl _, by unfold maxLen; omega, by rw [hs, Nat.mul_one], ?_⟩⟩
  rw [e, List.take_of_length_le (by rw [Array.length_toList, hs]; omega)]
theorem mk_ints (N : Nat) (hN : N ≤ 100) (W : World) : (Instr.makeSlice 25 (.int .i64 (N : Int)) (.int .i64 (N : Int))).run Tryz.prog W = .ok (.slice (some ⟨W.heap.size, 0, none⟩) N N) (W.alloc (.cells (iA (List.replicate N 0)) 3)) := by
  obtain ⟨ic, hic, hz0, hz1, hz2⟩ := Kel.info_parts (t := 3) (z := some (.int .i64 0)) (s := 1) (b := 8) (by kernel_rfl)
  have h := run_make (P := Tryz.prog) W 25 3 ic _ Tryz.underlying25 hic hz0 .i64 .i64 (N : Int) (N : Int) (by omega) (by omega) (by rw [hz2]; omega) (by omega)
  rw [hz1] at h
  have e : madeCells (Value.int .i64 0).cells ((((N : Nat) : Int).toNat) * 1) = iA (List.replicate N 0) := by
    apply Array.toList_inj.1
    have := toList_madeCells_one (.int .i64 0) N
    simp only [Int.toNat_natCast, Nat.mul_one]
    exact this.trans (by simp [iA])
  rw [e] at h
  simpa using h
theorem box_ev (W : World) (x : Ev) (U : World) (hU : W.alloc (.cells #[.int .i64 0, .int .i64 0, .int .i64 0, .int .i64 0, .int .i64 0, .int .i64 0, .int .i64 0, .int .u32 0, .int .u32 0, .int .u32 0, .int .u32 0, .int .u32 0, .int .u32 0, .int .u32 0, .int .u32 0] 59) = U) : (U.setRow W.heap.size (ecA x)).heap[W.heap.size]? = some (.cells (ecA x) 59 (0, 0)) ∧ Below W.heap.size W (U.setRow W.heap.size (ecA x)) ∧ U.heap[W.heap.size]? = some (.cells #[.int .i64 0, .int .i64 0, .int .i64 0, .int .i64 0, .int .i64 0, .int .i64 0, .int .i64 0, .int .u32 0, .int .u32 0, .int .u32 0, .int .u32 0, .int .u32 0, .int .u32 0, .int .u32 0, .int .u32 0] 59 (0, 0)) := by
  subst hU
  have h := al1' W (.cells #[.int .i64 0, .int .i64 0, .int .i64 0, .int .i64 0, .int .i64 0, .int .i64 0, .int .i64 0, .int .u32 0, .int .u32 0, .int .u32 0, .int .u32 0, .int .u32 0, .int .u32 0, .int .u32 0, .int .u32 0] 59)
  refine ⟨setRow_heap _ _ _ _ _ _ (new_at rfl), ⟨h.os, h.tape, h.output, by simp [World.setRow], fun k hk => (Go.setRow_other _ _ _ _ (by omega)).trans (h.block k hk)⟩, new_at rfl⟩
theorem info_ev15 : (Tryz.prog.info? 59).map (·.size) = some 15 := by kernel_rfl
theorem evc_all (x : Ev) : (ecA x).all (·.oneCell') = true := by simp [ecA, Value.oneCell']
set_option maxHeartbeats 4000000 in
set_option maxRecDepth 100000 in
theorem lives_ok (N : Nat) (hN1 : 1 ≤ N) (hN : N ≤ 100) (ad : Option Addr) (cap : Nat) (l : List Ev) (w : World) (h : RdE w ad l) (hl : l.length ≤ 2000) : Calls Tryz.prog 6 #[.int .i64 (N : Int), .slice ad l.length cap] w fun e w' => ∃ g, e = .returned (.tuple #[.slice (some ⟨g, 0, none⟩) N N, .int .i64 0]) ∧ w'.ownsRow w.heap.size 3 1 (.slice (some ⟨g, 0, none⟩) N N) N (Kel.fc Kel.cInts (lvs N l)) ∧ Below w.heap.size w w' := by
  have hsz := isSize_any (N : Int)
  rw [decide_eq_true (show 1 ≤ (N : Int) ∧ (N : Int) ≤ 100 by omega)] at hsz
  have hib := isBelow_any
  have hmk := mk_ints N hN
  have hix := idx_e
  have HR : Hid (RdE w ad l) := h
  clear h
  go_enter Tryz.func6, Tryz.ntmps6
  go_wp2_with (go_at_call 17; (with_reducible refine (hsz _).mono ?_); rintro e u ⟨rfl, hu⟩; rw [hu]; clear hu u)
  have hb0 := al1' w (.cells (iA (List.replicate N 0)) 3)
  go_loopw [16, 8] (fun i _ wz => ∃ k : Nat, i = .int .i64 (k : Int) ∧ k ≤ l.length ∧ RI wz w.heap.size (lvT N l k) ∧ Below w.heap.size w wz) (fun i _ _ => l.length - Kel.vnat i)
  case atStart => exact ⟨0, rfl, Nat.zero_le _, new_at rfl, hb0⟩
  case round =>
    obtain ⟨k, rfl, hk, hri, hbw⟩ := hrel
    by_cases hkl : k < l.length
    · have hki : (k : Int) < (l.length : Int) := by omega
      have hne : l ≠ [] := fun e => by subst e; simp at hkl
      obtain ⟨bA, off, e1, hbl, hat⟩ := HR.out.at' hne
      subst e1
      obtain ⟨x, hx⟩ : ∃ x, l[k]? = some x := ⟨_, List.getElem?_eq_getElem hkl⟩
      have hld : (Instr.loadAt 59 (.pointer (some ⟨bA, off + k * 15, none⟩))).run Tryz.prog wr = .ok (.agg (ecA x)) wr := load_ev (fun j v hv => (hbw.cell (p := ⟨bA, _, none⟩) hbl).trans (hat k x hx j v hv))
      obtain ⟨U, hU⟩ : ∃ U, wr.alloc (.cells #[.int .i64 0, .int .i64 0, .int .i64 0, .int .i64 0, .int .i64 0, .int .i64 0, .int .i64 0, .int .u32 0, .int .u32 0, .int .u32 0, .int .u32 0, .int .u32 0, .int .u32 0, .int .u32 0, .int .u32 0] 59) = U := ⟨_, rfl⟩
      obtain ⟨q1, q2, q3⟩ := box_ev wr x U hU
      obtain ⟨U2, hU2⟩ : ∃ U2, U.setRow wr.heap.size (ecA x) = U2 := ⟨_, rfl⟩
      rw [hU2] at q1 q2
      have c0 : U2.cell? ⟨wr.heap.size, 0, none⟩ = some (.int .i64 x.k) := (cell_at q1 0).trans rfl
      have c1 : U2.cell? ⟨wr.heap.size, 1, none⟩ = some (.int .i64 x.nd) := (cell_at q1 1).trans rfl
      have hri2 : RI U2 w.heap.size (lvT N l k) := (q2.block _ (lt_at hri)).trans hri
      have hbw2 : Below w.heap.size w U2 := hbw.trans (q2.mono hbw.size)
      have HU2 : Hid (U.setRow wr.heap.size (ecA x) = U2) := hU2
      have HQ3 : Hid (U.heap[wr.heap.size]? = _) := q3
      have HLD : Hid ((Instr.loadAt 59 (.pointer (some ⟨bA, off + k * 15, none⟩))).run Tryz.prog wr = .ok (.agg (ecA x)) wr) := hld
      have HX : Hid (l[k]? = some x) := hx
      clear hU2 q3 hld hx hat q1
      obtain ⟨hlen, hbd⟩ := lvT_ok N l k hk
      by_cases hk1 : x.k = 1
      case neg =>
        have hno : ¬ lvC N x := fun q => hk1 q.1
        have hkd : (x.k == 1) = false := by simpa using hk1
        go_wp2_with (first | (refine wpList_load_run rfl 59 (.tmp 18) rfl _ _ rfl HLD.out ?_) | (refine wpList_store_row rfl 59 (.tmp 8) (.tmp 19) rfl wr.heap.size (ecA x) rfl rfl 59 _ HQ3.out info_ev15 rfl (evc_all x) ?_; rw [HU2.out]))
        go_roundw
        case rel => exact ⟨k + 1, by simp, by omega, by rw [lvT_succ HX.out, lvS_no hno]; exact hri2, hbw2⟩
        case measure => simp [Kel.vnat]; omega
      by_cases hk2 : 0 ≤ x.nd ∧ x.nd < (N : Int)
      case neg =>
        have hno : ¬ lvC N x := fun q => hk2 q.2
        have hi2 := hib x.nd (N : Int)
        rw [decide_eq_false hk2] at hi2
        go_wp2_with (first | (refine wpList_load_run rfl 59 (.tmp 18) rfl _ _ rfl HLD.out ?_) | (refine wpList_store_row rfl 59 (.tmp 8) (.tmp 19) rfl wr.heap.size (ecA x) rfl rfl 59 _ HQ3.out info_ev15 rfl (evc_all x) ?_; rw [HU2.out]) | (go_at_call 18; (with_reducible refine (hi2 _).mono ?_); rintro e u ⟨rfl, hu⟩; obtain rfl := hu.symm))
        go_roundw
        case rel => exact ⟨k + 1, by simp, by omega, by rw [lvT_succ HX.out, lvS_no hno]; exact hri2, hbw2⟩
        case measure => simp [Kel.vnat]; omega
      have hyes : lvC N x := ⟨hk1, hk2⟩
      have hi2 := hib x.nd (N : Int)
      rw [decide_eq_true hk2] at hi2
      obtain ⟨d, hd⟩ : ∃ d : Nat, x.nd = (d : Int) := ⟨x.nd.toNat, by omega⟩
      have hdN : d < N := by omega
      obtain ⟨z, hz⟩ : ∃ z, (lvT N l k)[d]? = some z := ⟨_, List.getElem?_eq_getElem (by omega)⟩
      have hzb := hbd z (List.mem_of_getElem? hz)
      have cz : U2.cell? ⟨w.heap.size, d, none⟩ = some (.int .i64 z) := (cell_at hri2 d).trans (iA_get hz)
      have fz := thaw_at hri2 d
      have hdi : (d : Int) < (N : Int) := by omega
      have hzi : z ≤ 2000 := by omega
      have hz0 : 0 ≤ z := hzb.1
      have HD : Hid (x.nd = (d : Int)) := hd
      rw [hd] at hi2 c1
      have HZ : Hid ((lvT N l k)[d]? = some z) := hz
      have HY : Hid (lvC N x) := hyes
      clear hd hk2 hz hzb hbd hyes
      go_wp2_with (first | (refine wpList_load_run rfl 59 (.tmp 18) rfl _ _ rfl HLD.out ?_) | (refine wpList_store_row rfl 59 (.tmp 8) (.tmp 19) rfl wr.heap.size (ecA x) rfl rfl 59 _ HQ3.out info_ev15 rfl (evc_all x) ?_; rw [HU2.out]) | (go_at_call 18; (with_reducible refine (hi2 _).mono ?_); rintro e u ⟨rfl, hu⟩; obtain rfl := hu.symm))
      go_roundw
      case rel =>
        refine ⟨k + 1, by simp, by omega, ?_, hbw2.setCell (p := ⟨w.heap.size, d, none⟩) (Nat.le_refl _) _⟩
        rw [lvT_succ HX.out, lvS_yes HY.out, show x.nd.toNat = d by have := HD.out; omega, List.getD_eq_getElem?_getD, HZ.out]
        exact hri2.put d (z + 1)
      case measure => simp [Kel.vnat]; omega
    · have hki : ¬ (k : Int) < (l.length : Int) := by omega
      obtain rfl : k = l.length := by omega
      have hlen := (lvT_ok N l l.length (Nat.le_refl _)).1
      have HO : Hid (RI wr w.heap.size (lvs N l)) := by
        have : lvT N l l.length = lvs N l := by unfold lvT; rw [List.take_length]
        rw [← this]
        exact hri
      have HL : Hid ((lvs N l).length = N) := by
        have : lvT N l l.length = lvs N l := by unfold lvT; rw [List.take_length]
        rw [← this]
        exact hlen
      clear hri hlen
      go_wp2
      go_ret2
      exact ⟨_, rfl, HO.out.own (Nat.le_refl _) HL.out (by omega), hbw⟩
theorem lives_no (n : Int) (hn : ¬ (1 ≤ n ∧ n ≤ 100)) (l : Value) (w : World) : Calls Tryz.prog 6 #[.int .i64 n, l] w fun e w' => e = .returned (.tuple #[.slice none 0 0, .int .i64 1]) ∧ w' = w := by
  have hsz := isSize_any n
  rw [decide_eq_false hn] at hsz
  go_enter Tryz.func6, Tryz.ntmps6
  go_wp2_with (go_at_call 17; (with_reducible refine (hsz _).mono ?_); rintro e u ⟨rfl, hu⟩; rw [hu]; clear hu u)
  go_ret2
  exact ⟨rfl, rfl⟩
theorem rlives_no (n : Int) (hn : ¬ (1 ≤ n ∧ n ≤ 100)) (l : Value) (w : World) : Calls Tryz.prog 7 #[.int .i64 n, l] w fun e w' => e = .returned (.tuple #[.slice none 0 0, .int .i64 1]) ∧ w' = w := by
  by_cases h1 : n < 1
  · go_enter Tryz.func7, Tryz.ntmps7
    go_wp2
    go_ret2
    exact ⟨rfl, rfl⟩
  · have h2 : 100 < n := by omega
    go_enter Tryz.func7, Tryz.ntmps7
    go_wp2
    go_ret2
    exact ⟨rfl, rfl⟩
set_option maxHeartbeats 4000000 in
set_option maxRecDepth 100000 in
theorem rlives_ok (N : Nat) (hN1 : 1 ≤ N) (hN : N ≤ 100) (ad : Option Addr) (cap : Nat) (l : List Ev) (w : World) (h : RdE w ad l) (hl : l.length ≤ 2000) : Calls Tryz.prog 7 #[.int .i64 (N : Int), .slice ad l.length cap] w fun e w' => ∃ g, e = .returned (.tuple #[.slice (some ⟨g, 0, none⟩) N N, .int .i64 0]) ∧ w'.ownsRow w.heap.size 3 1 (.slice (some ⟨g, 0, none⟩) N N) N (Kel.fc Kel.cInts (lvs N l)) ∧ Below w.heap.size w w' := by
  have hmk := mk_ints N hN
  have hix := idx_e
  have HR : Hid (RdE w ad l) := h
  have hN1i : ¬ (N : Int) < 1 := by omega
  have hN2i : ¬ (100 : Int) < (N : Int) := by omega
  clear h
  go_enter Tryz.func7, Tryz.ntmps7
  go_wp2
  have hb0 := al1' w (.cells (iA (List.replicate N 0)) 3)
  go_loopw [7] (fun i wz => ∃ k : Nat, i = .int .i64 (k : Int) ∧ k ≤ l.length ∧ RI wz w.heap.size (lvT N l k) ∧ Below w.heap.size w wz) (fun i _ => l.length - Kel.vnat i)
  case atStart => exact ⟨0, rfl, Nat.zero_le _, new_at rfl, hb0⟩
  case round =>
    obtain ⟨k, rfl, hk, hri, hbw⟩ := hrel
    by_cases hkl : k < l.length
    · have hki : (k : Int) < (l.length : Int) := by omega
      have hne : l ≠ [] := fun e => by subst e; simp at hkl
      obtain ⟨bA, off, e1, hbl, hat⟩ := HR.out.at' hne
      subst e1
      obtain ⟨x, hx⟩ : ∃ x, l[k]? = some x := ⟨_, List.getElem?_eq_getElem hkl⟩
      have c0 : wr.cell? ⟨bA, off + k * 15, none⟩ = some (.int .i64 x.k) := (hbw.cell (p := ⟨bA, _, none⟩) hbl).trans (hat k x hx 0 _ rfl)
      have c1 : wr.cell? ⟨bA, off + k * 15 + 1, none⟩ = some (.int .i64 x.nd) := (hbw.cell (p := ⟨bA, _, none⟩) hbl).trans (hat k x hx 1 _ rfl)
      have HX : Hid (l[k]? = some x) := hx
      clear hx hat
      obtain ⟨hlen, hbd⟩ := lvT_ok N l k hk
      by_cases hyes : lvC N x
      case neg =>
        have HNO : Hid (¬ lvC N x) := hyes
        by_cases hk1 : x.k = 1
        case neg =>
          go_wp2
          go_roundw
          case rel => exact ⟨k + 1, by simp, by omega, by rw [lvT_succ HX.out, lvS_no HNO.out]; exact hri, hbw⟩
          case measure => simp [Kel.vnat]; omega
        by_cases hk2 : 0 ≤ x.nd
        case neg =>
          have hk2' : x.nd < 0 := by omega
          clear hyes
          go_wp2
          go_roundw
          case rel => exact ⟨k + 1, by simp, by omega, by rw [lvT_succ HX.out, lvS_no HNO.out]; exact hri, hbw⟩
          case measure => simp [Kel.vnat]; omega
        have hk3 : ¬ x.nd < (N : Int) := fun q => hyes ⟨hk1, hk2, q⟩
        clear hyes
        go_wp2
        go_roundw
        case rel => exact ⟨k + 1, by simp, by omega, by rw [lvT_succ HX.out, lvS_no HNO.out]; exact hri, hbw⟩
        case measure => simp [Kel.vnat]; omega
      obtain ⟨hk1, hk2, hk3⟩ := id hyes
      obtain ⟨d, hd⟩ : ∃ d : Nat, x.nd = (d : Int) := ⟨x.nd.toNat, by omega⟩
      have hdN : d < N := by omega
      obtain ⟨z, hz⟩ : ∃ z, (lvT N l k)[d]? = some z := ⟨_, List.getElem?_eq_getElem (by omega)⟩
      have hzb := hbd z (List.mem_of_getElem? hz)
      have cz : wr.cell? ⟨w.heap.size, d, none⟩ = some (.int .i64 z) := (cell_at hri d).trans (iA_get hz)
      have fz := thaw_at hri d
      have hdi : (d : Int) < (N : Int) := by omega
      have hzi : z ≤ 2000 := by omega
      have hz0 : 0 ≤ z := hzb.1
      have HD : Hid (x.nd = (d : Int)) := hd
      have hne2 : bA ≠ w.heap.size := by omega
      rw [hd] at c1
      have HZ : Hid ((lvT N l k)[d]? = some z) := hz
      have HY : Hid (lvC N x) := hyes
      clear hd hk2 hk3 hz hzb hbd hyes
      go_wp2
      go_roundw
      case rel =>
        refine ⟨k + 1, by simp, by omega, ?_, hbw.setCell (p := ⟨w.heap.size, d, none⟩) (Nat.le_refl _) _⟩
        rw [lvT_succ HX.out, lvS_yes HY.out, show x.nd.toNat = d by have := HD.out; omega, List.getD_eq_getElem?_getD, HZ.out]
        exact hri.put d (z + 1)
      case measure => simp [Kel.vnat]; omega
    · have hki : ¬ (k : Int) < (l.length : Int) := by omega
      obtain rfl : k = l.length := by omega
      have hlen := (lvT_ok N l l.length (Nat.le_refl _)).1
      have HO : Hid (RI wr w.heap.size (lvs N l)) := by
        have : lvT N l l.length = lvs N l := by unfold lvT; rw [List.take_length]
        rw [← this]
        exact hri
      have HL : Hid ((lvs N l).length = N) := by
        have : lvT N l l.length = lvs N l := by unfold lvT; rw [List.take_length]
        rw [← this]
        exact hlen
      clear hri hlen
      go_wp2
      go_ret2
      exact ⟨_, rfl, HO.out.own (Nat.le_refl _) HL.out (by omega), hbw⟩
end Go.Proofs.YtgnhainfcfcodaaGreat
