/- What is kept lies apart. -/
import Derived.Test.YtddblfffjhoiaabGreatJnJ8
import Derived.Test.YtddblfffjhoiaabGreatJnJ6
import Derived.Test.YtddblfffjhoiaabGreatJnJ7
namespace Go.Proofs.YtddblfffjhoiaabGreat
open Go.RowKit Go.Shelf Go.Lib
theorem NK.kn {σ : Sg} {base bb : Nat} {W : World} (h : NK σ base bb W) : ∃ u v x y L, Kn base bb W u v x L ∧ Cn base W v y L := by
  obtain ⟨_, k, x, y, L, ⟨u, v, hk, hkb, h6, h7, _, hbb⟩, hl, hL⟩ := h
  subst hl
  refine ⟨u, v, x, y, L, ⟨hkb, h6, fun i l hi => ?_, hL.ap, hbb, hk⟩, h7, fun i l hi => ?_⟩
  · obtain ⟨z, zc, h1, h2, h3, h4, _, _, h5⟩ := hL.ks i l hi
    exact ⟨z, h1, h3, by omega⟩
  · obtain ⟨z, zc, h1, h2, h3, h4, _⟩ := hL.ks i l hi
    obtain ⟨ad, c, e, hr⟩ := own_rd h4
    exact ⟨ad, c, by rw [h2, e], hr⟩
theorem NK.apart {σ : Sg} {base bb : Nat} {W : World} (h : NK σ base bb W) (hz : base ≤ W.heap.size) : Calls Tryz.prog 10 #[.pointer (some ⟨bb, 0, none⟩)] W fun e w' => e = .returned (.bool true) ∧ Below base W w' := by
  obtain ⟨u, v, x, y, L, h1, h2⟩ := h.kn
  exact apart_any h1 h2 hz
end Go.Proofs.YtddblfffjhoiaabGreat
namespace Go.Proofs.YtddblfffjhoiaabGreat
open Go.RowKit Go.Shelf Go.Lib

/-- Ahead of Apart, and behind it; two lists that are found out. -/
def J9b (w0 w : World) (A B : List N3) (q : (Option Addr × Nat) × (Option Addr × Nat)) (x y z : Bool) (V : World) : Prop := match z with
  | false => Below w.heap.size w V ∧ (x = true → RdN V q.1.1 A) ∧ (y = true → RdN V q.2.1 B)
  | true => Below w0.heap.size w0 V
theorem J9b.carry {w0 w V V' : World} {A B : List N3} {q : (Option Addr × Nat) × (Option Addr × Nat)} {x y : Bool} (h : J9b w0 w A B q x y false V) (hb : Below V.heap.size V V') : J9b w0 w A B q x y false V' := ⟨bel2 h.1 hb, fun e => (h.2.1 e).carry hb, fun e => (h.2.2 e).carry hb⟩
theorem bin_self {P : Program} {t : TypeId} {x y : Operand} {w : World} (k : IntKind) (a : Int) : binRun P .eql t x y (.int k a) (.int k a) w = .ok (.bool true) w := by simp [binRun, go_sem]
theorem abv_le {a b : List N3} (h : a.length ≤ 100) : (abv a b).length ≤ 100 := by
  unfold abv
  split
  · exact Nat.le_trans (List.length_filter_le _ _) h
  · simp
end Go.Proofs.YtddblfffjhoiaabGreat
namespace Go.Proofs.YtddblfffjhoiaabGreat
open Go.RowKit Go.Shelf Go.Lib

/-- Books of the document's, one behind the other. -/
structure DBs (W : World) (ad : Option Addr) (ds : List (Option Addr × Nat × Nat)) (ls : List (List N3)) : Prop where
  len : ds.length = ls.length
  rd : ds ≠ [] → ∃ b off, ad = some ⟨b, off, none⟩ ∧ b < W.heap.size ∧ ∀ (k : Nat) d, ds[k]? = some d → W.cell? ⟨b, off + k, none⟩ = some (.slice d.1 d.2.1 d.2.2)
  el : ∀ (k : Nat) d l, ds[k]? = some d → ls[k]? = some l → RdN W d.1 l ∧ l.length = d.2.1 ∧ d.2.1 ≤ 100 ∧ (d.2.1 = 0 → d.1 = none ∧ d.2.2 = 0)
theorem DBs.carry {W V : World} {ad : Option Addr} {ds : List (Option Addr × Nat × Nat)} {ls : List (List N3)} (h : DBs W ad ds ls) (hb : Below W.heap.size W V) : DBs V ad ds ls :=
  ⟨h.len, fun hne => by
    obtain ⟨b, off, e, hl, hc⟩ := h.rd hne
    exact ⟨b, off, e, Nat.lt_of_lt_of_le hl hb.size, fun k d hd => (hb.cell (p := ⟨b, _, none⟩) hl).trans (hc k d hd)⟩, fun k d l h1 h2 => ⟨(h.el k d l h1 h2).1.carry hb, (h.el k d l h1 h2).2⟩⟩
theorem DBs.at {W : World} {ad : Option Addr} {ds : List (Option Addr × Nat × Nat)} {ls : List (List N3)} (h : DBs W ad ds ls) {k : Nat} {l : List N3} (hk : ls[k]? = some l) : ∃ a c b off, RdN W a l ∧ l.length ≤ 100 ∧ (l.length = 0 → a = none ∧ c = 0) ∧ ad = some ⟨b, off, none⟩ ∧ b < W.heap.size ∧ W.cell? ⟨b, off + k, none⟩ = some (.slice a l.length c) := by
  have hk1 : k < ds.length := by rw [h.len]; exact (List.getElem?_eq_some_iff.1 hk).1
  obtain ⟨d, hd⟩ : ∃ d, ds[k]? = some d := ⟨_, List.getElem?_eq_getElem hk1⟩
  obtain ⟨b, off, e, hl, hc⟩ := h.rd (fun e => by rw [e] at hk1; simp at hk1)
  obtain ⟨h1, h2, h3, h4⟩ := h.el k d l hd hk
  refine ⟨d.1, d.2.2, b, off, h1, by omega, fun e => h4 (by omega), e, hl, ?_⟩
  rw [h2]
  exact hc k d hd
/-- The greatest of a node among the first books. -/
def lvT (ls : List (List N3)) (k i : Nat) : N3 := grt ((ls.take k).map fun l => atN l (i : Int))
def lvM (ls : List (List N3)) (k i j : Nat) : N3 := if j < i then lvT ls (k + 1) j else lvT ls k j
def lvX (ls : List (List N3)) (N k i : Nat) : List N3 := (List.range N).map (lvM ls k i)
theorem lvX_len (ls : List (List N3)) (N k i : Nat) : (lvX ls N k i).length = N := by simp [lvX]
theorem lvX_get {ls : List (List N3)} {N k i j : Nat} (h : j < N) : (lvX ls N k i)[j]? = some (lvM ls k i j) := by simp [lvX, h]
theorem lvX_end (ls : List (List N3)) (N k : Nat) : lvX ls N k N = lvX ls N (k + 1) 0 := by
  refine List.ext_getElem? (fun j => ?_)
  by_cases h : j < N
  · rw [lvX_get h, lvX_get h]
    simp [lvM, h]
  · rw [List.getElem?_eq_none (by rw [lvX_len]; omega), List.getElem?_eq_none (by rw [lvX_len]; omega)]
theorem lvT_one {ls : List (List N3)} {l : List N3} (h : ls[0]? = some l) (i : Nat) : lvT ls 1 i = atN l (i : Int) := by
  cases ls with
  | nil => simp at h
  | cons a t =>
    simp at h
    subst h
    simp [lvT, grt, gst]
theorem grt_snoc (xs : List N3) (x : N3) (hne : xs ≠ []) : grt (xs ++ [x]) = if btx x (grt xs) = true then x else grt xs := by
  have hf : ∀ (ys : List N3) (s : Bool × N3), s.1 = true → (ys.foldl gst s).1 = true := by
    intro ys
    induction ys with
    | nil => intro s h; exact h
    | cons y t ih =>
      intro s h
      refine ih _ ?_
      unfold gst
      split
      · rfl
      · exact h
  have h1 : (xs.foldl gst (false, (0, 0, 0))).1 = true := by
    cases xs with
    | nil => exact absurd rfl hne
    | cons y t => exact hf t _ (by simp [gst])
  unfold grt
  rw [List.foldl_append]
  simp only [List.foldl_cons, List.foldl_nil]
  generalize xs.foldl gst (false, (0, 0, 0)) = s at h1
  unfold gst
  by_cases h : btx x s.2 = true
  · rw [if_pos (.inr h), if_pos h]
  · rw [if_neg (by simp [h1, h]), if_neg h]
theorem lvT_succ {ls : List (List N3)} {k : Nat} {l : List N3} (hk : 1 ≤ k) (h : ls[k]? = some l) (i : Nat) : lvT ls (k + 1) i = if btx (atN l (i : Int)) (lvT ls k i) = true then atN l (i : Int) else lvT ls k i := by
  have hkl : k < ls.length := (List.getElem?_eq_some_iff.1 h).1
  have hne : (ls.take k).map (fun l => atN l (i : Int)) ≠ [] := fun e => by
    have h2 : ((ls.take k).map (fun l => atN l (i : Int))).length = 0 := by rw [e]; rfl
    rw [List.length_map, List.length_take] at h2
    omega
  unfold lvT
  rw [List.take_add_one, h, Option.toList_some, List.map_append]
  exact grt_snoc _ _ hne
theorem lvX_step {ls : List (List N3)} {N k i : Nat} {l : List N3} (hk : 1 ≤ k) (h : ls[k]? = some l) (hi : i < N) : lvX ls N k (i + 1) = if btx (atN l (i : Int)) (lvT ls k i) = true then (lvX ls N k i).set i (atN l (i : Int)) else lvX ls N k i := by
  refine List.ext_getElem? (fun j => ?_)
  by_cases hj : j < N
  · rw [lvX_get hj]
    by_cases e : j = i
    · subst e
      have e1 : lvM ls k (j + 1) j = lvT ls (k + 1) j := by simp [lvM]
      rw [e1, lvT_succ hk h]
      split
      · rw [List.getElem?_set_self (by rw [lvX_len]; exact hj)]
      · rw [lvX_get hj]
        simp [lvM]
    · have e1 : lvM ls k (i + 1) j = lvM ls k i j := by
        unfold lvM
        by_cases h1 : j < i
        · rw [if_pos h1, if_pos (by omega)]
        · rw [if_neg h1, if_neg (by omega)]
      rw [e1]
      split
      · rw [List.getElem?_set_ne (by omega), lvX_get hj]
      · rw [lvX_get hj]
  · rw [List.getElem?_eq_none (by rw [lvX_len]; omega)]
    split
    · rw [List.getElem?_eq_none (by rw [List.length_set, lvX_len]; omega)]
    · rw [List.getElem?_eq_none (by rw [lvX_len]; omega)]
theorem lvX_all {ls : List (List N3)} {N : Nat} : lvX ls N ls.length 0 = lvs ls N := by
  unfold lvX lvs lvM lvT lvA
  simp
theorem lvX_first {ls : List (List N3)} {l : List N3} (h : ls[0]? = some l) : lvX ls l.length 1 0 = l := by
  refine List.ext_getElem? (fun j => ?_)
  by_cases hj : j < l.length
  · obtain ⟨x, hx⟩ : ∃ x, l[j]? = some x := ⟨_, List.getElem?_eq_getElem hj⟩
    rw [lvX_get hj, hx]
    unfold lvM
    rw [if_neg (by omega), lvT_one h, atN_at' hx]
  · rw [List.getElem?_eq_none (by rw [lvX_len]; omega), List.getElem?_eq_none (by omega)]
theorem own_some' {W : World} {base n : Nat} {v : Value} {xs : List Value} (h : W.ownsRow base 61 3 v n xs) (hn : 0 < n) : ∃ g cap, v = .slice (some ⟨g, 0, none⟩) n cap := by
  rcases own_form h with ⟨_, e⟩ | ⟨g, cap, e, _⟩
  · omega
  · exact ⟨g, cap, e⟩
theorem wpList_store_run {P : Program} {ops : Array Oper} {rest : List Oper} {o : Oper} {a : Act} {w w' : World} {Q : Exit → Act → World → Prop} (hgd : o.guard = none) (ty : TypeId) (x y : Operand) (ho : o.op = .store ty x y) (p v : Value) (hx : a.eval x = p) (hy : a.eval y = v) (hr : (Instr.storeAt ty p v).run P w = .ok () w') (h : wpList P ops Q rest (a.put o.dst undef) w') : wpList P ops Q (o :: rest) a w :=
  wpList_plain hgd fun K hK => by
    unfold Oper.wp execOp
    simp only [ho, hx, hy, Sem.run_bind, hr, Result.andThen_ok]
    exact hK _ _ h
theorem idx_rb (gb off n cap i : Nat) (h : i < n) (W : World) : (Instr.indexAt 25 (.slice (some ⟨gb, off, none⟩) n cap) (.int .i64 (i : Int))).run Tryz.prog W = .ok (.pointer (some ⟨gb, off + i, none⟩)) W := by
  have h2 : (i : Int) < (n : Int) := by omega
  go_simp
theorem field_rbo (W : World) (B o : Nat) : (Instr.fieldAt 29 (.pointer (some ⟨B, o, none⟩)) 0).run Tryz.prog W = .ok (.pointer (some ⟨B, o, none⟩)) W := by go_simp
theorem load_rbo {W : World} {gb o n c : Nat} {a : Option Addr} (h : W.cell? ⟨gb, o, none⟩ = some (.slice a n c)) : (Instr.loadAt 26 (.pointer (some ⟨gb, o, none⟩))).run Tryz.prog W = .ok (.slice a n c) W := by go_simp
set_option maxHeartbeats 8000000 in
set_option maxRecDepth 100000 in
theorem rLevel_any {w : World} (ad : Option Addr) (cap : Nat) (ds : List (Option Addr × Nat × Nat)) (ls : List (List N3)) (h : DBs w ad ds ls) (hl : ls.length ≤ 1000000) : Calls Tryz.prog 7 #[.slice ad ls.length cap] w fun e w' => ∃ v, e = .returned (.tuple #[v, .int .i64 (lvE ls)]) ∧ Made w w' v (lvl ls) ∧ Below w.heap.size w w' := by
  obtain ⟨ic, hic, hz0, hz1, hz2⟩ := info_partsN
  have hmx : Tryz.prog.follows .mixedOrders = true := by kernel_rfl
  cases hls : ls with
  | nil =>
    have e1 : lvE ([] : List (List N3)) = 1 := by simp [lvE]
    have e2 : lvl ([] : List (List N3)) = [] := by simp [lvl]
    rw [e1, e2]
    clear h hl hls
    go_enter Tryz.func7, Tryz.ntmps7
    go_wp2
    go_ret2
    exact ⟨_, rfl, World.ownsRow_nil _ _ _ _, Below.refl _ _⟩
  | cons l0 lt =>
    have hne : ls ≠ [] := by rw [hls]; simp
    have hhd : ls.headD [] = l0 := by rw [hls]; rfl
    have hg0 : ls[0]? = some l0 := by rw [hls]; rfl
    rw [← hls]
    have HE : Hid (lvE ls = if ones ls = true then 0 else 1) := by show _ = _; simp [lvE, hne]
    have HL : Hid (lvl ls = if ones ls = true then lvs ls l0.length else []) := by
      show _ = _
      unfold lvl
      rw [hhd]
      simp [hne]
    have HO : Hid (ones ls = ls.all (fun l => decide (l.length = l0.length))) := by show _ = _; unfold ones; rw [hhd]
    obtain ⟨K, hK⟩ : ∃ K, ls.length = K := ⟨_, rfl⟩
    have HK : Hid (ls.length = K) := hK
    have HB : Hid (DBs w ad ds ls) := h
    obtain ⟨aa, ca, gb, off, hr0, hn0, hz, rfl, hgb, hc0⟩ := h.at hg0
    have h0 : 0 < ls.length := (List.getElem?_eq_some_iff.1 hg0).1
    have HG0 : Hid (∀ x, ls[0]? = some x → x = l0) := fun x hx => by rw [hg0] at hx; exact (Option.some.inj hx).symm
    have HF : Hid (lvX ls l0.length 1 0 = l0) := lvX_first hg0
    rw [hK] at hl h0 ⊢
    rw [Nat.add_zero] at hc0
    have hki : ((K : Int) == 0) = false := by
      rw [beq_eq_false_iff_ne]
      omega
    have hk0 : (0 : Int) < (K : Int) := by omega
    obtain ⟨N, hN⟩ : ∃ N, l0.length = N := ⟨_, rfl⟩
    have HN : Hid (l0.length = N) := hN
    rw [hN] at hc0 hn0 hz
    clear hls hne hhd hK h hg0 hN
    by_cases hN0 : N = 0
    · obtain ⟨rfl, rfl⟩ := hz hN0
      subst hN0
      go_enter Tryz.func7, Tryz.ntmps7
      go_wp2
      go_loopw [5] (fun i wz => ∃ (k : Nat), i = .int .i64 k ∧ 1 ≤ k ∧ k ≤ K ∧ (ls.take k).all (fun l => decide (l.length = 0)) = true ∧ wz.ownsRow w.heap.size 61 3 (.slice none 0 0) 0 (fl (lvX ls 0 k 0)) ∧ Below w.heap.size w wz) (fun i _ => K - vnatR i)
      case atStart =>
        refine ⟨1, rfl, Nat.le_refl _, by omega, ?_, ?_, Below.refl _ _⟩
        · obtain ⟨x, hx⟩ : ∃ x, ls[0]? = some x := ⟨_, List.getElem?_eq_getElem (by rw [HK.out]; omega)⟩
          rw [List.take_add_one, hx]
          have hxl : x = l0 := HG0.out x hx
          simp [hxl]
          exact List.length_eq_zero_iff.1 HN.out
        · have := HF.out
          rw [HN.out] at this
          rw [this]
          rw [List.length_eq_zero_iff.1 HN.out]
          exact World.ownsRow_nil _ _ _ _
      case round =>
        obtain ⟨k, rfl, hk1, hkK, hall, hrow, hbr⟩ := hrel
        have HAL : Hid ((ls.take k).all (fun l => decide (l.length = 0)) = true) := hall
        clear hall
        by_cases hkl : k < K
        · have hkli : (k : Int) < (K : Int) := by omega
          obtain ⟨l, hx⟩ : ∃ x, ls[k]? = some x := ⟨_, List.getElem?_eq_getElem (by rw [HK.out]; exact hkl)⟩
          obtain ⟨ak, ck, gb', off', hrk, hlk, hzk, eg, _, hck⟩ := (HB.out.carry hbr).at hx
          cases eg
          have HXK : Hid (ls[k]? = some l) := hx
          obtain ⟨M, hM⟩ : ∃ M, l.length = M := ⟨_, rfl⟩
          have HML : Hid (l.length = M) := hM
          rw [hM] at hck hlk hzk
          clear hM hx
          by_cases hMN : M = 0
          case neg =>
            have hmi : ((M : Int) != (0 : Int)) = true := by simp; omega
            have HNO : Hid (ones ls = false) := by
              show _ = _
              rw [HO.out, Bool.eq_false_iff]
              intro e
              have := of_decide_eq_true (List.all_eq_true.1 e _ (List.mem_of_getElem? HXK.out))
              rw [HML.out, HN.out] at this
              exact hMN this
            go_wp2
            go_ret2
            rw [HE.out, HL.out, HNO.out]
            exact ⟨_, rfl, World.ownsRow_nil _ _ _ _, hbr⟩
          subst hMN
          go_wp2
          refine wp_loop_once ?_
          go_wp2
          go_roundw
          case rel =>
            have hbx := hbr
            have hrx := hrow
            refine ⟨k + 1, by simp, by omega, by omega, ?_, ?_, hbx⟩
            · rw [List.take_add_one, HXK.out, List.all_append, HAL.out]
              simp
              exact List.length_eq_zero_iff.1 HML.out
            · rw [← lvX_end]
              exact hrx
          case measure => simp [vnatR]; omega
        · have hkk : k = K := by omega
          subst hkk
          have HYE : Hid (ones ls = true) := by
            show _ = _
            have := HAL.out
            rw [List.take_of_length_le (by rw [HK.out]; exact Nat.le_refl _)] at this
            rw [HO.out, HN.out]
            exact this
          have hkki : ¬ ((k : Int) < (k : Int)) := by omega
          go_wp2
          go_ret2
          rw [HE.out, HL.out, HYE.out, if_pos rfl, if_pos rfl]
          refine ⟨_, rfl, ?_, hbr⟩
          show _
          unfold Made
          rw [lvs_len, ← lvX_all, HK.out, HN.out]
          exact hrow
    · obtain ⟨b0, o0, rfl, hb0, hat0⟩ := hr0 (fun e => by have := HN.out; rw [e] at this; simp at this; omega)
      go_enter Tryz.func7, Tryz.ntmps7
      go_wp2_with (at_builtin; refine wpList_append_own _ rfl _ _ 26 rfl w.heap.size 61 ic _ 3 24 Tryz.underlying26 hic hz0 hz1 hz2 rfl (by decide) _ 0 [] rfl (World.ownsRow_nil _ _ _ _) ⟨b0, o0, none⟩ N ca (fl l0) rfl (by rw [fl_len, HN.out]) (nts_src hat0) (fl_one l0) (by unfold maxLen; omega) (by omega) (Nat.le_refl _) ?_; intro v u ho0 hgu0 _; have hgu : w.grownBy u none := hgu0; have ho : u.ownsRow w.heap.size 61 3 v N (fl l0) := (by simpa using ho0); obtain ⟨g, cp, rfl⟩ := own_some' ho (by omega); have hbu : Below w.heap.size w u := ⟨hgu.os, hgu.tape, hgu.output, hgu.size, fun k hk => hgu.block k hk (by simp)⟩)
      have hgg := (row_lt2 ho g rfl).1
      go_loopw [5] (fun i wz => ∃ (k : Nat), i = .int .i64 k ∧ 1 ≤ k ∧ k ≤ K ∧ (ls.take k).all (fun l => decide (l.length = N)) = true ∧ wz.ownsRow w.heap.size 61 3 (.slice (some ⟨g, 0, none⟩) N cp) N (fl (lvX ls N k 0)) ∧ Below w.heap.size w wz) (fun i _ => K - vnatR i)
      case atStart =>
        refine ⟨1, rfl, Nat.le_refl _, by omega, ?_, ?_, hbu⟩
        · obtain ⟨x, hx⟩ : ∃ x, ls[0]? = some x := ⟨_, List.getElem?_eq_getElem (by rw [HK.out]; omega)⟩
          rw [List.take_add_one, hx]
          have hxl : x = l0 := HG0.out x hx
          simp [hxl, HN.out]
        · have := HF.out
          rw [HN.out] at this
          rw [this]
          exact ho
      case round =>
        obtain ⟨k, rfl, hk1, hkK, hall, hrow, hbr⟩ := hrel
        have HAL : Hid ((ls.take k).all (fun l => decide (l.length = N)) = true) := hall
        clear hall
        by_cases hkl : k < K
        · have hkli : (k : Int) < (K : Int) := by omega
          obtain ⟨l, hx⟩ : ∃ x, ls[k]? = some x := ⟨_, List.getElem?_eq_getElem (by rw [HK.out]; exact hkl)⟩
          obtain ⟨ak, ck, gb', off', hrk, hlk, hzk, eg, _, hck⟩ := (HB.out.carry hbr).at hx
          cases eg
          have HXK : Hid (ls[k]? = some l) := hx
          obtain ⟨M, hM⟩ : ∃ M, l.length = M := ⟨_, rfl⟩
          have HML : Hid (l.length = M) := hM
          rw [hM] at hck hlk hzk
          clear hM hx
          by_cases hMN : M = N
          case neg =>
            have hmi : ((M : Int) != (N : Int)) = true := by simp; omega
            have HNO : Hid (ones ls = false) := by
              show _ = _
              rw [HO.out, Bool.eq_false_iff]
              intro e
              have := of_decide_eq_true (List.all_eq_true.1 e _ (List.mem_of_getElem? HXK.out))
              rw [HML.out, HN.out] at this
              exact hMN this
            go_wp2
            go_ret2
            rw [HE.out, HL.out, HNO.out]
            exact ⟨_, rfl, World.ownsRow_nil _ _ _ _, hbr⟩
          subst hMN
          go_wp2
          go_loopw [6] (fun i wz => ∃ (i' : Nat), i = .int .i64 i' ∧ i' ≤ M ∧ wz.ownsRow w.heap.size 61 3 (.slice (some ⟨g, 0, none⟩) M cp) M (fl (lvX ls M k i')) ∧ Below w.heap.size w wz) (fun i _ => M - vnatR i)
          case atStart => exact ⟨0, rfl, Nat.zero_le _, hrow, hbr⟩
          case round =>
            obtain ⟨ix, rfl, hix, hrw, hbw⟩ := hrel
            clear hrow
            by_cases hil : ix < M
            · have hili : (ix : Int) < (M : Int) := by omega
              obtain ⟨⟨o, t, q⟩, hy⟩ : ∃ x, l[ix]? = some x := ⟨_, List.getElem?_eq_getElem (by rw [HML.out]; exact hil)⟩
              obtain ⟨⟨o', t', q'⟩, hT⟩ : ∃ x, lvT ls k ix = x := ⟨_, rfl⟩
              have HYX : Hid (l[ix]? = some (o, t, q)) := hy
              have HST : Hid (lvX ls M k (ix + 1) = if bt o t q o' t' q' = true then (lvX ls M k ix).set ix (o, t, q) else lvX ls M k ix) := by
                show _ = _
                rw [lvX_step hk1 HXK.out hil, atN_at' hy, hT]
                rfl
              have hget : (lvX ls M k ix)[ix]? = some (o', t', q') := by
                rw [lvX_get hil, ← hT]
                simp [lvM]
              have hbe := rBeats_any o t q o' t' q'
              generalize bt o t q o' t' q' = B at HST hbe
              have hdb := HB.out.carry hbw
              obtain ⟨ak2, ck2, gb2, off2, hrk2, _, _, eg2, hgb2, hck2⟩ := hdb.at HXK.out
              cases eg2
              rw [HML.out] at hck2
              obtain ⟨bk, ok, rfl, hbk, hatk⟩ := hrk2 (fun e => by have := HYX.out; rw [e] at this; simp at this)
              have hown := nts_own hrw (lvX_len _ _ _ _).symm
              have hgl := (row_lt2 hrw g rfl).2
              have hjc : ∀ {V V' : World}, (V.cell? ⟨gb, off + k, none⟩ = some (.slice (some ⟨bk, ok, none⟩) M ck2) ∧ NtsAt V bk ok l ∧ NtsAt V g 0 (lvX ls M k ix) ∧ Below wr.heap.size wr V) → Below V.heap.size V V' → (V'.cell? ⟨gb, off + k, none⟩ = some (.slice (some ⟨bk, ok, none⟩) M ck2) ∧ NtsAt V' bk ok l ∧ NtsAt V' g 0 (lvX ls M k ix) ∧ Below wr.heap.size wr V') := fun h hb => ⟨(hb.cell (p := ⟨gb, _, none⟩) (Nat.lt_of_lt_of_le hgb2 h.2.2.2.size)).trans h.1, h.2.1.carry (Nat.lt_of_lt_of_le hbk h.2.2.2.size) hb, h.2.2.1.carry (Nat.lt_of_lt_of_le hgl h.2.2.2.size) hb, bel2 h.2.2.2 hb⟩
              clear hy hT
              go_wp2
              rename_i Q0 K0 hK'
              refine wp_region_any hmx ?_
              refine wpAny_pure (fun i__ => ([(.slice (some ⟨gb, off, none⟩) K cap), (.int .i64 (k : Int)), (.pointer (some ⟨gb, off + k, none⟩)), (.pointer (some ⟨gb, off + k, none⟩)), (.slice (some ⟨bk, ok, none⟩) M ck2), (.int .i64 (ix : Int)), (.pointer (some ⟨bk, ok + ix * 3, none⟩)), (nt o t q), (.slice (some ⟨g, 0, none⟩) M cp), (.int .i64 (ix : Int)), (.pointer (some ⟨g, 0 + ix * 3, none⟩)), (nt o' t' q'), (.bool B)] : List Value).getD i__ undef) (fun V => V.cell? ⟨gb, off + k, none⟩ = some (.slice (some ⟨bk, ok, none⟩) M ck2) ∧ NtsAt V bk ok l ∧ NtsAt V g 0 (lvX ls M k ix) ∧ Below wr.heap.size wr V) (by kernel_rfl) (hjc ⟨hck2, hatk, hown, Below.refl _ _⟩ (Below.refl _ _).drew) ?_ ?_
              · refine (stepsFrom_cons ?_ (stepsFrom_cons ?_ (stepsFrom_cons ?_ (stepsFrom_cons ?_ (stepsFrom_cons ?_ (stepsFrom_cons ?_ (stepsFrom_cons ?_ (stepsFrom_cons ?_ (stepsFrom_cons ?_ (stepsFrom_cons ?_ (stepsFrom_cons ?_ (stepsFrom_cons ?_ (stepsFrom_cons ?_ trivial)))))))))))))
                · exact step_move rfl trivial _ rfl (by kernel_rfl)
                · exact step_move rfl trivial _ rfl (by kernel_rfl)
                · exact step_indexAddr rfl trivial _ _ _ _ _ rfl rfl rfl (fun V hw => idx_rb gb off K cap k hkl V)
                · exact step_fieldAddr rfl trivial _ _ _ _ rfl rfl (fun V hw => field_rbo V _ _)
                · exact step_load rfl trivial _ _ _ rfl rfl (fun V hw => load_rbo hw.1)
                · exact step_move rfl trivial _ rfl (by kernel_rfl)
                · exact step_indexAddr rfl trivial _ _ _ _ _ rfl rfl rfl (fun V hw => idx_n bk ok M ck2 ix hil V)
                · exact step_load rfl trivial _ _ _ rfl rfl (fun V hw => load_at hw.2.1 HYX.out)
                · exact step_move rfl trivial _ rfl (by kernel_rfl)
                · exact step_move rfl trivial _ rfl (by kernel_rfl)
                · exact step_indexAddr rfl trivial _ _ _ _ _ rfl rfl rfl (fun V hw => idx_n g 0 M cp ix hil V)
                · exact step_load rfl trivial _ _ _ rfl rfl (fun V hw => load_at hw.2.2.1 hget)
                · exact step_call rfl trivial 22 _ _ [(nt o t q), (nt o' t' q')] rfl (by kernel_rfl) (enters_of Tryz.func22 (by kernel_rfl) rfl) (fun V hw => (hbe V).mono (by rintro e w' ⟨rfl, hb⟩; exact ⟨rfl, hjc hw hb⟩))
              intro W hW
              first | refine hK _ _ ?_ | refine (‹∀ (a : Act) (w : World), Code.wp Tryz.prog _ _ a w → _›) _ _ ?_
              simp only [finL, List.getD_cons_zero, List.getD_cons_succ, Nat.zero_add, Nat.reduceAdd, List.setIfInBounds_toArray, List.set_cons_zero, List.set_cons_succ]
              obtain ⟨j1, j2, j3, hbW⟩ := hW
              have hrW := row_below hrw hbW
              have hbW2 := bel2 hbw hbW
              cases B with
              | false =>
                go_wp2
                go_roundw
                case rel =>
                  refine ⟨ix + 1, by simp, by omega, ?_, hbW2⟩
                  rw [HST.out]
                  exact hrW
                case measure => simp [vnatR]; omega
              | true =>
                obtain ⟨V2, hst, hrV, hgV⟩ := row_putN hrW (lvX_len _ _ _ _).symm hil (o, t, q)
                obtain ⟨c0, c1, c2⟩ := j2 ix _ HYX.out
                unfold nt at hst
                dsimp only at c0 c1 c2 hst
                rw [Nat.zero_add] at hst
                have hst2 : Hid ((Instr.storeAt 61 (.pointer (some ⟨g, ix * 3, none⟩)) (.agg #[.int .i64 o, .int .i64 t, .int .i64 q])).run Tryz.prog W = .ok () V2) := hst
                clear hst
                go_wp2_with (refine wpList_store_run rfl 61 (.tmp 59) (.tmp 58) rfl _ _ rfl rfl hst2.out ?_)
                go_roundw
                case rel =>
                  refine ⟨ix + 1, by simp, by omega, ?_, grown_new hbW2 hgV hgg⟩
                  rw [HST.out]
                  exact hrV
                case measure => simp [vnatR]; omega
            · have hkk : ix = M := by omega
              subst hkk
              have hili : ¬ ((ix : Int) < (ix : Int)) := by omega
              go_wp2
              go_roundw
              case rel =>
                refine ⟨k + 1, by simp, by omega, by omega, ?_, ?_, hbw⟩
                · rw [List.take_add_one, HXK.out, List.all_append, HAL.out]
                  simp [HML.out]
                · rw [← lvX_end]
                  exact hrw
              case measure => simp [vnatR]; omega
        · have hkk : k = K := by omega
          subst hkk
          have HYE : Hid (ones ls = true) := by
            show _ = _
            have := HAL.out
            rw [List.take_of_length_le (by rw [HK.out]; exact Nat.le_refl _)] at this
            rw [HO.out, HN.out]
            exact this
          have hkki : ¬ ((k : Int) < (k : Int)) := by omega
          go_wp2
          go_ret2
          rw [HE.out, HL.out, HYE.out, if_pos rfl, if_pos rfl]
          refine ⟨_, rfl, ?_, hbr⟩
          show _
          unfold Made
          rw [lvs_len, ← lvX_all, HK.out, HN.out]
          exact hrow
end Go.Proofs.YtddblfffjhoiaabGreat
namespace Go.Proofs.YtddblfffjhoiaabGreat
open Go.RowKit Go.Shelf Go.Lib

theorem rd_keep2 {W V : World} {ad : Option Addr} {l : List N3} (h : RdN W ad l) (hz : W.heap.size ≤ V.heap.size) (hk : l ≠ [] → ∀ a, ad = some a → V.heap[a.block]? = W.heap[a.block]?) : RdN V ad l := fun hne => by
  obtain ⟨bk, off, e, h1, h2⟩ := h hne
  have q : V.heap[bk]? = W.heap[bk]? := hk hne _ e
  refine ⟨bk, off, e, by omega, fun k x hx => ?_⟩
  obtain ⟨c0, c1, c2⟩ := h2 k x hx
  exact ⟨(World.cell?_of_block (a := ⟨bk, _, none⟩) q).trans c0, (World.cell?_of_block (a := ⟨bk, _, none⟩) q).trans c1, (World.cell?_of_block (a := ⟨bk, _, none⟩) q).trans c2⟩
def dV (d : Option Addr × Nat × Nat) : Value := .slice d.1 d.2.1 d.2.2
/-- All books that are there: the program's, the document's. -/
structure Al (V : World) (vs : List Value) (ds : List (Option Addr × Nat × Nat)) (ls : List (List N3)) : Prop where
  lv : vs.length = ls.length
  ld : ds.length = ls.length
  a : ∀ (k : Nat) v l, vs[k]? = some v → ls[k]? = some l → BV V v l
  b : ∀ (k : Nat) d l, ds[k]? = some d → ls[k]? = some l → RdN V d.1 l ∧ l.length = d.2.1 ∧ d.2.1 ≤ 100 ∧ (d.2.1 = 0 → d.1 = none ∧ d.2.2 = 0) ∧ (∀ x, d.1 = some x → ∃ cur, V.heap[x.block]? = some (.cells cur 61 (0, 0)))
theorem Al.keep {V V' : World} {vs : List Value} {ds : List (Option Addr × Nat × Nat)} {ls : List (List N3)} (h : Al V vs ds ls) (hz : V.heap.size ≤ V'.heap.size) (hk : ∀ (k : Nat) (cur : Array Value) (t : TypeId), V.heap[k]? = some (.cells cur t (0, 0)) → t = 61 ∨ t = 100 → V'.heap[k]? = some (.cells cur t (0, 0))) : Al V' vs ds ls := by
  refine ⟨h.lv, h.ld, fun k v l h1 h2 => ?_, fun k d l h1 h2 => ?_⟩
  · rcases h.a k v l h1 h2 with e | ⟨p, g, e, hb, h3⟩
    · exact .inl e
    · exact .inr ⟨p, g, e, ⟨hk _ _ _ hb.obj (.inr rfl), hk _ _ _ hb.row (.inl rfl)⟩, h3⟩
  · obtain ⟨h3, h4, h5, h6, h7⟩ := h.b k d l h1 h2
    refine ⟨rd_keep2 h3 hz (fun _ x e => ?_), h4, h5, h6, fun x e => (h7 x e).imp (fun cur hc => hk _ _ _ hc (.inl rfl))⟩
    obtain ⟨cur, hc⟩ := h7 x e
    exact (hk _ _ _ hc (.inl rfl)).trans hc.symm
theorem Al.carry {V V' : World} {vs : List Value} {ds : List (Option Addr × Nat × Nat)} {ls : List (List N3)} (h : Al V vs ds ls) (hb : Below V.heap.size V V') : Al V' vs ds ls := h.keep hb.size (fun _ _ _ hc _ => (hb.block _ (lt_at hc)).trans hc)
theorem Al.add {V : World} {vs : List Value} {ds : List (Option Addr × Nat × Nat)} {ls : List (List N3)} (h : Al V vs ds ls) {v : Value} {d : Option Addr × Nat × Nat} {l : List N3} (hv : BV V v l) (hd : RdN V d.1 l ∧ l.length = d.2.1 ∧ d.2.1 ≤ 100 ∧ (d.2.1 = 0 → d.1 = none ∧ d.2.2 = 0) ∧ (∀ x, d.1 = some x → ∃ cur, V.heap[x.block]? = some (.cells cur 61 (0, 0)))) : Al V (vs ++ [v]) (ds ++ [d]) (ls ++ [l]) := by
  refine ⟨by simp [h.lv], by simp [h.ld], fun k v' l' h1 h2 => ?_, fun k d' l' h1 h2 => ?_⟩
  · rcases get_snoc _ _ _ _ h2 with ⟨hk, h3⟩ | ⟨hk, rfl⟩
    · rcases get_snoc _ _ _ _ h1 with ⟨_, h4⟩ | ⟨hk2, _⟩
      · exact h.a k v' l' h4 h3
      · have := h.lv; omega
    · rcases get_snoc _ _ _ _ h1 with ⟨hk2, _⟩ | ⟨_, rfl⟩
      · have := h.lv; omega
      · exact hv
  · rcases get_snoc _ _ _ _ h2 with ⟨hk, h3⟩ | ⟨hk, rfl⟩
    · rcases get_snoc _ _ _ _ h1 with ⟨_, h4⟩ | ⟨hk2, _⟩
      · exact h.b k d' l' h4 h3
      · have := h.ld; omega
    · rcases get_snoc _ _ _ _ h1 with ⟨hk2, _⟩ | ⟨_, rfl⟩
      · have := h.ld; omega
      · exact hd
/-- While both rows grow by one. -/
structure JL2 (w : World) (k : Nat) (vs : List Value) (ds : List (Option Addr × Nat × Nat)) (ls : List (List N3)) (v : Value) (d : Option Addr × Nat × Nat) (va vb : Value) (b12 : Nat) (q : Nat × Nat × Value × Value) (d2 d3 d6 d7 : Bool) (W : World) : Prop where
  al : Al W (vs ++ [v]) (ds ++ [d]) ls
  rb : RB W b12 (dV d)
  ra : W.ownsRow w.heap.size 27 1 (cond d3 q.2.2.1 va) (cond d3 (k + 1) k) (cond d3 (vs ++ [v]) vs)
  rc : W.ownsRow w.heap.size 29 1 (cond d7 q.2.2.2 vb) (cond d7 (k + 1) k) (cond d7 ((ds ++ [d]).map dV) (ds.map dV))
  x2 : d2 = true → W.heap[q.1]? = some (.cells #[v] 27 (0, 0))
  x6 : d6 = true → W.heap[q.2.1]? = some (.cells #[dV d] 29 (0, 0))
  n2 : d2 = true → (cond d3 q.2.2.1 va).ownBlock ≠ some q.1
  n6 : d6 = true → (cond d7 q.2.2.2 vb).ownBlock ≠ some q.2.1
  n12 : (cond d7 q.2.2.2 vb).ownBlock ≠ some b12
  be : Below w.heap.size w W
section
variable {w : World} {k : Nat} {vs : List Value} {ds : List (Option Addr × Nat × Nat)} {ls : List (List N3)} {v : Value} {d : Option Addr × Nat × Nat} {va vb : Value} {b12 : Nat} {q : Nat × Nat × Value × Value} {d2 d3 d6 d7 : Bool} {W V : World}
theorem JL2.carry (h : JL2 w k vs ds ls v d va vb b12 q d2 d3 d6 d7 W) (hb : Below W.heap.size W V) : JL2 w k vs ds ls v d va vb b12 q d2 d3 d6 d7 V :=
  ⟨h.al.carry hb, h.rb.carry hb, row_below h.ra hb, row_below h.rc hb, fun e => (hb.block _ (lt_at (h.x2 e))).trans (h.x2 e), fun e => (hb.block _ (lt_at (h.x6 e))).trans (h.x6 e), h.n2, h.n6, h.n12, bel2 h.be hb⟩
theorem JL2.build1 (h : JL2 w k vs ds ls v d va vb b12 q d2 d3 d6 d7 W) : JL2 w k vs ds ls v d va vb b12 (W.heap.size, q.2) true d3 d6 d7 (W.alloc (.cells #[v] 27)) := by
  have h' := h.carry (al1 W (.cells #[v] 27))
  exact ⟨h'.al, h'.rb, h'.ra, h'.rc, fun _ => new_at rfl, h'.x6, fun _ e => by have := (row_lt2 h.ra _ e).2; simp at this, h'.n6, h'.n12, h'.be⟩
theorem JL2.build2 (h : JL2 w k vs ds ls v d va vb b12 q d2 d3 d6 d7 W) : JL2 w k vs ds ls v d va vb b12 (q.1, W.heap.size, q.2.2) d2 d3 true d7 (W.alloc (.cells #[dV d] 29)) := by
  have h' := h.carry (al1 W (.cells #[dV d] 29))
  exact ⟨h'.al, h'.rb, h'.ra, h'.rc, h'.x2, fun _ => new_at rfl, h'.n2, fun _ e => by have := (row_lt2 h.rc _ e).2; simp at this, h'.n12, h'.be⟩
theorem info_bp : (Tryz.prog.info? 27).map (fun i => (i.zero, i.size, i.bytes)) = some (some (.pointer none), 1, 8) := by kernel_rfl
theorem info_br : (Tryz.prog.info? 29).map (fun i => (i.zero, i.size, i.bytes)) = some (some (.agg #[.slice none 0 0]), 1, 24) := by kernel_rfl
theorem info_parts2 {t : TypeId} {z : Value} {s b : Nat} (h : (Tryz.prog.info? t).map (fun i => (i.zero, i.size, i.bytes)) = some (some z, s, b)) : ∃ i, Tryz.prog.info? t = some i ∧ i.zero = some z ∧ i.size = s ∧ i.bytes = b := by
  cases hi : Tryz.prog.info? t with
  | none => simp [hi] at h
  | some i =>
    simp [hi] at h
    exact ⟨i, rfl, h.1, h.2.1, h.2.2⟩
theorem row_blk2 {W : World} {base : Nat} {e : TypeId} {s : Nat} {x : Value} {n : Nat} {xs : List Value} (h : W.ownsRow base e s x n xs) {b : Nat} (hb : x.ownBlock = some b) : ∃ cur, W.heap[b]? = some (.cells cur e (0, 0)) := (ownsRow_block h b hb).2
theorem src1 {W : World} {b : Nat} {x : Value} {t : TypeId} (h : W.heap[b]? = some (.cells #[x] t (0, 0))) : ∀ (j : Nat) (u : Value), [x][j]? = some u → W.cell? ((⟨b, 0, none⟩ : Addr).add j) = some u := by
  intro j u hj
  have ha : (⟨b, 0, none⟩ : Addr).add j = ⟨b, j, none⟩ := by unfold Addr.add; split <;> simp_all
  rw [ha, cell_at h j, ← hj]
  simp
theorem typ_keep {W V : World} {base : Nat} {e : TypeId} {s : Nat} {x : Value} {n : Nat} {xs : List Value} (h : W.ownsRow base e s x n xs) (hg : W.grownBy V x.ownBlock) {b : Nat} {cur : Array Value} {t : TypeId} (hc : W.heap[b]? = some (.cells cur t (0, 0))) (ht : t ≠ e) : V.heap[b]? = some (.cells cur t (0, 0)) := by
  refine (hg.block _ (lt_at hc) (fun e2 => ?_)).trans hc
  obtain ⟨cur', h1⟩ := row_blk2 h e2.symm
  rw [hc] at h1
  cases h1
  exact ht rfl
theorem row_typ {W V : World} {base base' : Nat} {e e' : TypeId} {s s' : Nat} {x x' : Value} {n n' : Nat} {xs xs' : List Value} (h : W.ownsRow base e s x n xs) (hg : W.grownBy V x.ownBlock) (h' : W.ownsRow base' e' s' x' n' xs') (ht : e' ≠ e) : V.ownsRow base' e' s' x' n' xs' := row_at h' (fun _ _ _ hc => typ_keep h hg hc ht)
theorem JL2.app1 (h : JL2 w k vs ds ls v d va vb b12 q true false d6 d7 W) (hv : v.oneCell' = true) (hk : k ≤ 30) (ty : TypeId) : ∃ x V, (Builtin.append_ #[24, 24] ty #[va, .slice (some ⟨q.1, 0, none⟩) 1 1]).run Tryz.prog W = .ok x V ∧ JL2 w k vs ds ls v d va vb b12 (q.1, q.2.1, x, q.2.2.2) true true d6 d7 V := by
  obtain ⟨ic, hic, hz0, hz1, hz2⟩ := info_parts2 info_bp
  obtain ⟨x, V, hr, h2, h3, _, h5⟩ := run_append_own_at (P := Tryz.prog) W w.heap.size 24 ty 27 ic _ 1 8 Tryz.underlying24 hic hz0 hz1 hz2 rfl (by decide) va k vs h.ra ⟨q.1, 0, none⟩ 1 1 [v] rfl (src1 (h.x2 rfl)) (by simp [hv]) (by unfold maxLen; omega) (by omega) h.be.size
  have kt : ∀ {b : Nat} {cur : Array Value} {t : TypeId}, W.heap[b]? = some (.cells cur t (0, 0)) → t ≠ 27 → V.heap[b]? = some (.cells cur t (0, 0)) := fun hc ht => typ_keep h.ra h3 hc ht
  refine ⟨x, V, hr, h.al.keep h3.size (fun b cur t hc ht => kt hc (by rcases ht with e | e <;> rw [e] <;> decide)), kt h.rb (by decide), h2, row_typ h.ra h3 h.rc (by decide), fun _ => ?_, fun e => kt (h.x6 e) (by decide), fun _ => ?_, h.n6, h.n12, h.be.grown h3 h.be.size (fun b hb => (row_lt2 h.ra b hb).1)⟩
  · exact (h3.block _ (lt_at (h.x2 rfl)) (fun e => h.n2 rfl e.symm)).trans (h.x2 rfl)
  · intro e
    rcases h5 with h5 | h5
    · exact h.n2 rfl (h5.symm.trans e)
    · have := h5.symm.trans e
      have e2 : W.heap.size = q.1 := by simpa using this
      have := lt_at (h.x2 rfl)
      omega
theorem JL2.app2 (h : JL2 w k vs ds ls v d va vb b12 q d2 d3 true false W) (hk : k ≤ 30) (ty : TypeId) : ∃ x V, (Builtin.append_ #[25, 25] ty #[vb, .slice (some ⟨q.2.1, 0, none⟩) 1 1]).run Tryz.prog W = .ok x V ∧ JL2 w k vs ds ls v d va vb b12 (q.1, q.2.1, q.2.2.1, x) d2 d3 true true V := by
  obtain ⟨ic, hic, hz0, hz1, hz2⟩ := info_parts2 info_br
  obtain ⟨x, V, hr, h2, h3, _, h5⟩ := run_append_own_at (P := Tryz.prog) W w.heap.size 25 ty 29 ic _ 1 24 Tryz.underlying25 hic hz0 hz1 hz2 rfl (by decide) vb k (ds.map dV) h.rc ⟨q.2.1, 0, none⟩ 1 1 [dV d] rfl (src1 (h.x6 rfl)) (by simp [dV, Value.oneCell']) (by unfold maxLen; omega) (by omega) h.be.size
  have kt : ∀ {b : Nat} {cur : Array Value} {t : TypeId}, W.heap[b]? = some (.cells cur t (0, 0)) → t ≠ 29 → V.heap[b]? = some (.cells cur t (0, 0)) := fun hc ht => typ_keep h.rc h3 hc ht
  refine ⟨x, V, hr, h.al.keep h3.size (fun b cur t hc ht => kt hc (by rcases ht with e | e <;> rw [e] <;> decide)), (h3.block _ (lt_at h.rb) (fun e => h.n12 e.symm)).trans h.rb, row_typ h.rc h3 h.ra (by decide), by simpa using h2, fun e => kt (h.x2 e) (by decide), fun _ => (h3.block _ (lt_at (h.x6 rfl)) (fun e => h.n6 rfl e.symm)).trans (h.x6 rfl), h.n2, fun _ e => ?_, fun e => ?_, h.be.grown h3 h.be.size (fun b hb => (row_lt2 h.rc b hb).1)⟩
  · rcases h5 with h5 | h5
    · exact h.n6 rfl (h5.symm.trans e)
    · have := h5.symm.trans e
      have e2 : W.heap.size = q.2.1 := by simpa using this
      have := lt_at (h.x6 rfl)
      omega
  · rcases h5 with h5 | h5
    · exact h.n12 (h5.symm.trans e)
    · have := h5.symm.trans e
      have e2 : W.heap.size = b12 := by simpa using this
      have := lt_at h.rb
      omega
end
theorem bs_bp (W : World) (a : Option Addr) : (Instr.buildSlice 24 1 #[(0, .pointer a)]).run Tryz.prog W = .ok (.slice (some ⟨W.heap.size, 0, none⟩) 1 1) (W.alloc (.cells #[.pointer a] 27)) := by go_simp
theorem bs_br (W : World) (d : Option Addr × Nat × Nat) : (Instr.buildSlice 25 1 #[(0, .agg #[dV d])]).run Tryz.prog W = .ok (.slice (some ⟨W.heap.size, 0, none⟩) 1 1) (W.alloc (.cells #[dV d] 29)) := by
  unfold dV
  go_simp
/-- Both rows between the rounds. -/
structure JV (w : World) (k : Nat) (vs : List Value) (ds : List (Option Addr × Nat × Nat)) (ls : List (List N3)) (va vb : Value) (V : World) : Prop where
  al : Al V vs ds ls
  ra : V.ownsRow w.heap.size 27 1 va k vs
  rc : V.ownsRow w.heap.size 29 1 vb k (ds.map dV)
  be : Below w.heap.size w V
theorem JV.bvs {w : World} {k : Nat} {vs : List Value} {ds : List (Option Addr × Nat × Nat)} {ls : List (List N3)} {va vb : Value} {V : World} (h : JV w k vs ds ls va vb V) (hk : ls.length = k) : (∃ a c, va = .slice a k c ∧ BVs V a vs ls) ∧ (∃ a c, vb = .slice a k c ∧ DBs V a ds ls) := by
  have key : ∀ {e : TypeId} {x : Value} {xs : List Value}, V.ownsRow w.heap.size e 1 x k xs → xs.length = k → ∃ a c, x = .slice a k c ∧ (xs ≠ [] → ∃ b off, a = some ⟨b, off, none⟩ ∧ b < V.heap.size ∧ ∀ (i : Nat) u, xs[i]? = some u → V.cell? ⟨b, off + i, none⟩ = some u) := fun {e x xs} hr hl => by
    rcases own_form hr with ⟨e1, e2⟩ | ⟨g, cap, e1, h1, h2, h3⟩
    · subst e1
      subst e2
      exact ⟨none, 0, rfl, fun hne => absurd (List.length_eq_zero_iff.1 hl) hne⟩
    · subst e1
      exact ⟨_, cap, rfl, fun _ => ⟨g, 0, rfl, h2, fun i u hu => by rw [Nat.zero_add]; exact (hr.cellAt _ (by have := (List.getElem?_eq_some_iff.1 hu).1; omega)).trans hu⟩⟩
  obtain ⟨a, c, e, hr⟩ := key h.ra (by rw [h.al.lv]; exact hk)
  obtain ⟨a', c', e', hr'⟩ := key h.rc (by rw [List.length_map, h.al.ld]; exact hk)
  refine ⟨⟨a, c, e, h.al.lv, hr, h.al.a⟩, a', c', e', h.al.ld, fun hne => ?_, fun i d l h1 h2 => ?_⟩
  · obtain ⟨b, off, e2, hb, hc⟩ := hr' (by simpa using hne)
    exact ⟨b, off, e2, hb, fun i d hd => hc i (dV d) (by rw [List.getElem?_map, hd]; rfl)⟩
  · obtain ⟨h3, h4, h5, h6, _⟩ := h.al.b i d l h1 h2
    exact ⟨h3, h4, h5, h6⟩
theorem jl2_start {w wr y1 : World} {k : Nat} {vs : List Value} {ds : List (Option Addr × Nat × Nat)} {ls : List (List N3)} {v : Value} {d : Option Addr × Nat × Nat} {va vb : Value} {b12 : Nat} (hal : Al y1 (vs ++ [v]) (ds ++ [d]) ls) (rb : RB y1 b12 (dV d)) (ra : wr.ownsRow w.heap.size 27 1 va k vs) (rc : wr.ownsRow w.heap.size 29 1 vb k (ds.map dV)) (hb : Below wr.heap.size wr y1) (be : Below w.heap.size w wr) (hb12 : wr.heap.size ≤ b12) : JL2 w k vs ds ls v d va vb b12 (0, 0, .slice none 0 0, .slice none 0 0) false false false false y1 :=
  ⟨hal, rb, row_below ra hb, row_below rc hb, fun e => (by cases e), fun e => (by cases e), fun e => (by cases e), fun e => (by cases e), fun e => (by have := (row_lt2 rc _ e).2; omega), bel2 be hb⟩
theorem lvl_le {V : World} {a : Option Addr} {vs : List Value} {ls : List (List N3)} (h : BVs V a vs ls) : (lvl ls).length ≤ 100 := by
  unfold lvl
  split
  · rw [lvs_len]
    cases ls with
    | nil => simp
    | cons l t =>
      obtain ⟨v, _, _, _, hb, _⟩ := h.at (k := 0) (l := l) rfl
      exact hb.len
  · simp
end Go.Proofs.YtddblfffjhoiaabGreat
