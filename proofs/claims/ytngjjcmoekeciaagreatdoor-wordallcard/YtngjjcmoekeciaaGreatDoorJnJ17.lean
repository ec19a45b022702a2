/- The book of words: Row: what it keeps; both Scans of one text. -/
import Derived.Test.YtngjjcmoekeciaaGreatDoorKqm
import Derived.Test.YtngjjcmoekeciaaGreatDoorJnJ15
import Derived.Test.YtngjjcmoekeciaaGreatDoorJnJ16
import Derived.Test.YtngjjcmoekeciaaGreatDoorVlb
namespace Go.Proofs.YtngjjcmoekeciaaGreatDoor
open Go.RowKit Go.Shelf Go.Lib
set_option linter.unusedVariables false

/-- Words lie where they lay. -/
def TokAb (W V : World) : Prop := ∀ (g : Nat) (cur : Array Value), W.heap[g]? = some (.cells cur 50 (0, 0)) → V.heap[g]? = W.heap[g]?
theorem TokAb.refl (W : World) : TokAb W W := fun _ _ _ => rfl
theorem TokAb.trans {W V U : World} (h : TokAb W V) (k : TokAb V U) : TokAb W U := fun g cur hg => (k g cur ((h g cur hg).trans hg)).trans (h g cur hg)
theorem TokAb.of {W V : World} (h : Below W.heap.size W V) : TokAb W V := fun g cur hg => h.block g (lt_at hg)
set_option maxHeartbeats 8000000 in
set_option maxRecDepth 100000 in
theorem bkrow_any {base bb : Nat} {w1 w : World} {l : List Fq} {L : List (List Fq)} {r : Value} {x : List Value} {C : Array Value} {uT vT : Value} {xT yT : List Value} {LT : List (List Kel.tTokens)} {uR vR : Value} {xR yR : List Value} {LR : List (List Kel.tRows)} (h : Kel.BkW base bb w C uT vT xT yT LT uR vR xR yR LR) (hbb : base ≤ bb) (hbz : base ≤ w.heap.size) (hb1 : base ≤ w1.heap.size) (hS : LnS base w1 l L r x w) (hm : l.length ≤ 1000000) (hL : L.length ≤ 1000000) (hold : ∀ (i : Nat) (z : Value), xT[i]? = some z → z.ownBlock ≠ some w1.heap.size) (hru : ∀ g, (uT.ownBlock = some g ∨ vT.ownBlock = some g) → r.ownBlock ≠ some g) (hrx : ∀ (i g : Nat) (z' : Value), xR[i]? = some z' → r.ownBlock = some g → z'.ownBlock ≠ some g) :
    Calls Tryz.prog 12 #[.pointer (some ⟨bb, 0, none⟩), r] w fun e w' => e = .returned (.tuple #[]) ∧ (∃ C' uT' vT' xT' yT' LT' uR' vR' xR' yR' LR', Kel.BkW base bb w' C' uT' vT' xT' yT' LT' uR' vR' xR' yR' LR') ∧ TokAb w w' ∧ Below base w w' := by
  obtain ⟨ao, co, er, _⟩ := Kel.rowForm hS.rw
  subst er
  obtain ⟨n, hn⟩ : ∃ n, L.length = n := ⟨_, rfl⟩
  have HN : Hid (L.length = n) := hn
  have HS0 : Hid (LnS base w1 l L (.slice ao L.length co) x w) := hS
  have hrx' : Hid (∀ (i g : Nat) (z' : Value), xR[i]? = some z' → (Value.slice ao L.length co).ownBlock = some g → z'.ownBlock ≠ some g) := hrx
  rw [hn] at hru hS ⊢
  clear hrx hn
  have hn6 : n ≤ 1000000 := by have := HN.out; omega
  go_enter Tryz.func12, Tryz.ntmps12
  go_wp2
  go_loopw [4] (fun i wz => ∃ (m : Nat) (C : Array Value) (uT vT : Value) (xT yT : List Value) (LT : List (List Kel.tTokens)), i = .int .i64 (m : Int) ∧ m ≤ n ∧ Kel.BkW base bb wz C uT vT xT yT LT uR vR xR yR LR ∧ LnS base w1 l L (.slice ao n co) x wz ∧ (∀ (i : Nat) (z : Value), xT[i]? = some z → z.ownBlock ≠ some w1.heap.size ∨ ∃ j d, j < m ∧ L[j]? = some d ∧ z = pcV w1.heap.size L j d) ∧ (∀ g, (uT.ownBlock = some g ∨ vT.ownBlock = some g) → (Value.slice ao n co).ownBlock ≠ some g) ∧ TokAb w wz ∧ Below base w wz) (fun i _ => n - vnatQ i)
  case atStart => exact ⟨0, C, uT, vT, xT, yT, LT, rfl, Nat.zero_le _, h, hS, fun i z hz => .inl (hold i z hz), hru, TokAb.refl _, Below.refl _ _⟩
  case round =>
    clear h hold hru hS
    obtain ⟨m, C, uT, vT, xT, yT, LT, rfl, hmn, hK, hS, hold, hru, htab, hbw⟩ := hrel
    have hbz2 : base ≤ wr.heap.size := Nat.le_trans hbz hbw.size
    by_cases hml : m < n
    · have hmi : (m : Int) < (n : Int) := by omega
      obtain ⟨d, hd⟩ : ∃ d, L[m]? = some d := ⟨_, List.getElem?_eq_getElem (by rw [HN.out]; exact hml)⟩
      have hrow := hS.rw
      rw [HN.out] at hrow
      rcases Kel.own_form hrow with ⟨_, e⟩ | ⟨rb, cap, e, _⟩
      · omega
      cases e
      obtain ⟨k1, k2, k3⟩ := hS.kq.pc hd
      have hpq := pc_pq hS.kq hS.row hm hb1 hd
      obtain ⟨o, eo, _⟩ := pc_pz (base := 0) hS.kq hS.row hm (Nat.zero_le _) hd
      have hdl : d.length ≤ 1000000 := by omega
      have haz : ∀ (i : Nat) (z' : Value), xT[i]? = some z' → Kel.Az 4 z' (pcV w1.heap.size L m d) := fun i z' hz => by
        rcases hold i z' hz with q | ⟨j, d2, q1, q2, rfl⟩
        · exact Kel.Az.symm (Kel.Az.blk (fun g hg => by
            rw [eo] at hg
            cases hg
            exact q))
        · exact pc_az (by omega) q2 hd
      have htk := Kel.tok_any hK hbz2 hpq hdl haz
      have hcell : wr.cell? ⟨rb, m, none⟩ = some (pcV w1.heap.size L m d) := (hrow.cellAt m (by have := hS.lx; have := HN.out; omega)).trans k1
      have HPC : Hid (pcV w1.heap.size L m d = .slice (some ⟨w1.heap.size, o, none⟩) d.length d.length) := eo
      rw [eo] at hcell htk
      obtain ⟨dl, hdle⟩ : ∃ dl, d.length = dl := ⟨_, rfl⟩
      rw [hdle] at hcell htk
      have HDL : Hid (d.length = dl) := hdle
      clear hdle
      go_wp2_with (go_at_call 11; (with_reducible refine htk.mono ?_); rintro e u ⟨rfl, C', uT', vT', xT', yT', LT', hK', hF, hN⟩)
      go_roundw
      case rel =>
        obtain ⟨_, curr, hcr⟩ := Kel.rowBlk hrow rb rfl
        have hrlt := lt_at hcr
        refine ⟨m + 1, C', uT', vT', xT', yT', LT', by simp, by omega, hK', hS.move (fun g hg => ?_) (hF.ty hK.bk (fun g hg => hK.tk.tyuv hg) hS.row (by decide) (by decide)), fun i z hz => ?_, fun g hg hrg => ?_, htab.trans (fun g cur hg => hF.ty hK.bk (fun g hg => hK.tk.tyuv hg) hg (by decide) (by decide)), hbw.trans (hF.low hK.tk.kl.row hK.tk.cr hbb hbz2)⟩
        · cases hg
          exact hF.block rb hrlt (Kel.ty_ne hcr hK.bk (by decide)) (fun e => hru rb (.inl e) rfl) (fun e => hru rb (.inr e) rfl)
        · rcases hN.1 i z hz with rfl | ⟨j, q⟩
          · exact .inr ⟨m, d, by omega, hd, by rw [HPC.out, HDL.out]⟩
          · rcases hold j z q with q2 | ⟨j2, d2, q1, q2, q3⟩
            · exact .inl q2
            · exact .inr ⟨j2, d2, by omega, q2, q3⟩
        · have e9 : some rb = some g := hrg
          cases e9
          rcases hg with e | e
          · rcases hN.2.1 _ e with q | q
            · exact hru _ (.inl q) rfl
            · omega
          · rcases hN.2.2.1 _ e with q | q
            · exact hru _ (.inr q) rfl
            · omega
      case measure => simp [vnatQ]; omega
    · obtain rfl : m = n := by omega
      have hmi : ¬ (m : Int) < (m : Int) := by omega
      have hlx := hS.lx
      have hdp := hS.dp hm
      have hrow := hS.rw
      have hfc := hS.fc
      have hlen : (x.map toH).length = m := by rw [List.length_map, hlx, HN.out]
      have hrow2 : wr.ownsRow base 39 1 (.slice ao m co) (x.map toH).length (Kel.fc Kel.cRows (x.map toH)) := by
        rw [hfc, hlen]
        rw [HN.out] at hrow
        exact hrow
      have hrw := Kel.rows_any hK hbz2 hrow2 (by rw [hlen]; have := HN.out; omega) (by rw [hlen]; exact HN.out) hdp (fun i g z' hz hg => by have := hrx'.out i g z' hz; rw [HN.out] at this; exact this hg) hru
      go_wp2_with (go_at_call 23; (with_reducible refine hrw.mono ?_); rintro e u ⟨rfl, C', uR', vR', xR', yR', LR', hK', hF, hN⟩)
      go_end0
      exact ⟨rfl, ⟨_, _, _, _, _, _, _, _, _, _, _, hK'⟩, htab.trans (fun g cur hg => hF.ty hK.bk (fun g hg => hK.rw.tyuv hg) hg (by decide) (by decide)), hbw.trans (hF.low hK.rw.kl.row hK.rw.cr hbb hbz2)⟩
theorem fours_one : ∀ (n : Nat) (L : List ByteArray) (q : Fou), q ∈ fours n L → q.1 = 1 → q.2.1.size = 1
  | _, [], q, h, _ => by simp [fours] at h
  | n, x :: t, q, h, h1 => by
    rw [fours] at h
    rcases List.mem_append.1 h with h | h
    · unfold lineQ at h
      split at h
      · cases h
      · rcases List.mem_append.1 h with h | h
        · obtain ⟨y, hy, rfl⟩ := List.mem_map.1 h
          exact absurd h1 (cutR_stand x y hy).1
        · rw [List.mem_singleton.1 h]
          rfl
    · exact fours_one (n + 1) t q h h1
/-- Both Scans tell the same of a text. -/
theorem scan_both (s : ByteArray) : ∃ (l : List Fq) (er a b : Int), l.length ≤ 900000 ∧ (∀ (k : Nat) (x : Fq), l[k]? = some x → x.2.1.size ≤ 140737488351232) ∧ (∀ W : World, Calls Tryz.prog 5 #[.string s] W fun e w' => (∃ ad cap, e = .returned (.tuple #[.slice ad l.length cap, .int .i64 er, .int .i64 a, .int .i64 b]) ∧ w'.ownsRow W.heap.size 50 4 (.slice ad l.length cap) l.length (cq l)) ∧ Below W.heap.size W w') ∧ (∀ W : World, Calls Tryz.prog 6 #[.string s] W fun e w' => (∃ ad cap, e = .returned (.tuple #[.slice ad l.length cap, .int .i64 er, .int .i64 a, .int .i64 b]) ∧ w'.ownsRow W.heap.size 50 4 (.slice ad l.length cap) l.length (cq l)) ∧ Below W.heap.size W w') := by
  by_cases hs : s.size ≤ 65536
  · have hP : ∀ W : World, Calls Tryz.prog 5 #[.string s] W fun e w' => ScV s W.heap.size e w' ∧ Below W.heap.size W w' := fun W => callsIn_wide.1 (scan_in s hs W)
    have hD := fun W => rScan_any s hs W
    have hE := scan_eq s
    have hkk := kk_pre (s := s) (List.prefix_refl (linesOf s))
    unfold TxE at hE
    cases hb : badL (linesOf s) with
    | none =>
      rw [hb] at hE
      dsimp only at hE
      rw [hE, List.nil_append] at hD
      have hlen := fours_len 0 (linesOf s)
      have hcs := fours_cells 0 (linesOf s)
      refine ⟨fours 0 (linesOf s), 0, 0, 0, by omega, fun k x hx => ?_, fun W => (hP W).mono ?_, fun W => (hD W).mono ?_⟩
      · have hmem := List.mem_of_getElem? hx
        by_cases h1 : x.1 = 1
        · have := fours_one _ _ x hmem h1
          omega
        · obtain ⟨P, _, _, _, _, _, _, h5, _⟩ := text_stand s x hmem h1
          omega
      · rintro e w' ⟨h1, h2⟩
        unfold ScV at h1
        rw [hb] at h1
        obtain ⟨v, rfl, hr⟩ := h1
        obtain ⟨ad, cap, rfl⟩ := row_slice hr
        rw [hcs, cq_cells4] at hr
        exact ⟨⟨ad, cap, by rw [hlen], by rw [hlen]; exact hr⟩, h2⟩
      · rintro e w' ⟨h2, ad, cap, h1, hr⟩
        rw [cq_cells4] at hr
        exact ⟨⟨ad, cap, h1, hr⟩, h2⟩
    | some r =>
      obtain ⟨i, er, c⟩ := r
      rw [hb] at hE
      dsimp only at hE
      rw [hE, Nat.zero_add] at hD
      refine ⟨[], (er : Int), ((i + 1 : Nat) : Int), (c : Int), by simp, fun k x hx => by simp at hx, fun W => (hP W).mono ?_, fun W => (hD W).mono ?_⟩
      · rintro e w' ⟨h1, h2⟩
        unfold ScV at h1
        rw [hb] at h1
        exact ⟨⟨none, 0, h1, World.ownsRow_nil _ _ _ _⟩, h2⟩
      · rintro e w' ⟨h2, h1⟩
        exact ⟨⟨none, 0, h1, World.ownsRow_nil _ _ _ _⟩, h2⟩
  · refine ⟨[], 2, 0, 0, by simp, fun k x hx => by simp at hx, fun W => (scan_long s (by omega) W).mono ?_, fun W => (rScan_long s (by omega) W).mono ?_⟩
    · rintro e w' ⟨rfl, h2⟩
      exact ⟨⟨none, 0, rfl, World.ownsRow_nil _ _ _ _⟩, h2⟩
    · rintro e w' ⟨rfl, h2⟩
      exact ⟨⟨none, 0, rfl, World.ownsRow_nil _ _ _ _⟩, h2⟩
end Go.Proofs.YtngjjcmoekeciaaGreatDoor
namespace Go.Proofs.YtngjjcmoekeciaaGreatDoor
open Go.RowKit Go.Shelf Go.Lib
set_option linter.unusedVariables false

/-- The book of words stands. -/
def Kp (bb : Nat) (W : World) : Prop := ∃ C uT vT xT yT LT uR vR xR yR LR, Kel.BkW bb bb W C uT vT xT yT LT uR vR xR yR LR
theorem Kp.carry {bb : Nat} {W V : World} (h : Kp bb W) (hb : Below W.heap.size W V) : Kp bb V := by
  obtain ⟨C, uT, vT, xT, yT, LT, uR, vR, xR, yR, LR, hK⟩ := h
  exact ⟨C, uT, vT, xT, yT, LT, uR, vR, xR, yR, LR, hK.carry hb⟩
theorem Kp.lt {bb : Nat} {W : World} (h : Kp bb W) : bb < W.heap.size := by
  obtain ⟨C, uT, vT, xT, yT, LT, uR, vR, xR, yR, LR, hK⟩ := h
  exact lt_at hK.bk
/-- Lines wait to be kept. -/
def RowR (bb : Nat) (w1 : World) (l : List Fq) (L : List (List Fq)) (r : Value) (W : World) : Prop := ∃ x C uT vT xT yT LT uR vR xR yR LR, Kel.BkW bb bb W C uT vT xT yT LT uR vR xR yR LR ∧ LnS bb w1 l L r x W ∧ (∀ (i : Nat) (z : Value), xT[i]? = some z → z.ownBlock ≠ some w1.heap.size) ∧ (∀ g, (uT.ownBlock = some g ∨ vT.ownBlock = some g) → r.ownBlock ≠ some g) ∧ (∀ (i g : Nat) (z' : Value), xR[i]? = some z' → r.ownBlock = some g → z'.ownBlock ≠ some g)
theorem row_step {bb : Nat} {w1 W : World} {l : List Fq} {L : List (List Fq)} {r : Value} (h : RowR bb w1 l L r W) (hbw : bb ≤ w1.heap.size) (hm : l.length ≤ 1000000) (hL : L.length ≤ 1000000) : Calls Tryz.prog 12 #[.pointer (some ⟨bb, 0, none⟩), r] W fun e w' => e = .returned (.tuple #[]) ∧ Kp bb w' ∧ TokAb W w' ∧ Below bb W w' := by
  obtain ⟨x, C, uT, vT, xT, yT, LT, uR, vR, xR, yR, LR, hK, hS, h1, h2, h3⟩ := h
  exact bkrow_any hK (Nat.le_refl _) (Nat.le_of_lt (lt_at hK.bk)) hbw hS hm hL h1 h2 h3
theorem uv_lt {bb : Nat} {W : World} {C : Array Value} {uT vT : Value} {xT yT : List Value} {LT : List (List Kel.tTokens)} {uR vR : Value} {xR yR : List Value} {LR : List (List Kel.tRows)} (h : Kel.BkW bb bb W C uT vT xT yT LT uR vR xR yR LR) {g : Nat} (hg : uT.ownBlock = some g ∨ vT.ownBlock = some g) : g < W.heap.size := by
  obtain ⟨cur, hc⟩ := h.tk.tyuv hg
  exact lt_at hc
/-- Behind a call of Lines. -/
theorem ready_of {bb : Nat} {w1 W : World} {l : List Fq} {r : Value} {x : List Value} (h : Kp bb w1) (hb : Below w1.heap.size w1 W) (hr : W.ownsRow w1.heap.size 39 1 r (outL l).length x) (hq : Kq w1 l x (outL l)) (hrow : W.heap[w1.heap.size]? = some (.cells (cq l).toArray 50 (0, 0))) : RowR bb w1 l (outL l) r W := by
  have hlt := h.lt
  obtain ⟨C, uT, vT, xT, yT, LT, uR, vR, xR, yR, LR, hK⟩ := h
  have hrb : ∀ g, r.ownBlock = some g → w1.heap.size ≤ g := fun g hg => (Kel.row_lt hr g hg).1
  refine ⟨x, C, uT, vT, xT, yT, LT, uR, vR, xR, yR, LR, hK.carry hb, ⟨row_base hr (Nat.le_of_lt hlt), hrow, hq⟩, fun i z hz e => ?_, fun g hg e => ?_, fun i g z hz e e2 => ?_⟩
  · have := (hK.tk.kl.ltx hz e).2
    omega
  · have h1 := uv_lt hK hg
    have h2 := hrb g e
    omega
  · have h1 := (hK.rw.kl.ltx hz e2).2
    have h2 := hrb g e
    omega
theorem tok_step {bb : Nat} {wr u3 u6 : World} {l : List Fq} {L : List (List Fq)} {z r : Value} {x : List Value} (h : Kp bb wr) (h6 : Below wr.heap.size wr u6) (h3 : wr.heap.size ≤ u3.heap.size) (hz : u6.ownsRow wr.heap.size 50 4 z l.length (cq l)) (hzb : ∀ g, z.ownBlock = some g → g < u3.heap.size) (hm : l.length ≤ 1000000) (hr : u6.ownsRow u3.heap.size 39 1 r L.length x) (hrow : u6.heap[u3.heap.size]? = some (.cells (cq l).toArray 50 (0, 0))) (hq : Kq u3 l x L) : Calls Tryz.prog 11 #[.pointer (some ⟨bb, 0, none⟩), z] u6 fun e w' => e = .returned (.tuple #[]) ∧ RowR bb u3 l L r w' ∧ TokAb u6 w' ∧ Below bb u6 w' := by
  have hlt := h.lt
  obtain ⟨C, uT, vT, xT, yT, LT, uR, vR, xR, yR, LR, hK⟩ := h
  have hK6 := hK.carry h6
  have s6 := h6.size
  have hbz : bb ≤ u6.heap.size := by omega
  have hzp : Kel.Pq bb 50 4 z l.length (Kel.fc Kel.cTokens l) u6 := .inl (row_base hz (Nat.le_of_lt hlt))
  have hrb : ∀ g, r.ownBlock = some g → u3.heap.size ≤ g ∧ g < u6.heap.size := fun g hg => Kel.row_lt hr g hg
  refine (Kel.tok_any hK6 hbz hzp hm (fun i z' hz' => Kel.Az.blk (fun g hg e => ?_))).mono ?_
  · have h1 := (hK.tk.kl.ltx hz' hg).2
    have h2 := (Kel.row_lt hz g e).1
    omega
  rintro e w' ⟨rfl, C', uT', vT', xT', yT', LT', hK', hF, hN⟩
  have htab : TokAb u6 w' := fun g cur hg => hF.ty hK6.bk (fun g hg => hK6.tk.tyuv hg) hg (by decide) (by decide)
  refine ⟨rfl, ⟨x, C', uT', vT', xT', yT', LT', uR, vR, xR, yR, LR, hK', ⟨row_base (Kel.row_at hr (fun g hg => ?_)) (by omega), (htab _ _ hrow).trans hrow, hq⟩, fun i z' hz' e => ?_, fun g hg e => ?_, fun i g z' hz' e e2 => ?_⟩, htab, hF.low hK6.tk.kl.row hK6.tk.cr (Nat.le_refl _) hbz⟩
  · obtain ⟨_, cur, hc⟩ := Kel.rowBlk hr g hg
    have h1 := (hrb g hg).1
    exact hF.block g (lt_at hc) (Kel.ty_ne hc hK6.bk (by decide)) (fun e => by have := uv_lt hK (.inl e); omega) (fun e => by have := uv_lt hK (.inr e); omega)
  · rcases hN.1 i z' hz' with rfl | ⟨j, q⟩
    · have := hzb _ e
      omega
    · have := (hK.tk.kl.ltx q e).2
      omega
  · have h1 := hrb g e
    rcases hg with q | q
    · rcases hN.2.1 g q with q | q
      · have := uv_lt hK (.inl q)
        omega
      · omega
    · rcases hN.2.2.1 g q with q | q
      · have := uv_lt hK (.inr q)
        omega
      · omega
  · have h1 := (hK.rw.kl.ltx hz' e2).2
    have h2 := (hrb g e).1
    omega
theorem rdq_of {W : World} {base c n : Nat} {ad : Option Addr} {l : List Fq} (h : W.ownsRow base 50 4 (.slice ad n c) n (cq l)) (hn : l.length = n) : RdQ W ad l := by
  subst hn
  exact RdQ.own h
theorem row_tab {W V : World} {base n : Nat} {z : Value} {cs : List Value} (h : W.ownsRow base 50 4 z n cs) (hb : TokAb W V) : V.ownsRow base 50 4 z n cs := Kel.row_at h (fun g hg => by
  obtain ⟨_, cur, hc⟩ := Kel.rowBlk h g hg
  exact hb g cur hc)
theorem out_lenA (l : List Fq) : (outL l).length ≤ l.length + 1 := by
  have h := (lns_size l l.length (Nat.le_refl _)).2.1
  rw [List.take_length] at h
  unfold outL
  split
  · omega
  · simp; omega
end Go.Proofs.YtngjjcmoekeciaaGreatDoor
namespace Go.Proofs.YtngjjcmoekeciaaGreatDoor
open Go.RowKit Go.Shelf Go.Lib
set_option linter.unusedVariables false

theorem rdf_of {W : World} {base c n : Nat} {ad : Option Addr} {l : List Fq} (h : W.ownsRow base 50 4 (.slice ad n c) n (cq l)) : Kel.RdF W ad (Kel.fc Kel.cTokens l) := by
  obtain ⟨ad', c', e, hr, _⟩ := Kel.own_rd h
  cases e
  exact hr
set_option maxRecDepth 100000 in
theorem sameRow_yes {base base' : Nat} (ad ad' : Option Addr) (cap cap' : Nat) (x y : List Value) (L : List (List Fq)) (w : World) (h : w.ownsRow base 39 1 (.slice ad L.length cap) L.length x) (h' : w.ownsRow base' 39 1 (.slice ad' L.length cap') L.length y) (hx : RwQ w x L) (hy : RwQ w y L) (hl : L.length ≤ 4611686018427387904) : Calls Tryz.prog 9 #[.slice ad L.length cap, .slice ad' L.length cap'] w fun e w' => e = .returned (.bool true) ∧ Below w.heap.size w w' := by
  go_enter Tryz.func9, Tryz.ntmps9
  go_wp2_with (go_at_call 22; refine (sameR_yes ad ad' cap cap' x y L _ h h' hx hy hl).mono ?_; rintro e u ⟨rfl, hb⟩)
  go_ret
  exact ⟨rfl, hb⟩
set_option maxHeartbeats 40000000 in
set_option maxRecDepth 100000 in
theorem wordall_in (w : World) (ad : Option Addr) (cap : Nat) (l0 : List ByteArray) (htx : ∀ (k : Nat) (x : ByteArray), l0[k]? = some x → ∃ b off, ad = some ⟨b, off, none⟩ ∧ b < w.heap.size ∧ w.cell? ⟨b, off + k, none⟩ = some (.string x)) : Calls Tryz.prog 3 #[.slice ad l0.length cap] w fun e w' => e = .returned (.bool true) ∧ Below w.heap.size w w' := by
  obtain ⟨n, hn⟩ : ∃ n, l0.length = n := ⟨_, rfl⟩
  have HN : Hid (l0.length = n) := hn
  rw [hn]
  clear hn
  by_cases hl : (30 : Int) < (n : Int)
  · go_enter Tryz.func3, Tryz.ntmps3
    go_wp2_with (first | (have m := hb1; go_at_call 4; (with_reducible refine (alive_any _).mono ?_); rintro e u2 ⟨rfl, hb2⟩) | (go_at_call 4; (with_reducible refine (alive_any _).mono ?_); rintro e u1 ⟨rfl, hb1⟩))
    go_ret
    exact ⟨rfl, bel2 hb1 hb2⟩
  have hn30 : n ≤ 30 := by omega
  go_enter Tryz.func3, Tryz.ntmps3
  go_wp2_with (go_at_call 4; (with_reducible refine (alive_any _).mono ?_); rintro e uB ⟨rfl, hbB⟩; obtain ⟨w2, hw2⟩ : ∃ V, uB.alloc (.cells #[.slice none 0 0, .slice none 0 0, .slice none 0 0, .slice none 0 0, .slice none 0 0, .slice none 0 0, .slice none 0 0, .slice none 0 0, .slice none 0 0, .slice none 0 0, .slice none 0 0, .slice none 0 0, .slice none 0 0, .slice none 0 0, .slice none 0 0, .slice none 0 0, .slice none 0 0, .slice none 0 0, .slice none 0 0, .slice none 0 0, .slice none 0 0, .slice none 0 0, .slice none 0 0, .slice none 0 0] 38) = V := ⟨_, rfl⟩)
  have hBk : Kel.Bb 38 w2 uB.heap.size (Array.replicate 24 (.slice none 0 0)) := by rw [← hw2]; exact new_at rfl
  have hb2 : Below uB.heap.size uB w2 := by rw [← hw2]; exact (Below.refl _ uB).alloc (Nat.le_refl _) _
  have hK0 : Kp uB.heap.size w2 := ⟨_, _, _, _, _, _, _, _, _, _, _, Kel.BkW.nil hBk⟩
  clear hBk
  go_loopw [4] (fun i wz => ∃ k : Nat, i = .int .i64 (k : Int) ∧ k ≤ 2 * n ∧ Kp uB.heap.size wz ∧ Below uB.heap.size uB wz) (fun i _ => 2 * n - vnatQ i)
  case atStart => exact ⟨0, rfl, Nat.zero_le _, hK0, hb2⟩
  case round =>
    clear hK0 hb2 hw2
    obtain ⟨k, rfl, hk, hK, hbw⟩ := hrel
    by_cases hkn : k < 2 * n
    · have hki : (k : Int) < 2 * (n : Int) := by omega
      obtain ⟨q, hq⟩ : ∃ q, k % n = q := ⟨_, rfl⟩
      have hqn : q < n := by rw [← hq]; exact Nat.mod_lt _ (by omega)
      have hrem : (k : Int).tmod (n : Int) = (q : Int) := by rw [Int.tmod_eq_emod_of_nonneg (by omega), ← hq]; rfl
      have hqi : (q : Int) < (n : Int) := by omega
      have hn0 : ¬ (n : Int) = 0 := by omega
      clear hq
      obtain ⟨s, hs⟩ : ∃ s, l0[q]? = some s := ⟨_, List.getElem?_eq_getElem (by rw [HN.out]; exact hqn)⟩
      obtain ⟨b, off, rfl, hblt, hcl⟩ := htx q s hs
      have hbu : b < uB.heap.size := Nat.lt_of_lt_of_le hblt hbB.size
      have hcs : wr.cell? ⟨b, off + q, none⟩ = some (.string s) := (World.cell?_of_block (a := ⟨b, off + q, none⟩) ((hbw.block b hbu).trans (hbB.block b hblt))).trans hcl
      obtain ⟨l, er, ea, eb, hl5, hsz, hP, hD⟩ := scan_both s
      have hl6 : l.length ≤ 1000000 := by omega
      have hout := out_lenA l
      have sw := hbw.size
      have hkl := hK.lt
      go_wp2_with (first
        | (have m := hrs2; go_at_call 12; (with_reducible refine (hrs2).mono ?_); rintro e u10 ⟨rfl, hK10, htb10, hb10⟩; have s10 := hb10.size)
        | (have m := hln2; go_at_call 8; (with_reducible refine (hln2).mono ?_); rintro e u9 ⟨ao3, co3, x3, rfl, hr3, ⟨hx3, hq3, hrow3⟩, hb9⟩; have s9 := hb9.size; have hrs2 := row_step (ready_of hK8 hb9 hr3 hq3 hrow3) (by omega) hl6 (by omega))
        | (go_at_call 12; (with_reducible refine (hrs1).mono ?_); rintro e u8 ⟨rfl, hK8, htb8, hb8⟩; have s8 := hb8.size; have ho28 := row_tab (row_tab ho26 htb7) htb8; have hln2 := lines_any a2 c2 l u8 (rdq_of ho28 rfl) (by omega) hsz; clear hrs1)
        | (go_at_call 11; (with_reducible refine (htk).mono ?_); rintro e u7 ⟨rfl, hR7, htb7, hb7⟩; have s7 := hb7.size; have hrs1 := row_step hR7 (by omega) hl6 (by omega))
        | (go_at_call 9; (with_reducible refine (hsr).mono ?_); rintro e u6 ⟨rfl, hb6⟩; have s6 := hb6.size; have ho16 := row_below ho15 hb6; have ho26 := row_below ho25 hb6; have hr16 := row_below hr15 hb6; have hrow16 := (hb6.block _ (lt_at hrow15)).trans hrow15; have h6 : Below wr.heap.size wr u6 := bel2 (bel2 (bel2 (bel2 (bel2 hb1 hb2) hb3) hb4) hb5) hb6; have htk := tok_step (bb := uB.heap.size) hK h6 (by omega) ho16 (fun g hg => by have := (Kel.row_lt ho1 g hg).2; omega) hl6 hr16 hrow16 hq1)
        | (go_at_call 10; (with_reducible refine (hrl).mono ?_); rintro e u5 ⟨ao2, co2, x2, rfl, hr2, hrq2, hb5⟩; have s5 := hb5.size; have ho15 := row_below ho14 hb5; have ho25 := row_below ho24 hb5; have hr15 := row_below hr1 hb5; have hrow15 := (hb5.block _ (lt_at hrow1)).trans hrow1; have hsr := sameRow_yes ao1 ao2 co1 co2 x1 x2 (outL l) u5 hr15 hr2 (rw_of hrow15 hx1 hq1 (by omega)) hrq2 (by omega))
        | (go_at_call 8; (with_reducible refine (hln).mono ?_); rintro e u4 ⟨ao1, co1, x1, rfl, hr1, ⟨hx1, hq1, hrow1⟩, hb4⟩; have s4 := hb4.size; have ho14 := row_below ho13 hb4; have ho24 := row_below ho23 hb4; have hrl := rLines_any a2 c2 l u4 (rdq_of ho24 rfl) (by omega))
        | (go_at_call 7; (with_reducible refine (hsame).mono ?_); rintro e u3 ⟨rfl, hb3⟩; have s3 := hb3.size; have ho13 := row_below ho12 hb3; have ho23 := row_below ho2 hb3; have hln := lines_any a1 c1 l u3 (rdq_of ho13 rfl) (by omega) hsz)
        | (go_at_call 6; (with_reducible refine (hD _).mono ?_); rintro e u2 ⟨⟨a2, c2, rfl, ho2⟩, hb2⟩; have s2 := hb2.size; have ho12 := row_below ho1 hb2; have hsame := Kel.sameTokens_any a1 a2 l.length c1 c2 l rfl u2 (rdf_of ho12) (rdf_of ho2) (by omega))
        | (go_at_call 5; (with_reducible refine (hP _).mono ?_); rintro e u1 ⟨⟨a1, c1, rfl, ho1⟩, hb1⟩; have s1 := hb1.size))
      go_roundw
      case rel => exact ⟨k + 1, by simp, by omega, hK10, hbw.trans ((h6.mono sw).trans (hb7.trans (hb8.trans ((hb9.mono (by omega)).trans hb10))))⟩
      case measure => simp [vnatQ]; omega
    · have hki : ¬ (k : Int) < 2 * (n : Int) := by omega
      have hkl := hK.lt
      obtain ⟨C, uT, vT, xT, yT, LT, uR, vR, xR, yR, LR, hKB⟩ := hK
      have hap := Kel.apartW_any hKB (Nat.le_of_lt hkl)
      go_wp2_with (go_at_call 13; (with_reducible refine hap.mono ?_); rintro e u ⟨rfl, hbA⟩)
      go_ret
      exact ⟨rfl, hbB.trans ((hbw.trans hbA).mono hbB.size)⟩
end Go.Proofs.YtngjjcmoekeciaaGreatDoor
