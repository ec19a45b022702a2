import Derived.Test.YtmahamdmapbilaaGreatDoorJwJ34
import Derived.Test.YtmahamdmapbilaaGreatDoorProg
import Derived.Test.YtmahamdmapbilaaGreatDoorJwJ7
import Derived.Test.YtmahamdmapbilaaGreatDoorJwJ10
import Derived.Maps.AppendAt
import Derived.OwnWalk
import Derived.Laws.OwnMore
import Derived.Shelf.Abstract
import Derived.ArgAppend
import Derived.Laws.CopyRow
import Derived.Laws.CopyOwn
set_option maxHeartbeats 40000000
set_option maxRecDepth 100000
set_option linter.unusedVariables false
namespace Go.Proofs.YtmahamdmapbilaaGreatDoor
open Go.RowKit Go.Shelf Go.Lib
def spT (x : ByteArray) : ByteArray := x ++ ⟨#[32]⟩
theorem sp_size (x : ByteArray) : (spT x).size = x.size + 1 := by
 unfold spT
 rw [ByteArray.size_append]
 rfl
theorem sp_pre (x : ByteArray) : (spT x).extract 0 (0 + x.size) = x := by
 rw [Nat.zero_add]
 exact ByteArray.extract_append_eq_left rfl
theorem sp_last (x : ByteArray) : byt (spT x) (0 + x.size) = 32 := by
 have hfull : (spT x).extract 0 (spT x).size = spT x := by
  apply ByteArray.ext
  simp
 obtain ⟨a1, a2, a3, a4⟩ := rest_app (spT x) x ⟨#[32]⟩ 0 (Nat.zero_le _) (by rw [hfull]; rfl)
 obtain ⟨b1, b2, b3, b4⟩ := rest_app (spT x) ⟨#[32]⟩ ByteArray.empty (0 + x.size) a1 (by rw [a3, ByteArray.append_empty])
 exact b2 0 (by decide)
theorem wrd_nx {N : Nat} {k : Int} {x : ByteArray} (h : Wrd N k x) : (((nxD (spT x) 0 (LE (spT x) 1)).1 : Nat) : Int) = k ∧ (nxD (spT x) 0 (LE (spT x) 1)).2.1 = x.size ∧ (nxD (spT x) 0 (LE (spT x) 1)).2.2 = 0 := by
 obtain ⟨_, h1, h2, h3⟩ := h.there (spT x) 0 (by rw [sp_size]; omega) (sp_pre x) (.inr (.inl (sp_last x)))
 exact ⟨h1, by rw [h2]; omega, h3⟩
theorem wrd_cls {N : Nat} {k : Int} {x : ByteArray} (h : Wrd N k x) (h4 : cls (rn (spT x) 0 : Int) = 4) : k = 2 := by
 obtain ⟨h1, h2, h3⟩ := wrd_nx h
 unfold nxD at h1 h3
 split at h3
 · cases h3
 rename_i q1
 rw [if_neg q1, if_pos h4] at h1
 split at h3
 · cases h3
 rename_i q2
 rw [if_neg q2] at h1
 exact h1.symm
theorem wrd_two {N : Nat} {x : ByteArray} (h : Wrd N 2 x) : looseB x 0 = false := by
 obtain ⟨h1, h2, h3⟩ := wrd_nx h
 have hsz := sp_size x
 have hso := h.some
 have h4 : cls (rn (spT x) 0 : Int) = 4 ∧ runD (spT x) (spT x).size 0 = x.size := by
  unfold nxD at h1 h2 h3
  split at h3
  · cases h3
  rename_i q1
  rw [if_neg q1] at h1 h2
  split at h3
  · rename_i q4
    rw [if_pos q4] at h2
    split at h3
    · cases h3
    rename_i q2
    rw [if_neg q2] at h2
    exact ⟨q4, h2⟩
  rename_i q4
  rw [if_neg q4] at h1
  exfalso
  split at h1
  · split at h1 <;> (dsimp only at h1; omega)
  split at h1 <;> (dsimp only at h1; omega)
 obtain ⟨h4, h5⟩ := h4
 have hlo := loose_no_letter h4
 have hw : wdt (spT x) 0 ≤ x.size := by
  have hwl := wdt_le (spT x) 0 (by omega)
  rw [hsz, runD_on (spT x) x.size 0 (by omega) hlo (.inr h4)] at h5
  have := runD_le (spT x) x.size (0 + wdt (spT x) 0) hwl
  omega
 have hL : Loc (spT x) 0 x 0 x.size := ⟨by omega, by omega, .inl (by omega), by rw [sp_pre]; apply ByteArray.ext; simp⟩
 have := (hL.chr 0 hso (by rw [Nat.zero_add, Nat.zero_add]; exact hw)).2.2
 rw [Nat.zero_add] at this
 rw [this]
 exact hlo
theorem wrd_num {N : Nat} {x : ByteArray} (h : Wrd N 3 x) : ∃ v, numR x = some v := by
 obtain ⟨h1, h2, h3⟩ := wrd_nx h
 have hpre := sp_pre x
 rw [Nat.zero_add] at hpre
 unfold nxD at h1 h2 h3
 split at h3
 · cases h3
 rename_i q1
 rw [if_neg q1] at h1 h2
 split at h3
 · rename_i q4
   rw [if_pos q4] at h1
   exfalso
   split at h1 <;> (dsimp only at h1; omega)
 rename_i q4
 rw [if_neg q4] at h1 h2
 split at h3
 · rename_i q3
   rw [if_pos q3] at h2
   split at h3
   · cases h3
   rename_i v hv
   rw [hv] at h2
   dsimp only at h2
   rw [h2, hpre] at hv
   exact ⟨v, hv⟩
 rename_i q3
 rw [if_neg q3] at h1
 exfalso
 split at h1 <;> (dsimp only at h1; omega)
theorem wrd_pos {N : Nat} {k : Int} {x : ByteArray} (h : Wrd N k x) : k ≠ 0 := by
 obtain ⟨h1, h2, h3⟩ := wrd_nx h
 unfold nxD at h1 h3
 split at h3
 · cases h3
 rename_i q1
 rw [if_neg q1] at h1
 split at h3
 · rename_i q4
   rw [if_pos q4] at h1
   split at h3
   · cases h3
   rename_i q2
   rw [if_neg q2] at h1
   dsimp only at h1
   omega
 rename_i q4
 rw [if_neg q4] at h1
 split at h3
 · rename_i q3
   rw [if_pos q3] at h1
   split at h3
   · cases h3
   rename_i v hv
   rw [hv] at h1
   dsimp only at h1
   omega
 rename_i q3
 rw [if_neg q3] at h1
 split at h1 <;> (dsimp only at h1; omega)
theorem kw_cls {x : ByteArray} (h : kdW x ≠ 0) : cls (rn (spT x) 0 : Int) = 4 := by
 unfold kdW at h
 split at h
 · rename_i e; rw [e]; kernel_rfl
 split at h
 · rename_i e; rw [e]; kernel_rfl
 split at h
 · rename_i e; rw [e]; kernel_rfl
 · exact absurd rfl h
def WdT (q : Fou) : Prop := q.1 ≠ 0 ∧ q.2.1.size ≤ 65536 ∧ (q.1 = 3 → ∃ v, numR q.2.1 = some v) ∧ (kdW q.2.1 ≠ 0 → q.1 = 2) ∧ (q.1 = 2 → looseB q.2.1 0 = false)
theorem shp_wdt : ∀ (N : Nat) (so : Bool) (l : List Fou), N ≤ 65536 → Shp N so l → ∀ q ∈ l, WdT q
 | _, _, [], _, _, q, hq => by cases hq
 | N, so, x :: l, hN, h, q, hq => by
  rcases h with ⟨k1, k2, k3, hr⟩ | ⟨k1, hw, hr⟩
  · rcases List.mem_cons.1 hq with rfl | hq
    · refine ⟨by omega, by rw [k2]; decide, fun e => by omega, fun e => ?_, fun e => by omega⟩
      rw [k2] at e
      exact absurd (by decide) e
    · exact shp_wdt N false l hN hr q hq
  · rcases List.mem_cons.1 hq with rfl | hq
    · exact ⟨wrd_pos hw, Nat.le_trans hw.le hN, fun e => wrd_num (by rw [e] at hw; exact hw), fun e => wrd_cls hw (kw_cls e), fun e => wrd_two (by rw [e] at hw; exact hw)⟩
    · exact shp_wdt N true l hN hr q hq
theorem wdsT_of {l : List Tk4} (h : ∀ q ∈ l, WdT q) : WdsT l := by
 have hh : ∀ i, hereT l i ∈ l ∨ hereT l i = (0, ⟨#[]⟩, 0, 1) := fun i => by
   unfold hereT
   cases e : l[i]? with
   | none => exact .inr rfl
   | some x => exact .inl (List.mem_of_getElem? e)
 refine ⟨fun i x hx => (h x (List.mem_of_getElem? hx)).1, fun i => ?_, fun i hi => ?_, fun i hi => ?_, fun i hi => ?_⟩
 · rcases hh i with e | e
   · exact (h _ e).2.1
   · rw [e]; decide
 · rcases hh i with e | e
   · exact (h _ e).2.2.1 hi
   · rw [e] at hi; cases hi
 · rcases hh i with e | e
   · exact (h _ e).2.2.2.1 hi
   · rw [e] at hi; exact absurd (by decide) hi
 · rcases hh i with e | e
   · exact (h _ e).2.2.2.2 (oneS_k hi).1
   · rw [e] at hi; exact absurd (oneS_k hi).1 (by decide)
theorem scan_wds {s : ByteArray} {l : List Tk4} (hs : s.size ≤ 65536) (h : scD s (s.size + 2) 0 1 0 false [] = .inl l) : WdsT l := by
 obtain ⟨m, e, hm⟩ := sc_shp s (s.size + 2) 0 1 0 false [] l h (by omega) (fun _ => rfl)
 rw [List.nil_append] at e
 subst e
 exact wdsT_of (shp_wdt s.size false l hs hm)
theorem scan_len (s : ByteArray) (l : List Tk4) (h : scD s (s.size + 2) 0 1 0 false [] = .inl l) : l.length ≤ 2 * (s.size + 1) := by
 have hE := scan_eq s
 unfold TxE at hE
 have hkk := kk_pre (s := s) (List.prefix_refl (linesOf s))
 cases hb : badL (linesOf s) with
 | none =>
  rw [hb] at hE
  dsimp only at hE
  have e : (Sum.inl l : Res) = .inl ([] ++ fours 0 (linesOf s)) := h.symm.trans hE
  cases e
  rw [List.nil_append, fours_len]
  exact hkk
 | some r =>
  obtain ⟨i, er, c⟩ := r
  rw [hb] at hE
  dsimp only at hE
  rw [h] at hE
  cases hE
theorem sgI_ne {L : List Int} {x : Tk4} {q : ErT} (h : sgI L x = .error q) : q.1 ≠ 0 := by
 unfold sgI at h
 split at h
 · cases h
 · cases h; exact (by decide : (41 : Int) ≠ 0)
theorem sgR_ne {L : List Int} {l : List Tk4} {i : Nat} {q : ErT} (h : sgR L l i = .error q) : q.1 ≠ 0 := by
 unfold sgR at h
 split at h
 · exact sgI_ne h
 · cases h; exact (by decide : (80 : Int) ≠ 0)
theorem rnR_ne {l : List Tk4} {i : Nat} {q : ErT} (h : rnR l i = .error q) : q.1 ≠ 0 := by
 unfold rnR rnI at h
 split at h
 · split at h
   · cases h; exact (by decide : (73 : Int) ≠ 0)
   · cases h
 · cases h; exact (by decide : (80 : Int) ≠ 0)
theorem hdR_ne {L : List Int} {l : List Tk4} {i : Nat} {q : ErT} (h : hdR L l i = .error q) : q.1 ≠ 0 := by
 unfold hdR hdI at h
 split at h
 · split at h
   · cases h
   · rename_i h1; cases h; exact h1
 · cases h; exact (by decide : (80 : Int) ≠ 0)
theorem nteT_ne {L : List Int} {l : List Tk4} {i : Nat} {q : ErT} (h : nteT L l i = .error q) : q.1 ≠ 0 := by
 unfold nteT at h
 split at h
 · split at h
   · split at h
     · cases h
     · cases h; exact (by decide : (75 : Int) ≠ 0)
   · cases h; exact (by decide : (80 : Int) ≠ 0)
 · cases h; exact (by decide : (80 : Int) ≠ 0)
theorem stT_ne {L : List Int} {l : List Tk4} {i : Nat} {A : Int} {q : ErT} (h : stT L l i A = .error q) : q.1 ≠ 0 := by
 unfold stT at h
 split at h
 · cases h
 split at h
 · cases hs : sgI L (hereT l i) with
   | error x => rw [hs] at h; cases h; exact sgI_ne hs
   | ok o =>
    rw [hs] at h
    dsimp only at h
    split at h
    · cases h; exact (by decide : (75 : Int) ≠ 0)
    · cases hn : nteT L l i with
      | error x => rw [hn] at h; cases h; exact nteT_ne hn
      | ok n => rw [hn] at h; cases h
 · cases h; exact (by decide : (80 : Int) ≠ 0)
theorem nwR_ne {L : List Int} {l : List Tk4} : ∀ (f i : Nat) (A : Int) (q : ErT), nwR L l f i A = .error q → q.1 ≠ 0
 | 0, i, A, q, h => by cases h; exact (by decide : (80 : Int) ≠ 0)
 | f + 1, i, A, q, h => by
  rw [nwR] at h
  cases hs : stT L l i A with
  | error x => rw [hs] at h; cases h; exact stT_ne hs
  | ok o =>
   rw [hs] at h
   cases o with
   | none => cases h
   | some n =>
    dsimp only at h
    cases hn : nwR L l f (i + 3) n.1 with
    | error x => rw [hn] at h; cases h; exact nwR_ne f _ _ _ hn
    | ok y => rw [hn] at h; cases h
theorem nwR_cnt {L : List Int} {l : List Tk4} : ∀ (f i : Nat) (A : Int) (ns : List N3t) (j : Nat), nwR L l f i A = .ok (ns, j) → ns.length ≤ f
 | 0, i, A, ns, j, h => by cases h
 | f + 1, i, A, ns, j, h => by
  rw [nwR] at h
  cases hs : stT L l i A with
  | error x => rw [hs] at h; cases h
  | ok o =>
   rw [hs] at h
   cases o with
   | none => cases h; exact Nat.zero_le _
   | some n =>
    dsimp only at h
    cases hn : nwR L l f (i + 3) n.1 with
    | error x => rw [hn] at h; cases h
    | ok y =>
     rw [hn] at h
     obtain ⟨y1, y2⟩ := y
     cases h
     have := nwR_cnt f _ _ _ _ hn
     rw [List.length_cons]
     omega
theorem nwsR_ne {L : List Int} {l : List Tk4} {i : Nat} {q : ErT} (h : nwsR L l i = .error q) : q.1 ≠ 0 := by
 unfold nwsR at h
 split at h
 · exact nwR_ne _ _ _ _ h
 · cases h; exact (by decide : (80 : Int) ≠ 0)
theorem nwsR_cnt {L : List Int} {l : List Tk4} {i j : Nat} {ns : List N3t} (h : nwsR L l i = .ok (ns, j)) : ns.length ≤ l.length + 1 := by
 unfold nwsR at h
 split at h
 · exact nwR_cnt _ _ _ _ _ h
 · cases h
structure NtR (L : List Int) (l : List Tk4) (n : Nt5) : Prop where
 lo : 1 ≤ n.1
 hi : n.1 ≤ 3
 rd3 : n.1 = 3 → n.2.2.1 = 0
 hd2 : n.1 ≠ 2 → n.2.2.2.1 = 0
 lt : n.2.2.2.1 < S128
 len : n.2.2.2.2.length ≤ l.length + 1
theorem hdR_lt {L : List Int} (hS : Signs L) {l : List Tk4} {i N : Nat} (h : hdR L l i = .ok N) : N < S128 := by
 unfold hdR hdI at h
 split at h
 · split at h
   · cases h
     have h1 := parseR_lt hS (hereT l i).2.1
     have h2 : S100 ≤ S128 := by unfold S100 S128; decide
     omega
   · cases h
 · cases h
theorem s128_pos : 0 < S128 := by unfold S128; decide
theorem bodR_bad {L : List Int} {l : List Tk4} {q : ErT} (h : bodR L l = .error q) : q.1 ≠ 0 := by
 unfold bodR at h
 split at h
 · cases h; exact (by decide : (80 : Int) ≠ 0)
 split at h
 · unfold qR at h
   cases h1 : sgR L l 1 with
   | error x => rw [h1] at h; cases h; exact sgR_ne h1
   | ok fr =>
    rw [h1] at h
    dsimp only at h
    cases h2 : rnR l 2 with
    | error x => rw [h2] at h; cases h; exact rnR_ne h2
    | ok rd =>
     rw [h2] at h
     dsimp only at h
     cases h3 : nwsR L l 3 with
     | error x => rw [h3] at h; cases h; exact nwsR_ne h3
     | ok y => rw [h3] at h; cases h
 split at h
 · unfold pR at h
   cases h1 : sgR L l 1 with
   | error x => rw [h1] at h; cases h; exact sgR_ne h1
   | ok fr =>
    rw [h1] at h
    dsimp only at h
    cases h2 : rnR l 2 with
    | error x => rw [h2] at h; cases h; exact rnR_ne h2
    | ok rd =>
     rw [h2] at h
     dsimp only at h
     cases h4 : hdR L l 3 with
     | error x => rw [h4] at h; cases h; exact hdR_ne h4
     | ok N =>
      rw [h4] at h
      dsimp only at h
      cases h3 : nwsR L l 4 with
      | error x => rw [h3] at h; cases h; exact nwsR_ne h3
      | ok y => rw [h3] at h; cases h
 · unfold uR at h
   cases h1 : sgR L l 1 with
   | error x => rw [h1] at h; cases h; exact sgR_ne h1
   | ok fr =>
    rw [h1] at h
    dsimp only at h
    cases h3 : nwsR L l 2 with
    | error x => rw [h3] at h; cases h; exact nwsR_ne h3
    | ok y => rw [h3] at h; cases h
theorem bodR_ok {L : List Int} (hS : Signs L) {l : List Tk4} {n : Nt5} {j : Nat} (h : bodR L l = .ok (n, j)) : NtR L l n := by
 unfold bodR at h
 split at h
 · cases h
 split at h
 · unfold qR at h
   cases h1 : sgR L l 1 with
   | error x => rw [h1] at h; cases h
   | ok fr =>
    rw [h1] at h
    dsimp only at h
    cases h2 : rnR l 2 with
    | error x => rw [h2] at h; cases h
    | ok rd =>
     rw [h2] at h
     dsimp only at h
     cases h3 : nwsR L l 3 with
     | error x => rw [h3] at h; cases h
     | ok y =>
      rw [h3] at h
      obtain ⟨ns, k⟩ := y
      cases h
      exact ⟨Nat.le_refl 1, (by decide : (1 : Nat) ≤ 3), fun e => absurd e (by decide : ¬ (1 : Nat) = 3), fun _ => rfl, s128_pos, nwsR_cnt h3⟩
 split at h
 · unfold pR at h
   cases h1 : sgR L l 1 with
   | error x => rw [h1] at h; cases h
   | ok fr =>
    rw [h1] at h
    dsimp only at h
    cases h2 : rnR l 2 with
    | error x => rw [h2] at h; cases h
    | ok rd =>
     rw [h2] at h
     dsimp only at h
     cases h4 : hdR L l 3 with
     | error x => rw [h4] at h; cases h
     | ok N =>
      rw [h4] at h
      dsimp only at h
      cases h3 : nwsR L l 4 with
      | error x => rw [h3] at h; cases h
      | ok y =>
       rw [h3] at h
       obtain ⟨ns, k⟩ := y
       cases h
       exact ⟨(by decide : (1 : Nat) ≤ 2), (by decide : (2 : Nat) ≤ 3), fun e => absurd e (by decide : ¬ (2 : Nat) = 3), fun e => absurd rfl e, hdR_lt hS h4, nwsR_cnt h3⟩
 · unfold uR at h
   cases h1 : sgR L l 1 with
   | error x => rw [h1] at h; cases h
   | ok fr =>
    rw [h1] at h
    dsimp only at h
    cases h3 : nwsR L l 2 with
    | error x => rw [h3] at h; cases h
    | ok y =>
     rw [h3] at h
     obtain ⟨ns, k⟩ := y
     cases h
     exact ⟨(by decide : (1 : Nat) ≤ 3), Nat.le_refl 3, fun _ => rfl, fun _ => rfl, s128_pos, nwsR_cnt h3⟩
theorem rdW_ne {L : List Int} {l : List Tk4} {q : ErT} (h : rdWT L l = .error q) : q.1 ≠ 0 := by
 unfold rdWT at h
 cases hb : bodR L l with
 | error x => rw [hb] at h; cases h; exact bodR_bad hb
 | ok y =>
  obtain ⟨n, j⟩ := y
  rw [hb] at h
  dsimp only at h
  split at h
  · split at h
    · cases h
    · cases h; exact (by decide : (80 : Int) ≠ 0)
  · cases h; exact (by decide : (80 : Int) ≠ 0)
theorem rdW_ok {L : List Int} (hS : Signs L) {l : List Tk4} {n : Nt5} (h : rdWT L l = .ok n) : NtR L l n := by
 unfold rdWT at h
 cases hb : bodR L l with
 | error x => rw [hb] at h; cases h
 | ok y =>
  obtain ⟨m, j⟩ := y
  rw [hb] at h
  dsimp only at h
  split at h
  · split at h
    · cases h; exact bodR_ok hS hb
    · cases h
  · cases h
theorem rdn_ownT {W : World} {base : Nat} {a : Option Addr} {c : Nat} {l : List N3t} (h : W.ownsRow base 124 3 (.slice a l.length c) l.length (fl l)) : RdN W a l := fun hl => by
 rcases own_form h with ⟨_, e⟩ | ⟨g, cap, e, h1, h2, h3⟩
 · exact absurd (List.length_eq_zero_iff.1 e) hl
 · cases e
   exact ⟨g, 0, rfl, h2, nts_own h rfl⟩
theorem row_sliceT {w : World} {base size : Nat} {e : TypeId} {v : Value} {n : Nat} {xs : List Value} (h : w.ownsRow base e size v n xs) : ∃ ad cap, v = .slice ad n cap := by
 rcases own_form h with ⟨e1, e2⟩ | ⟨g, cap, e1, _⟩
 · exact ⟨none, 0, by rw [e1, e2]⟩
 · exact ⟨_, cap, e1⟩
end Go.Proofs.YtmahamdmapbilaaGreatDoor
namespace Go.Proofs.YtmahamdmapbilaaGreatDoor
open Go.RowKit Go.Shelf
theorem bel2Q {w w1 w2 : World} (h : Below w.heap.size w w1) (k : Below w1.heap.size w1 w2) : Below w.heap.size w w2 := h.trans (k.mono h.size)
theorem al1Q' (w : World) (o : Obj) : Below w.heap.size w (w.alloc o) := (Below.refl _ w).alloc (Nat.le_refl _) o
theorem add_plQ (b off j : Nat) : (⟨b, off, none⟩ : Addr).add j = ⟨b, off + j, none⟩ := by unfold Addr.add; split <;> simp_all
theorem own_formQ {W : World} {base : Nat} {e : TypeId} {size : Nat} {v : Value} {n : Nat} {xs : List Value} (h : W.ownsRow base e size v n xs) : (v = .slice none 0 0 ∧ n = 0) ∨ ∃ g cap, v = .slice (some ⟨g, 0, none⟩) n cap ∧ base ≤ g ∧ g < W.heap.size ∧ n ≤ cap ∧ cap ≤ maxLen ∧ ∃ cur, W.heap[g]? = some (.cells cur e (0, 0)) := by
 rcases h.2 with h1 | ⟨g, cap, cur, h1, h2, h3, h4, h5, _⟩
 · exact .inl h1
 · exact .inr ⟨g, cap, h1, h2, zla h3, h4, h5, cur, h3⟩
theorem row_belowV {w w' : World} {base : Nat} {e : TypeId} {size : Nat} {v : Value} {n : Nat} {xs : List Value} (h : w.ownsRow base e size v n xs) (hb : Below w.heap.size w w') : w'.ownsRow base e size v n xs := by
 refine ⟨h.1, ?_⟩
 rcases h.2 with h1 | ⟨g, cap, cur, h1, h2, h3, h4⟩
 · exact .inl h1
 · exact .inr ⟨g, cap, cur, h1, h2, (hb.block _ (zla h3)).trans h3, h4⟩
theorem rowBlk {w : World} {base : Nat} {e : TypeId} {size : Nat} {v : Value} {n : Nat} {xs : List Value} (h : w.ownsRow base e size v n xs) : ∀ g, v.ownBlock = some g → base ≤ g ∧ ∃ cur, w.heap[g]? = some (.cells cur e (0, 0)) := by
 intro g hg
 rcases h.2 with ⟨rfl, _⟩ | ⟨g', cap, cur, rfl, h4, h5, _⟩
 · cases hg
 · cases hg
   exact ⟨h4, cur, h5⟩
theorem row_lt2 {w : World} {base : Nat} {e : TypeId} {size : Nat} {v : Value} {n : Nat} {xs : List Value} (h : w.ownsRow base e size v n xs) : ∀ b, v.ownBlock = some b → base ≤ b ∧ b < w.heap.size := fun b hb => by
 obtain ⟨h1, cur, h2⟩ := rowBlk h b hb
 exact ⟨h1, zla h2⟩
theorem info_parts {t : TypeId} {z : Option Value} {s b : Nat} (h : (Tryz.prog.info? t).map (fun i => (i.zero, i.size, i.bytes)) = some (z, s, b)) : ∃ i, Tryz.prog.info? t = some i ∧ i.zero = z ∧ i.size = s ∧ i.bytes = b := by
 cases hi : Tryz.prog.info? t with
 | none => rw [hi] at h; cases h
 | some i =>
  rw [hi] at h
  simp only [Option.map_some, Option.some.injEq, Prod.mk.injEq] at h
  exact ⟨i, rfl, h.1, h.2.1, h.2.2⟩
section
variable {G : Type} {P : Program} {md : Region.Mode} {ops : Array Oper} {Q : Exit → Act → World → Prop} {X0 : Array Value} {val : G → Nat → Value} {J : G → (Nat → Bool) → World → Prop} {i : Nat} {o : Oper}
theorem stepG_buildG (hi : ops[i]? = some o) (hg : o.guard = none) (t : TypeId) (x : Operand) (v : G → Value) (ho : o.op = .buildSlice t 1 #[(0, x)]) (hx : ∀ g, rdo md ops X0 (val g) i o x = some (v g))
  (h : ∀ g d w, J g d w → d i = false → (∀ j, bindsOn md o j = true → d j = true) → (∀ j oj, ops[j]? = some oj → d j = true → ∀ k, bindsOn md oj k = true → d k = true) → ∃ g' w', (Instr.buildSlice t 1 #[(0, v g)]).run P w = .ok (val g' i) w' ∧ (∀ j, d j = true → val g' j = val g j) ∧ J g' (fun j => if j = i then true else d j) w') : StepG P md ops Q X0 val J i o := by
 intro g d a w hJ hun hdep hcl hS
 have hS' : Seen md ops X0 (val g) i o a := hS
 obtain ⟨g', w', h1, h2, h3⟩ := h g d w hJ hun hdep hcl
 unfold wpOp
 rw [hi]
 simp only [Region.wanted, hg, if_true]
 refine .inl ?_
 unfold Oper.wp execOp
 simp only [ho, List.map_toArray, List.map_cons, List.map_nil, hS'.eval (hx g), Sem.run_bind, h1, Result.andThen_ok, Sem.run_pure, Oper.upon_value]
 exact ⟨g', h2, rfl, h3⟩
theorem stepGQ_append (hi : ops[i]? = some o) (hg : o.guard = none) (t : TypeId) (x y : Operand) (vx vy : G → Value) (ho : o.op = .call { callee := .builtin .append, args := #[x, y], argTypes := #[t, t] }) (hx : ∀ g, rdo md ops X0 (val g) i o x = some (vx g)) (hy : ∀ g, rdo md ops X0 (val g) i o y = some (vy g))
  (h : ∀ g d w, J g d w → d i = false → (∀ j, bindsOn md o j = true → d j = true) → (∀ j oj, ops[j]? = some oj → d j = true → ∀ k, bindsOn md oj k = true → d k = true) → ∃ g' w', (Builtin.append_ #[t, t] o.type #[vx g, vy g]).run P w = .ok (val g' i) w' ∧ (∀ j, d j = true → val g' j = val g j) ∧ J g' (fun j => if j = i then true else d j) w') : StepG P md ops Q X0 val J i o := by
 intro g d a w hJ hun hdep hcl hS
 have hS' : Seen md ops X0 (val g) i o a := hS
 obtain ⟨g', w', h1, h2, h3⟩ := h g d w hJ hun hdep hcl
 unfold wpOp
 rw [hi]
 simp only [Region.wanted, hg, if_true]
 refine .inl ?_
 unfold Oper.wp execOp
 simp only [ho, resolve, invoke, builtin, List.map_toArray, List.map_cons, List.map_nil, hS'.eval (hx g), hS'.eval (hy g), Sem.run_bind, h1, Result.andThen_ok, Sem.run_pure, Oper.upon_value]
 exact ⟨g', h2, rfl, h3⟩
end
end Go.Proofs.YtmahamdmapbilaaGreatDoor
