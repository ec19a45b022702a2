import Derived.Test.YtmahamdmapbilaaGreatDoorJwJ36
import Derived.Test.YtmahamdmapbilaaGreatDoorJwJ35
import Derived.Test.YtmahamdmapbilaaGreatDoorJwJ22
import Derived.Test.YtmahamdmapbilaaGreatDoorJwJ21
import Derived.Test.YtmahamdmapbilaaGreatDoorJwJ25
import Derived.Test.YtmahamdmapbilaaGreatDoorJwJ34
set_option maxHeartbeats 40000000
set_option maxRecDepth 100000
set_option linter.unusedVariables false
namespace Go.Proofs.YtmahamdmapbilaaGreatDoor
open Go.RowKit Go.Shelf Go.Lib
theorem qS_read : readT [945, 946, 947] (scR ⟨#[113, 117, 101, 114, 121, 32, 206, 179, 32, 55, 32, 91, 93]⟩) = .ok (1, 2, 7, 0, []) := by kernel_rfl
theorem alive_any8 (w : World) (hP : Pow w) (hU : Ut w) : Calls Tryz.prog 8 #[] w fun e w' => e = .returned (.bool true) ∧ Below w.heap.size w w' := by
 have hrd := read_any abg (by decide) w
 unfold RdV at hrd
 rw [abg_read] at hrd
 dsimp only at hrd
 have HRU : Hid (∀ (M : Nat) (sl mp : Value) (V : World), Ros M V (.agg #[sl, mp]) [945, 946, 947] → M ≤ V.heap.size → Pow V → Calls Tryz.prog 24 #[.agg #[sl, mp], .agg #[.int .i64 1, .slice none 0 0]] V fun e w' => e = .returned (.tuple #[.string ⟨#[114, 117, 109, 111, 114, 32, 206, 178, 32, 91, 93]⟩, .int .i64 0]) ∧ Below V.heap.size V w') := fun M sl mp V hR hM hP => (trumor_any hR hM hP 1 none 0 [] (fun e => absurd rfl e) (by simp)).mono (fun _ _ q => q.form abg_tell abg_flt)
 have HRQ : Hid (∀ (M : Nat) (sl mp : Value) (V : World), Ros M V (.agg #[sl, mp]) [945, 946, 947] → M ≤ V.heap.size → Ut V → Calls Tryz.prog 7 #[.agg #[sl, mp], .string ⟨#[113, 117, 101, 114, 121, 32, 206, 179, 32, 55, 32, 91, 93]⟩] V fun e w' => ∃ a c, e = .returned (.tuple #[.iface 92 (.agg #[.int .i64 2, .int .i64 7, .slice a 0 c]), .int .i64 0, .int .i64 0]) ∧ Below V.heap.size V w') := fun M sl mp V hR hM hU => by
  have := read_any8 hR hM hU (scans_any ⟨#[113, 117, 101, 114, 121, 32, 206, 179, 32, 55, 32, 91, 93]⟩)
  rw [qS_read] at this
  refine this.mono ?_
  rintro e w' ⟨v, rfl, h1, h2⟩
  obtain ⟨a, c, rfl⟩ := row_sliceT h1
  exact ⟨a, c, rfl, h2⟩
 have s1 := asQ_Q
 have hq := abg_eq2
 unfold abg at hrd
 have HP : Hid (Pow w) := hP
 have HU : Hid (Ut w) := hU
 clear hP hU
 go_enter Tryz.func8, Tryz.ntmps8
 go_wp2_with (first
  | (go_at_call 7; (with_reducible refine (HRQ.out _ _ _ _ hv3 hm3 (HU.out.carry hw3)).mono ?_); rintro e u4 ⟨a, c, rfl, hu4⟩)
  | (go_at_call 24; (with_reducible refine (HRU.out _ _ _ _ hv2 hm2 (HP.out.carry hw2)).mono ?_); rintro e u3 ⟨rfl, hu3⟩; (have hv3 := hv2.below (hu3.mono hm2)); (have hm3 := Nat.le_trans hm2 hu3.size); (have hw3 := bel3 hw2 hu3); (have g3 := (hu3.block _ (zla g2)).trans g2); (have a0 : u3.cell? ⟨u1.heap.size, 0, none⟩ = some (.slice ad n cap) := (zca g3 0).trans rfl); (have a1 : u3.cell? ⟨u1.heap.size, 1, none⟩ = some (.map mb) := (zca g3 1).trans rfl))
  | (go_at_call 6; (with_reducible refine hrd.mono ?_); rintro e u1 ⟨⟨v, rfl, hv⟩, hu1⟩; obtain ⟨ad, n, cap, mb, rfl⟩ : ∃ ad n cap mb, v = .agg #[.slice ad n cap, .map mb] := (by obtain ⟨ad, cap, mb, e⟩ := hv.form; exact ⟨_, _, _, _, e⟩); obtain ⟨u2, hu2⟩ : ∃ u2, u1.alloc (.cells #[.slice ad n cap, .map mb] 25) = u2 := ⟨_, rfl⟩; (have hb2 : Below u1.heap.size u1 u2 := by rw [← hu2]; exact al1t _ _); (have g2 : u2.heap[u1.heap.size]? = some (.cells #[.slice ad n cap, .map mb] 25 (0, 0)) := by rw [← hu2]; exact zna rfl); (have hv2 := hv.below hb2); (have hm2 := hb2.size); (have hw2 := bel3 hu1 hb2); (have b0 : u2.cell? ⟨u1.heap.size, 0, none⟩ = some (.slice ad n cap) := (zca g2 0).trans rfl); (have b1 : u2.cell? ⟨u1.heap.size, 1, none⟩ = some (.map mb) := (zca g2 1).trans rfl)))
 go_ret
 exact ⟨rfl, bel3 (bel3 hw3 hu4) (al1t _ _)⟩
theorem psGo_topW {l : List Int} (h : Signs l) : ∀ (t : List Int) (N k : Nat), N < 2 ^ topW l.length → (psGo l N k t).1 < 2 ^ topW l.length
 | [], N, k, hN => hN
 | c :: t, N, k, hN => by
  unfold psGo
  by_cases h1 : c ∈ l
  · rw [if_pos h1]
    by_cases h2 : N.testBit (l.idxOf c)
    · rw [if_pos h2]; exact Nat.two_pow_pos _
    · rw [if_neg h2]
      refine psGo_topW h t _ _ (Nat.or_lt_two_pow hN (Nat.pow_lt_pow_right (by decide) ?_))
      have h3 := List.idxOf_lt_length_iff.2 h1
      have h4 := h.short
      rw [topW_lt]
      omega
  · rw [if_neg h1]; exact Nat.two_pow_pos _
theorem parse_wth {l : List Int} (h : Signs l) (s : ByteArray) : wthB (parseR l s).1 l.length = true := by
 have h1 : (parseR l s).1 < 2 ^ topW l.length := by
  unfold parseR
  split
  · exact Nat.two_pow_pos _
  · split
    · exact Nat.two_pow_pos _
    · split
      · exact Nat.two_pow_pos _
      · exact psGo_topW h _ _ _ (Nat.two_pow_pos _)
 unfold wthB
 exact decide_eq_true (Nat.mod_eq_of_lt h1).symm
theorem sgR_in {L : List Int} {l : List Tk4} {i : Nat} {o : Int} (h : sgR L l i = .ok o) : oneS (hereT l i) = true ∧ 0 ≤ o ∧ o < (L.length : Int) := by
 unfold sgR sgI at h
 split at h
 · rename_i h0
   split at h
   · rename_i h1
     cases h
     have := List.idxOf_lt_length_iff.2 h1
     exact ⟨h0, by omega, by omega⟩
   · cases h
 · cases h
theorem rnR_in {l : List Tk4} {i rd : Nat} (h : rnR l i = .ok rd) : (1 : Int) ≤ rd ∧ (rd : Int) ≤ 1099511627775 := by
 unfold rnR rnI at h
 split at h
 · split at h
   · cases h
   · cases h; omega
 · cases h
theorem hdR_wth {L : List Int} (hS : Signs L) {l : List Tk4} {i N : Nat} (h : hdR L l i = .ok N) : wthB N L.length = true := by
 unfold hdR hdI at h
 split at h
 · split at h
   · cases h; exact parse_wth hS _
   · cases h
 · cases h
theorem nteT_in {L : List Int} (hS : Signs L) {l : List Tk4} (hW : WdsT l) {i : Nat} (ho : oneS (hereT l i) = true) (hin : ((rn (hereT l i).2.1 0 : Nat) : Int) ∈ L) {x : N3t} (h : nteT L l i = .ok x) : x.1 = ((L.idxOf ((rn (hereT l i).2.1 0 : Nat) : Int) : Nat) : Int) ∧ vl L.length x.1 x.2.1 x.2.2 = true := by
 have hx := (oneS_k ho).2
 have hlo := hW.sgn i ho
 have hlt := List.idxOf_lt_length_iff.2 hin
 have hsh := hS.short
 unfold nteT at h
 by_cases hm : mrkB (hereT l (i + 1)) = true
 case neg => rw [if_neg hm] at h; cases h
 rw [if_pos hm] at h
 by_cases h3 : (hereT l (i + 2)).1 = 3
 case neg => rw [if_neg h3] at h; cases h
 rw [if_pos h3] at h
 obtain ⟨u, hu⟩ := hW.num (i + 2) h3
 unfold ntS at h
 have hv : ∀ k : Int, (k = 1 ∨ k = 2) → ¬ 1048576 < u → vl L.length ((L.idxOf ((rn (hereT l i).2.1 0 : Nat) : Int) : Nat) : Int) (u : Int) k = true := fun k hk hu2 => decide_eq_true ⟨by omega, by omega, by omega, by omega, rk_ok.2 ⟨by omega, by omega, hk⟩⟩
 rcases mrk_two hm with h1 | ⟨_, h1⟩
 · rw [rdP_nt (c := 63) hS hx hlo hin (mkD_text h1) (.inl rfl) hu] at h
   by_cases hb : 1048576 < u
   · rw [if_pos hb] at h
     rw [if_neg (by decide)] at h
     cases h
   · rw [if_neg hb] at h
     rw [if_pos rfl] at h
     cases h
     exact ⟨rfl, hv 2 (.inr rfl) hb⟩
 · rw [rdP_nt (c := 33) hS hx hlo hin (mkD_text h1) (.inr rfl) hu] at h
   by_cases hb : 1048576 < u
   · rw [if_pos hb] at h
     rw [if_neg (by decide)] at h
     cases h
   · rw [if_neg hb] at h
     rw [if_pos rfl] at h
     cases h
     exact ⟨rfl, hv 1 (.inl rfl) hb⟩
theorem nwR_ris {L : List Int} (hS : Signs L) {l : List Tk4} (hW : WdsT l) : ∀ (f i : Nat) (A : Int) (ns : List N3t) (j : Nat), nwR L l f i A = .ok (ns, j) → ris L.length A ns = true
 | 0, i, A, ns, j, h => by cases h
 | f + 1, i, A, ns, j, h => by
  rw [nwR] at h
  cases hs : stT L l i A with
  | error x => rw [hs] at h; cases h
  | ok o =>
   rw [hs] at h
   cases o with
   | none => cases h; rfl
   | some n =>
    dsimp only at h
    cases hn : nwR L l f (i + 3) n.1 with
    | error x => rw [hn] at h; cases h
    | ok y =>
     rw [hn] at h
     obtain ⟨y1, y2⟩ := y
     cases h
     have ih := nwR_ris hS hW f _ _ _ _ hn
     unfold stT at hs
     split at hs
     · cases hs
     split at hs
     · rename_i h1 h2
       unfold sgI at hs
       by_cases h3 : ((rn (hereT l i).2.1 0 : Nat) : Int) ∈ L
       · rw [if_pos h3] at hs
         dsimp only at hs
         split at hs
         · cases hs
         · rename_i h4
           cases hq : nteT L l i with
           | error x => rw [hq] at hs; cases hs
           | ok m =>
            rw [hq] at hs
            cases hs
            obtain ⟨e1, e2⟩ := nteT_in hS hW h2 h3 hq
            rw [ris, e2, ih, decide_eq_true (by omega : A < n.1)]
            rfl
       · rw [if_neg h3] at hs; cases hs
     · cases hs
theorem nwsR_ris {L : List Int} (hS : Signs L) {l : List Tk4} (hW : WdsT l) {i j : Nat} {ns : List N3t} (h : nwsR L l i = .ok (ns, j)) : ris L.length (-1) ns = true := by
 unfold nwsR at h
 split at h
 · exact nwR_ris hS hW _ _ _ _ _ h
 · cases h
theorem flt_of {kd : Nat} {n fr rd : Int} {N : Nat} {ns : List N3t} (h1 : 1 ≤ n ∧ n ≤ 100) (h2 : 0 ≤ fr ∧ fr < n) (h3 : kd = 3 ∨ (1 ≤ rd ∧ rd ≤ 1099511627775)) (h4 : wthB N n = true) (h5 : ris n (-1) ns = true) : flt kd n fr rd N ns = 0 := by
 unfold flt
 rw [if_neg (by simpa using h1), if_neg (by omega), if_neg (by omega), if_neg (by simp [h4]), if_neg (by simp [h5])]
theorem flt_bod {L : List Int} (hS : Signs L) (hn : L.length ≠ 0) {l : List Tk4} (hW : WdsT l) {n : Nt5} {j : Nat} (h : bodR L l = .ok (n, j)) : flt n.1 (L.length : Int) n.2.1 (n.2.2.1 : Nat) n.2.2.2.1 n.2.2.2.2 = 0 := by
 have hsh := hS.short
 have hlen : (1 : Int) ≤ (L.length : Int) ∧ (L.length : Int) ≤ 100 := by omega
 unfold bodR at h
 split at h
 · cases h
 split at h
 · unfold qR at h
   cases h1 : sgR L l 1 with
   | error x => rw [h1] at h; cases h
   | ok fr =>
    rw [h1] at h
    dsimp only at h
    cases h2 : rnR l 2 with
    | error x => rw [h2] at h; cases h
    | ok rd =>
     rw [h2] at h
     dsimp only at h
     cases h3 : nwsR L l 3 with
     | error x => rw [h3] at h; cases h
     | ok y =>
      rw [h3] at h
      obtain ⟨ns, k⟩ := y
      cases h
      exact flt_of hlen (sgR_in h1).2 (.inr (rnR_in h2)) (wth_zero _) (nwsR_ris hS hW h3)
 split at h
 · unfold pR at h
   cases h1 : sgR L l 1 with
   | error x => rw [h1] at h; cases h
   | ok fr =>
    rw [h1] at h
    dsimp only at h
    cases h2 : rnR l 2 with
    | error x => rw [h2] at h; cases h
    | ok rd =>
     rw [h2] at h
     dsimp only at h
     cases h4 : hdR L l 3 with
     | error x => rw [h4] at h; cases h
     | ok N =>
      rw [h4] at h
      dsimp only at h
      cases h3 : nwsR L l 4 with
      | error x => rw [h3] at h; cases h
      | ok y =>
       rw [h3] at h
       obtain ⟨ns, k⟩ := y
       cases h
       exact flt_of hlen (sgR_in h1).2 (.inr (rnR_in h2)) (hdR_wth hS h4) (nwsR_ris hS hW h3)
 · unfold uR at h
   cases h1 : sgR L l 1 with
   | error x => rw [h1] at h; cases h
   | ok fr =>
    rw [h1] at h
    dsimp only at h
    cases h3 : nwsR L l 2 with
    | error x => rw [h3] at h; cases h
    | ok y =>
     rw [h3] at h
     obtain ⟨ns, k⟩ := y
     cases h
     exact flt_of hlen (sgR_in h1).2 (.inl rfl) (wth_zero _) (nwsR_ris hS hW h3)
theorem flt_read {L : List Int} (hS : Signs L) (hn : L.length ≠ 0) {l : List Tk4} (hW : WdsT l) {n : Nt5} (h : rdWT L l = .ok n) : flt n.1 (L.length : Int) n.2.1 (n.2.2.1 : Nat) n.2.2.2.1 n.2.2.2.2 = 0 := by
 unfold rdWT at h
 cases hb : bodR L l with
 | error x => rw [hb] at h; cases h
 | ok y =>
  obtain ⟨m, j⟩ := y
  rw [hb] at h
  dsimp only at h
  split at h
  · split at h
    · cases h; exact flt_bod hS hn hW hb
    · cases h
  · cases h
theorem ris_lenT (n : Int) : ∀ (l : List N3t) (a : Int), ris n a l = true → (l.length : Int) ≤ max 0 (n - 1 - a)
 | [], a, _ => by simp; omega
 | x :: l, a, h => by
  rw [ris, Bool.and_eq_true, Bool.and_eq_true] at h
  obtain ⟨h1, h2, h3⟩ := h
  have ih := ris_lenT n l x.1 h3
  have h4 := of_decide_eq_true h2
  obtain ⟨v1, v2, v3, v4, v5⟩ := of_decide_eq_true h1
  rw [List.length_cons]
  omega
theorem here_of {l : List Tk4} {i : Nat} {x : Tk4} (h : l[i]? = some x) : hereT l i = x := by
 unfold hereT
 rw [h]
 rfl
theorem sgR_of {L : List Int} {l : List Tk4} {i : Nat} {fr : Int} (h : SgA L l i fr) : sgR L l i = .ok fr := by
 obtain ⟨x, h1, h2, h3, h4, h5, h6⟩ := h
 unfold sgR sgI
 rw [here_of h1, if_pos (by unfold oneS; rw [h2, h3]; rfl), if_pos h5, h6]
theorem rnR_of {l : List Tk4} {i rd : Nat} (h : RnA l i rd) : rnR l i = .ok rd := by
 obtain ⟨x, h1, h2, h3, h4, h5, h6⟩ := h
 unfold rnR rnI
 rw [here_of h1, if_pos h2, h4, Option.getD_some, if_neg (by omega)]
theorem hdR_of {L : List Int} {l : List Tk4} {i N : Nat} (h : HdA L l i N) : hdR L l i = .ok N := by
 obtain ⟨x, h1, h2, h3, h4⟩ := h
 unfold hdR hdI
 rw [here_of h1, if_pos (by unfold setKT; exact h2), h4, if_pos rfl]
theorem nwR_of {L : List Int} {l : List Tk4} {i : Nat} {ns : List N3t} (h : NwA L l i ns) : ∀ (m k : Nat) (A : Int) (f : Nat), k + m = ns.length → m < f → (∀ x, ns[k]? = some x → A < x.1) → nwR L l f (i + 1 + 3 * k) A = .ok (ns.drop k, i + 1 + 3 * ns.length + 1)
 | 0, k, A, f, hk, hf, hA => by
  obtain ⟨f, rfl⟩ : ∃ g, f = g + 1 := ⟨f - 1, by omega⟩
  obtain ⟨x, h1, h2, h3, _⟩ := h.fin
  obtain rfl : k = ns.length := by omega
  have he : endB (hereT l (i + 1 + 3 * ns.length)) = true := by rw [here_of h1]; unfold endB; rw [h2, h3]; rfl
  rw [nwR, stT, if_pos he, List.drop_length]
 | m + 1, k, A, f, hk, hf, hA => by
  obtain ⟨f, rfl⟩ : ∃ g, f = g + 1 := ⟨f - 1, by omega⟩
  have hlt : k < ns.length := by omega
  obtain ⟨n, hn⟩ : ∃ n, ns[k]? = some n := ⟨_, List.getElem?_eq_getElem hlt⟩
  obtain ⟨o, t, q⟩ := n
  have hAn : A < o := hA _ hn
  obtain ⟨x, y, z, e1, e2, e3, x1, x2, x3, x4, _, y1, _, z1, _, hr⟩ := h.nt k o t q hn
  have hex : endB x = false := by unfold endB; rw [x1]; rfl
  have hox : oneS x = true := by unfold oneS; rw [x1, x2]; rfl
  have hmy : mrkB y = true := by unfold mrkB; exact y1
  have hst : stT L l (i + 1 + 3 * k) A = .ok (some (o, t, q)) := by
   unfold stT
   rw [here_of e1, if_neg (by rw [hex]; decide), if_pos hox]
   unfold sgI
   rw [if_pos x3, x4]
   dsimp only
   rw [if_neg (by omega)]
   unfold nteT ntS
   rw [here_of e1, here_of e2, here_of (show l[i + 1 + 3 * k + 2]? = some z from e3), if_pos hmy, if_pos z1, hr, if_pos rfl]
  rw [nwR, hst]
  dsimp only
  rw [show i + 1 + 3 * k + 3 = i + 1 + 3 * (k + 1) by omega, nwR_of h m (k + 1) o f (by omega) (by omega) (fun x hx => h.rise k (o, t, q) x hn hx)]
  dsimp only
  rw [List.drop_eq_getElem_cons hlt, (List.getElem?_eq_some_iff.1 hn).2]
theorem nwsR_of {L : List Int} {l : List Tk4} {i : Nat} {ns : List N3t} (h : NwA L l i ns) (hlen : ns.length < l.length + 1) (hp : ∀ x ∈ ns, 0 ≤ x.1) : nwsR L l i = .ok (ns, i + 1 + 3 * ns.length + 1) := by
 obtain ⟨x, h1, h2⟩ := h.beg
 unfold nwsR
 rw [here_of h1, if_pos (by unfold begB; exact h2)]
 have := nwR_of h ns.length 0 (-1) (l.length + 1) (by omega) hlen (fun x hx => by have := hp x (List.mem_of_getElem? hx); omega)
 rw [Nat.mul_zero, Nat.add_zero, List.drop_zero] at this
 exact this
theorem kdW_q : kdW ⟨#[113, 117, 101, 114, 121]⟩ = 1 := by decide
theorem kdW_p : kdW ⟨#[114, 101, 112, 108, 121]⟩ = 2 := by decide
theorem kdW_u : kdW ⟨#[114, 117, 109, 111, 114]⟩ = 3 := by decide
theorem rdW_end {L : List Int} {l : List Tk4} {n : Nt5} {j : Nat} {x : Tk4} (hb : bodR L l = .ok (n, j)) (hx : l[j]? = some x) (h1 : x.1 = 1) (hl : l.length = j + 1) : rdWT L l = .ok n := by
 unfold rdWT
 rw [hb]
 dsimp only
 have h2 : l[j + 1]? = none := List.getElem?_eq_none (by omega)
 rw [here_of hx, if_pos h1]
 have h3 : (hereT l (j + 1)).1 = 0 := by unfold hereT; rw [h2]; rfl
 rw [if_pos h3]
theorem vN_pos {L : List Int} {x : N3t} (h : vN L x) : 0 ≤ x.1 := by
 obtain ⟨o, t, e1, _⟩ := vN_facts h
 omega
theorem rd_told {L : List Int} (hS : Signs L) {kd : Nat} (hk : 1 ≤ kd ∧ kd ≤ 3) {fr : Int} {rd N : Nat} {ns : List N3t} (h3 : kd = 3 → rd = 0) (h2 : kd ≠ 2 → N = 0) (hl : ns.length ≤ 1000) (h0 : flt kd (L.length : Int) fr rd N ns = 0) {l : List Tk4} (hw : l.map kt2 = wkt (noteP L kd fr rd N ns) ++ [(1, ⟨#[10]⟩)]) : rdWT L l = .ok (kd, fr, rd, N, ns) := by
 obtain ⟨g1, g2, g3, g4, g5⟩ := flt_0 h0
 obtain ⟨f, rfl⟩ := Int.eq_ofNat_of_zero_le g2.1
 have hV := nsV_of g5 hl
 have hf : f < L.length := by omega
 have hp : ∀ x ∈ ns, 0 ≤ x.1 := fun x hx => vN_pos (hV.v x hx)
 have hfn := fl_news L ns
 have hlen : l.length = (wkt (noteP L kd (f : Int) rd N ns)).length + 1 := by
   have := congrArg List.length hw
   rw [List.length_map, List.length_append] at this
   exact this
 rcases (show kd = 1 ∨ kd = 2 ∨ kd = 3 by omega) with rfl | rfl | rfl
 · obtain rfl : N = 0 := h2 (by decide)
   have hr : 1 ≤ rd ∧ rd ≤ 1099511627775 := by
    rcases g3 with h | h
    · cases h
    · omega
   have hwk : wkt (noteP L 1 (f : Int) rd 0 ns) = (2, ⟨#[113, 117, 101, 114, 121]⟩) :: (2, txt [L.getD f 0]) :: (3, txt (dgR rd)) :: wkt (newsP L ns) := by
    unfold noteP
    rw [if_pos rfl, wkt_cons _ _ (by decide), txt_wd _ (by decide), wkt_bl, wkt_cons _ _ (show (2 : Int) ≠ 0 by decide), wkt_bl, wkt_cons _ _ (show (3 : Int) ≠ 0 by decide), wkt_bl, Int.toNat_natCast]
    rfl
   rw [hwk] at hw hlen
   rw [List.length_cons, List.length_cons, List.length_cons, hfn] at hlen
   obtain ⟨x0, a1, a2, a3⟩ := at_kt (l := l) (i := 0) (k := 2) (t := ⟨#[113, 117, 101, 114, 121]⟩) (by rw [hw]; rfl)
   have b1 := sgA_of hS (l := l) (i := 1) hf (by rw [hw]; rfl)
   have b2 := rnA_of (l := l) (i := 2) hr.1 hr.2 (by rw [hw]; rfl)
   have b3 := nwA_of hS (l := l) (i := 3) (ns := ns) (A := [(2, ⟨#[113, 117, 101, 114, 121]⟩), (2, txt [L.getD f 0]), (3, txt (dgR rd))]) (B := [(1, ⟨#[10]⟩)]) (by rw [hw]; rfl) rfl hV.v hV.r
   obtain ⟨xe, c1, c2, _⟩ := at_kt (l := l) (i := 3 + 1 + 3 * ns.length + 1) (k := 1) (t := ⟨#[10]⟩) (by
    rw [hw, List.getElem?_append_right (by rw [List.length_cons, List.length_cons, List.length_cons, hfn]; omega), List.length_cons, List.length_cons, List.length_cons, hfn, show 3 + 1 + 3 * ns.length + 1 - (3 * ns.length + 2 + 1 + 1 + 1) = 0 by omega]
    rfl)
   refine rdW_end (j := 3 + 1 + 3 * ns.length + 1) ?_ c1 c2 (by omega)
   unfold bodR
   rw [here_of a1, a3, kdW_q, if_neg (by decide), if_pos rfl]
   unfold qR
   rw [sgR_of b1]
   dsimp only
   rw [rnR_of b2]
   dsimp only
   rw [nwsR_of b3 (by omega) hp]
 · have hr : 1 ≤ rd ∧ rd ≤ 1099511627775 := by
    rcases g3 with h | h
    · cases h
    · omega
   have hwk : wkt (noteP L 2 (f : Int) rd N ns) = (2, ⟨#[114, 101, 112, 108, 121]⟩) :: (2, txt [L.getD f 0]) :: (3, txt (dgR rd)) :: ((setP L N).1, txt (setP L N).2) :: wkt (newsP L ns) := by
    unfold noteP
    rw [if_neg (by decide), if_pos rfl, wkt_cons _ _ (by decide), txt_wd _ (by decide), wkt_bl, wkt_cons _ _ (show (2 : Int) ≠ 0 by decide), wkt_bl, wkt_cons _ _ (show (3 : Int) ≠ 0 by decide), wkt_bl, wkt_cons _ _ (set_ne L N), wkt_bl, Int.toNat_natCast]
    rfl
   rw [hwk] at hw hlen
   rw [List.length_cons, List.length_cons, List.length_cons, List.length_cons, hfn] at hlen
   obtain ⟨x0, a1, a2, a3⟩ := at_kt (l := l) (i := 0) (k := 2) (t := ⟨#[114, 101, 112, 108, 121]⟩) (by rw [hw]; rfl)
   have b1 := sgA_of hS (l := l) (i := 1) hf (by rw [hw]; rfl)
   have b2 := rnA_of (l := l) (i := 2) hr.1 hr.2 (by rw [hw]; rfl)
   have b4 := hdA_of hS (l := l) (i := 3) g4 (by rw [hw]; rfl)
   have b3 := nwA_of hS (l := l) (i := 4) (ns := ns) (A := [(2, ⟨#[114, 101, 112, 108, 121]⟩), (2, txt [L.getD f 0]), (3, txt (dgR rd)), ((setP L N).1, txt (setP L N).2)]) (B := [(1, ⟨#[10]⟩)]) (by rw [hw]; rfl) rfl hV.v hV.r
   obtain ⟨xe, c1, c2, _⟩ := at_kt (l := l) (i := 4 + 1 + 3 * ns.length + 1) (k := 1) (t := ⟨#[10]⟩) (by
    rw [hw, List.getElem?_append_right (by rw [List.length_cons, List.length_cons, List.length_cons, List.length_cons, hfn]; omega), List.length_cons, List.length_cons, List.length_cons, List.length_cons, hfn, show 4 + 1 + 3 * ns.length + 1 - (3 * ns.length + 2 + 1 + 1 + 1 + 1) = 0 by omega]
    rfl)
   refine rdW_end (j := 4 + 1 + 3 * ns.length + 1) ?_ c1 c2 (by omega)
   unfold bodR
   rw [here_of a1, a3, kdW_p, if_neg (by decide), if_neg (by decide), if_pos rfl]
   unfold pR
   rw [sgR_of b1]
   dsimp only
   rw [rnR_of b2]
   dsimp only
   rw [hdR_of b4]
   dsimp only
   rw [nwsR_of b3 (by omega) hp]
 · obtain rfl : N = 0 := h2 (by decide)
   obtain rfl : rd = 0 := h3 rfl
   have hwk : wkt (noteP L 3 (f : Int) 0 0 ns) = (2, ⟨#[114, 117, 109, 111, 114]⟩) :: (2, txt [L.getD f 0]) :: wkt (newsP L ns) := by
    unfold noteP
    rw [if_neg (by decide), if_neg (by decide), wkt_cons _ _ (by decide), txt_wd _ (by decide), wkt_bl, wkt_cons _ _ (show (2 : Int) ≠ 0 by decide), wkt_bl, Int.toNat_natCast]
    rfl
   rw [hwk] at hw hlen
   rw [List.length_cons, List.length_cons, hfn] at hlen
   obtain ⟨x0, a1, a2, a3⟩ := at_kt (l := l) (i := 0) (k := 2) (t := ⟨#[114, 117, 109, 111, 114]⟩) (by rw [hw]; rfl)
   have b1 := sgA_of hS (l := l) (i := 1) hf (by rw [hw]; rfl)
   have b3 := nwA_of hS (l := l) (i := 2) (ns := ns) (A := [(2, ⟨#[114, 117, 109, 111, 114]⟩), (2, txt [L.getD f 0])]) (B := [(1, ⟨#[10]⟩)]) (by rw [hw]; rfl) rfl hV.v hV.r
   obtain ⟨xe, c1, c2, _⟩ := at_kt (l := l) (i := 2 + 1 + 3 * ns.length + 1) (k := 1) (t := ⟨#[10]⟩) (by
    rw [hw, List.getElem?_append_right (by rw [List.length_cons, List.length_cons, hfn]; omega), List.length_cons, List.length_cons, hfn, show 2 + 1 + 3 * ns.length + 1 - (3 * ns.length + 2 + 1 + 1) = 0 by omega]
    rfl)
   refine rdW_end (j := 2 + 1 + 3 * ns.length + 1) ?_ c1 c2 (by omega)
   unfold bodR
   rw [here_of a1, a3, kdW_u, if_neg (by decide), if_neg (by decide), if_neg (by decide)]
   unfold uR
   rw [sgR_of b1]
   dsimp only
   rw [nwsR_of b3 (by omega) hp]
theorem cells_inj : ∀ a b : List Tk4, cells4Q a = b.flatMap (fun x => (tkC x).toList) → a = b
 | [], [], _ => rfl
 | [], y :: b, h => by rw [List.flatMap_cons] at h; simp [cells4Q, tkC] at h
 | (k, t, l, c) :: a, [], h => by simp [cells4Q, tokC] at h
 | (k, t, l, c) :: a, (k', t', l', c') :: b, h => by
  rw [List.flatMap_cons] at h
  simp only [cells4Q, tokC, tkC, List.cons_append, List.nil_append, List.cons.injEq, Value.int.injEq, Value.string.injEq, true_and] at h
  obtain ⟨h1, h2, h3, h4, h5⟩ := h
  rw [cells_inj a b h5, h1, h2, h3, h4]
theorem scan_wdsT {P : List Pc} (h : okP P) (hne : tks 0 P ≠ []) : scD (txt (pcR P)) ((txt (pcR P)).size + 2) 0 1 0 false [] = .inl (wds P) := by
 obtain ⟨h1, h2, h3⟩ := told_rows P h hne
 have hE := scan_eq (txt (pcR P))
 unfold TxE at hE
 rw [h1] at hE
 dsimp only at hE
 rw [fours_cells] at h3
 rw [List.nil_append, cells_inj _ _ h3] at hE
 exact hE
theorem wkt_ne : ∀ {P : List Pc}, okP P → ∀ q ∈ wkt P, q.1 ≠ 1
 | [], _, q, hq => by cases hq
 | (k, x) :: P, h, q, hq => by
  obtain ⟨_, h2, h3⟩ := h
  by_cases hk : k = 0
  · have e : wkt ((k, x) :: P) = wkt P := by unfold wkt; rw [List.filterMap_cons, if_pos hk]
    rw [e] at hq
    exact wkt_ne h3 q hq
  · rw [wkt_cons _ _ hk] at hq
    rcases List.mem_cons.1 hq with rfl | hq
    · rcases h2 with ⟨e, _⟩ | ⟨e, _⟩ | ⟨e, _⟩ | ⟨e, _⟩ <;> (dsimp only; omega)
    · exact wkt_ne h3 q hq
theorem shp_wrd : ∀ (N : Nat) (so : Bool) (l : List Fou), Shp N so l → ∀ q ∈ l, q.1 ≠ 1 → Wrd N q.1 q.2.1
 | _, _, [], _, q, hq, _ => by cases hq
 | N, so, x :: l, h, q, hq, hk => by
  rcases h with ⟨k1, _, _, hr⟩ | ⟨_, hw, hr⟩
  · rcases List.mem_cons.1 hq with rfl | hq
    · exact absurd k1 hk
    · exact shp_wrd N false l hr q hq hk
  · rcases List.mem_cons.1 hq with rfl | hq
    · exact hw
    · exact shp_wrd N true l hr q hq hk
theorem wkt_wrd {P : List Pc} (h : okP P) (hne : tks 0 P ≠ []) : ∀ q ∈ wkt P, q.1 ≠ 1 ∧ Wrd (txt (pcR P)).size q.1 q.2 := by
 intro q hq
 refine ⟨wkt_ne h q hq, ?_⟩
 obtain ⟨m, e, hm⟩ := sc_shp _ _ 0 1 0 false [] _ (scan_wdsT h hne) (by omega) (fun _ => rfl)
 rw [List.nil_append] at e
 have h1 : q ∈ (wds P).map kt2 := by rw [wds_kt]; exact List.mem_append_left _ hq
 obtain ⟨x, hx, rfl⟩ := List.mem_map.1 h1
 rw [e] at hx
 exact shp_wrd _ _ _ hm x hx (wkt_ne h _ hq)
def sepB : ByteArray := ⟨#[32, 9, 13]⟩
def tailB : ByteArray := ⟨#[35, 32, 226, 152, 131, 10, 10]⟩
def headB : ByteArray := ⟨#[10, 32, 9]⟩
def lsB : List (Int × ByteArray) → ByteArray
 | [] => ByteArray.empty
 | q :: r => q.2 ++ sepB ++ lsB r
theorem loose_go : ∀ (N : Nat) (W : List (Int × ByteArray)) (so : Bool) (t : ByteArray) (p f ln fr : Nat) (acc : List Fou), (∀ q ∈ W, q.1 ≠ 1 ∧ Wrd N q.1 q.2) → p ≤ t.size → t.extract p t.size = lsB W ++ tailB → t.size + 1 < p + f → (so = true ∨ W ≠ []) → ∃ r, scD t f p ln fr so acc = .inl (acc ++ r) ∧ r.map kt2 = W ++ [(1, ⟨#[10]⟩)]
 | N, [], so, t, p, f, ln, fr, acc, hW, hp, he, hf, hso => by
  obtain rfl : so = true := by
   rcases hso with h | h
   · exact h
   · exact absurd rfl h
  have he' : t.extract p t.size = tailB ++ ByteArray.empty := by rw [he, lsB, ByteArray.empty_append, ByteArray.append_empty]
  obtain ⟨a1, a2, a3, _⟩ := rest_app t tailB ByteArray.empty p hp he'
  have hz : tailB.size = 7 := rfl
  rw [hz] at a1 a2 a3
  have b0 : byt t (p + 0) = 35 := a2 0 (by omega)
  rw [Nat.add_zero] at b0
  have b1 : byt t (p + 1) = 32 := a2 1 (by omega)
  have b2 : byt t (p + 2) = 226 := a2 2 (by omega)
  have b3 : byt t (p + 3) = 152 := a2 3 (by omega)
  have b4 : byt t (p + 4) = 131 := a2 4 (by omega)
  have b5 : byt t (p + 5) = 10 := a2 5 (by omega)
  have b6 : byt t (p + 6) = 10 := a2 6 (by omega)
  have hts : t.size = p + 7 := by
   have h1 : (t.extract (p + 7) t.size).size = t.size - (p + 7) := by simp
   rw [a3] at h1
   have h2 : ByteArray.empty.size = 0 := rfl
   omega
  obtain ⟨f, rfl⟩ : ∃ g, f = g + 5 := ⟨f - 5, by omega⟩
  have hLE : LE t p = p + 5 := le_is t _ _ ⟨by omega, by omega, fun j x y => by
   have : j = p ∨ j = p + 1 ∨ j = p + 2 ∨ j = p + 3 ∨ j = p + 4 := by omega
   rcases this with rfl | rfl | rfl | rfl | rfl <;> omega, .inr b5⟩ (by omega)
  rw [sc_rem t (f + 4) p _ _ _ _ (by omega) b0, hLE, sc_eol t (f + 3) (p + 5) _ _ _ _ (by omega) (.inr b5), if_pos rfl, sc_eol t (f + 2) (p + 5 + 1) _ _ _ _ (by omega) (.inr b6), if_neg (by simp), sc_eol t (f + 1) (p + 5 + 1 + 1) _ _ _ _ (by omega) (.inl (by omega)), if_neg (by simp), sc_end t f (p + 5 + 1 + 1 + 1) _ _ _ _ (by omega)]
  exact ⟨_, rfl, rfl⟩
 | N, q :: W, so, t, p, f, ln, fr, acc, hW, hp, he, hf, hso => by
  obtain ⟨hk, hw⟩ := hW q (List.mem_cons_self ..)
  rw [lsB, ByteArray.append_assoc, ByteArray.append_assoc] at he
  obtain ⟨c1, c2, c3, c4⟩ := rest_app t q.2 _ p hp he
  obtain ⟨d1, d2, d3, _⟩ := rest_app t sepB _ (p + q.2.size) c1 c3
  have hz : sepB.size = 3 := rfl
  rw [hz] at d1 d2 d3
  have e0 : byt t (p + q.2.size + 0) = 32 := d2 0 (by omega)
  rw [Nat.add_zero] at e0
  have e1 : byt t (p + q.2.size + 1) = 9 := d2 1 (by omega)
  have e2 : byt t (p + q.2.size + 2) = 13 := d2 2 (by omega)
  have hx0 := hw.some
  obtain ⟨⟨g1, g2, g3⟩, g4, g5, g6⟩ := hw.there t p (by omega) c4 (.inr (.inl e0))
  obtain ⟨f, rfl⟩ : ∃ g, f = g + 4 := ⟨f - 4, by omega⟩
  rw [sc_word t (f + 3) p _ _ _ _ (by omega) g1 g2 g3 g6, g5, g4, sc_gap t (f + 2) (p + q.2.size) _ _ _ _ (by omega) (.inr (.inr e0)), sc_gap t (f + 1) (p + q.2.size + 1) _ _ _ _ (by omega) (.inl e1), sc_gap t f (p + q.2.size + 1 + 1) _ _ _ _ (by omega) (.inr (.inl e2))]
  obtain ⟨R, h1, h2⟩ := loose_go N W true t (p + q.2.size + 1 + 1 + 1) f ln fr _ (fun x hx => hW x (List.mem_cons_of_mem _ hx)) (by omega) d3 (by omega) (.inl rfl)
  refine ⟨_ :: R, by rw [h1, List.append_assoc]; rfl, ?_⟩
  rw [List.map_cons, h2, List.cons_append]
  congr 1
  show (q.1, _) = q
  rw [c4]
def looT (W : List (Int × ByteArray)) : ByteArray := headB ++ lsB W ++ tailB
theorem loose_scan {N : Nat} {W : List (Int × ByteArray)} (hW : ∀ q ∈ W, q.1 ≠ 1 ∧ Wrd N q.1 q.2) (hne : W ≠ []) : ∃ r, scD (looT W) ((looT W).size + 2) 0 1 0 false [] = .inl r ∧ r.map kt2 = W ++ [(1, ⟨#[10]⟩)] := by
 obtain ⟨t, ht⟩ : ∃ t, looT W = t := ⟨_, rfl⟩
 have he0 : t.extract 0 t.size = headB ++ (lsB W ++ tailB) := by rw [← ByteArray.append_assoc]; show t.extract 0 t.size = looT W; rw [ht]; simp
 rw [ht]
 obtain ⟨a1, a2, a3, _⟩ := rest_app t headB _ 0 (Nat.zero_le _) he0
 have hz : headB.size = 3 := rfl
 rw [hz] at a1 a2 a3
 simp only [Nat.zero_add] at a1 a2 a3
 have b0 : byt t 0 = 10 := a2 0 (by omega)
 have b1 : byt t 1 = 32 := a2 1 (by omega)
 have b2 : byt t 2 = 9 := a2 2 (by omega)
 obtain ⟨z, hzz⟩ : ∃ z, t.size + 2 = z + 3 := ⟨t.size - 1, by omega⟩
 obtain ⟨R, e1, e2⟩ := loose_go N W false t 3 z 2 1 [] hW a1 a3 (by omega) (.inr hne)
 refine ⟨R, ?_, e2⟩
 rw [hzz, sc_eol t (z + 2) 0 _ _ _ _ (by omega) (.inr b0), if_neg (by simp), sc_gap t (z + 1) (0 + 1) _ _ _ _ (by omega) (.inr (.inr b1)), sc_gap t z (0 + 1 + 1) _ _ _ _ (by omega) (.inl b2)]
 rw [List.nil_append] at e1
 exact e1
theorem lsB_size : ∀ (P : List Pc), (∀ q ∈ wkt P, 0 < q.2.size) → (lsB (wkt P)).size ≤ 4 * (wr (pcR P)).length
 | [], _ => Nat.zero_le _
 | (k, x) :: P, h => by
  have hpc : (wr (pcR ((k, x) :: P))).length = (wr x).length + (wr (pcR P)).length := wr_pc k x P
  by_cases hk : k = 0
  · have e : wkt ((k, x) :: P) = wkt P := by unfold wkt; rw [List.filterMap_cons, if_pos hk]
    rw [e] at h ⊢
    have := lsB_size P h
    omega
  · rw [wkt_cons _ _ hk] at h ⊢
    have ih := lsB_size P (fun q hq => h q (List.mem_cons_of_mem _ hq))
    have h1 := h _ (List.mem_cons_self ..)
    have h2 : (txt x).size = (wr x).length := txt_sz x
    dsimp only at h1
    have hz : sepB.size = 3 := rfl
    rw [lsB, ByteArray.size_append, ByteArray.size_append, hz]
    dsimp only
    omega
theorem note_size {L : List Int} {kd : Nat} {fr : Int} {rd N : Nat} {ns : List N3t} (hr : rd ≤ 1099511627775) (hv : ∀ x ∈ ns, vN L x) : (txt (pcR (noteP L kd fr rd N ns))).size ≤ 32 * ns.length + 2000 := by
 rw [txt_sz]
 have h1 := wr_news ns hv
 have h2 := wr_c (L.getD fr.toNat 0)
 have h3 := wr_dg rd (by omega)
 have h4 := wr_set L N
 have h5 := wr_c 32
 have q1 : (wr (wordP ⟨#[113, 117, 101, 114, 121]⟩).2).length ≤ 20 := wr_len _
 have q2 : (wr (wordP ⟨#[114, 101, 112, 108, 121]⟩).2).length ≤ 20 := wr_len _
 have q3 : (wr (wordP ⟨#[114, 117, 109, 111, 114]⟩).2).length ≤ 20 := wr_len _
 have e0 : ∀ (p : Pc) (r : List Pc), (wr (pcR (p :: r))).length = (wr p.2).length + (wr (pcR r)).length := fun p r => wr_pc p.1 p.2 r
 have e1 : (wr blP.2).length = (wr [32]).length := rfl
 have e2 : (wr (sgP (L.getD fr.toNat 0)).2).length = (wr [L.getD fr.toNat 0]).length := rfl
 have e3 : (wr (nuP rd).2).length = (wr (dgR rd)).length := rfl
 unfold noteP
 split
 · rw [e0, e0, e0, e0, e0, e0, e1, e2, e3]; omega
 · split
   · rw [e0, e0, e0, e0, e0, e0, e0, e0, e1, e2, e3]; omega
   · rw [e0, e0, e0, e0, e1, e2]; omega
def lsW : List Tk4 → ByteArray
 | [] => ByteArray.empty
 | x :: r => (if x.1 = 1 then ByteArray.empty else x.2.1 ++ sepB) ++ lsW r
theorem lsW_app : ∀ a b : List Tk4, lsW (a ++ b) = lsW a ++ lsW b
 | [], b => by rw [List.nil_append, lsW, ByteArray.empty_append]
 | x :: a, b => by rw [List.cons_append, lsW, lsW, lsW_app a b, ByteArray.append_assoc]
theorem lsW_step {D : List Tk4} {k : Nat} {x : Tk4} (h : D[k]? = some x) : lsW (D.take (k + 1)) = lsW (D.take k) ++ (if x.1 = 1 then ByteArray.empty else x.2.1 ++ sepB) := by
 rw [List.take_add_one, h, lsW_app]
 show lsW (D.take k) ++ ((if x.1 = 1 then ByteArray.empty else x.2.1 ++ sepB) ++ lsW []) = _
 rw [lsW, ByteArray.append_empty]
theorem lsW_one {D : List Tk4} {k : Nat} {x : Tk4} (h : D[k]? = some x) (h1 : x.1 = 1) : lsW (D.take (k + 1)) = lsW (D.take k) := by rw [lsW_step h, if_pos h1, ByteArray.append_empty]
theorem lsW_more {D : List Tk4} {k : Nat} {x : Tk4} (h : D[k]? = some x) (h1 : ¬ x.1 = 1) : headB ++ lsW (D.take (k + 1)) = (headB ++ lsW (D.take k)) ++ (x.2.1 ++ sepB) := by rw [lsW_step h, if_neg h1, ByteArray.append_assoc]
theorem lsW_le (D : List Tk4) (k : Nat) : (lsW (D.take k)).size ≤ (lsW D).size := by
 have h : lsW D = lsW (D.take k) ++ lsW (D.drop k) := by rw [← lsW_app, List.take_append_drop]
 rw [h, ByteArray.size_append]
 omega
theorem lsW_lsB : ∀ l : List Tk4, (∀ x ∈ l, x.1 ≠ 1) → lsW l = lsB (l.map kt2)
 | [], _ => rfl
 | x :: l, h => by
  rw [lsW, if_neg (h x (List.mem_cons_self ..)), lsW_lsB l (fun y hy => h y (List.mem_cons_of_mem _ hy)), List.map_cons, lsB]
  rfl
theorem lsW_wds {P : List Pc} (h : ∀ q ∈ wkt P, q.1 ≠ 1) : lsW (wds P) = lsB (wkt P) := by
 have h1 : ((tks 0 P).map (fun x => ((x.1, x.2.1, (1 : Int), ((x.2.2 : Nat) : Int)) : Tk4))).map kt2 = wkt P := by
  rw [List.map_map, ← tks_kt 0 P]
  rfl
 have h2 : lsW [((1, ⟨#[10]⟩, 1, (((pcR P).length + 1 : Nat) : Int)) : Tk4)] = ByteArray.empty := by
  rw [lsW, if_pos rfl, lsW, ByteArray.empty_append]
 rw [wds, lsW_app, h2, ByteArray.append_empty, lsW_lsB _ (fun x hx => ?_), h1]
 refine h (kt2 x) ?_
 rw [← h1]
 exact List.mem_map_of_mem hx
structure Onc (L : List Int) (n : Nt5) (P : List Pc) : Prop where
 flt : flt n.1 (L.length : Int) n.2.1 (n.2.2.1 : Nat) n.2.2.2.1 n.2.2.2.2 = 0
 len : n.2.2.2.2.length ≤ 1000
 txt : tlT L n.1 n.2.1 (n.2.2.1 : Nat) n.2.2.2.1 n.2.2.2.2 = txt (pcR P)
 scan : scR (Go.Proofs.YtmahamdmapbilaaGreatDoor.txt (pcR P)) = .inl (wds P)
 again : readT L (scR (Go.Proofs.YtmahamdmapbilaaGreatDoor.txt (pcR P))) = .ok n
 loose : readT L (scR ((headB ++ lsW (wds P)) ++ tailB)) = .ok n
 size : (headB ++ lsW (wds P)).size ≤ 60000
 wlen : (wds P).length ≤ 1000000
theorem once_of {L : List Int} (hS : Signs L) {s : ByteArray} {n : Nt5} (h : readT L (scR s) = .ok n) : ∃ P, Onc L n P := by
 obtain ⟨kd, fr, rd, N, ns⟩ := n
 obtain ⟨k1, k2, k3, k4, k5, k6⟩ := readT_ok hS (scans_any s) h
 dsimp only at k1 k2 k3 k4 k5 k6
 have hL : L.length ≠ 0 := fun e => by
   unfold readT at h
   rw [if_pos e] at h
   cases h
 have hf : flt kd (L.length : Int) fr (rd : Nat) N ns = 0 := by
   unfold readT at h
   rw [if_neg hL] at h
   cases hc : scR s with
   | inr x => rw [hc] at h; cases h
   | inl l =>
     rw [hc] at h
     exact flt_read hS hL ((scans_any s).w l hc).1 h
 obtain ⟨g1, g2, g3, g4, g5⟩ := flt_0 hf
 have hlen := ris_lenT _ ns (-1) g5
 have hn : ns.length ≤ 100 := by omega
 have hV := nsV_of g5 (by omega)
 have hrd : rd ≤ 1099511627775 := by
   rcases g3 with e | e
   · rw [k3 e]; decide
   · omega
 obtain ⟨f, hfe⟩ := Int.eq_ofNat_of_zero_le g2.1
 obtain ⟨P, hP⟩ : ∃ P, noteP L kd fr rd N ns = P := ⟨_, rfl⟩
 have hok : okP P := by
   rw [← hP, hfe]
   exact ok_note hS (by omega) hrd g4 hV.v
 have hne : tks 0 P ≠ [] := by rw [← hP]; exact note_ne _ _ _ _ _ _
 have hsz : (txt (pcR P)).size ≤ 32 * ns.length + 2000 := by rw [← hP]; exact note_size hrd hV.v
 have hwr := wkt_wrd hok hne
 have hw1 : ∀ q ∈ wkt P, q.1 ≠ 1 := fun q hq => (hwr q hq).1
 have hls := lsW_wds hw1
 have hlz := lsB_size P (fun q hq => (hwr q hq).2.some)
 have htz : (txt (pcR P)).size = (wr (pcR P)).length := txt_sz _
 have hsc := scan_wdsT hok hne
 have hscR := scR_inl (by omega) hsc
 have hwn : wkt P ≠ [] := fun e => by
   have := tks_kt 0 P
   rw [e] at this
   exact hne (List.map_eq_nil_iff.1 this)
 obtain ⟨r, hr1, hr2⟩ := loose_scan hwr hwn
 have hhz : headB.size = 3 := rfl
 have htl : tailB.size = 7 := rfl
 have hlsz : (headB ++ lsW (wds P)).size ≤ 60000 := by
   rw [ByteArray.size_append, hls]
   omega
 have hloo : (headB ++ lsW (wds P)) ++ tailB = looT (wkt P) := by rw [hls]; rfl
 have hlo : scR (looT (wkt P)) = .inl r := scR_inl (by rw [← hloo, ByteArray.size_append]; omega) hr1
 refine ⟨P, ⟨hf, (by omega : ns.length ≤ 1000), ?_, hscR, ?_, ?_, hlsz, ?_⟩⟩
 · show tlT L kd fr (rd : Nat) N ns = _
   unfold tlT
   rw [if_pos hf, Int.toNat_natCast, hP]
 · rw [hscR]
   show readT L (.inl (wds P)) = _
   rw [show readT L (.inl (wds P)) = rdWT L (wds P) from if_neg hL]
   exact rd_told hS ⟨k1, k2⟩ k3 k4 (by omega) hf (by rw [hP]; exact wds_kt P)
 · rw [hloo, hlo]
   rw [show readT L (.inl r) = rdWT L r from if_neg hL]
   exact rd_told hS ⟨k1, k2⟩ k3 k4 (by omega) hf (by rw [hP]; exact hr2)
 · have := scan_len _ _ hsc
   omega
end Go.Proofs.YtmahamdmapbilaaGreatDoor
