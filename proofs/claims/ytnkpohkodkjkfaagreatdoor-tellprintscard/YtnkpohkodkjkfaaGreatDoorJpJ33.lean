/- What is told by signs is read as it was: plain mathematics. -/
import Derived.Test.YtnkpohkodkjkfaaGreatDoorJpJ32
import Derived.Test.YtnkpohkodkjkfaaGreatDoorJpJ23
import Derived.Test.YtnkpohkodkjkfaaGreatDoorJpJ30
import Derived.Test.YtnkpohkodkjkfaaGreatDoorJpJ16
import Derived.Test.YtnkpohkodkjkfaaGreatDoorJpJ29
import Derived.Lib.ItoaLen
import Derived.Maps.Own
set_option maxHeartbeats 40000000
set_option maxRecDepth 100000
set_option linter.unusedVariables false
namespace Go.Proofs.YtnkpohkodkjkfaaGreatDoor

theorem testBit_bitsOf (l : List Int) (j : Nat) : ∀ t : List Int, (bitsOf l t).testBit j = true ↔ ∃ c ∈ t, l.idxOf c = j
  | [] => by simp [bitsOf]
  | c :: t => by
    rw [bitsOf, Nat.testBit_or, Bool.or_eq_true, testBit_bitsOf l j t, Nat.testBit_two_pow, decide_eq_true_eq]
    simp
theorem sgs_idx {l : List Int} (hn : l.Nodup) {i : Nat} (hi : i < l.length) : l.getD i 0 = l[i] ∧ l.idxOf l[i] = i ∧ l[i] ∈ l := by
  refine ⟨?_, hn.idxOf_getElem i hi, List.getElem_mem hi⟩
  rw [List.getD_eq_getElem?_getD, List.getElem?_eq_getElem hi]
  rfl
theorem sgs_facts {l : List Int} (hsg : Signs l) {N : Nat} (hw : wthB N l.length = true) :
    (∀ c ∈ sgs l (idsTo N 128), c ∈ l) ∧ (sgs l (idsTo N 128)).Nodup ∧ bitsOf l (sgs l (idsTo N 128)) = N := by
  have hlt : ∀ i ∈ idsTo N 128, i < l.length := fun i hi => (wth_id hw (mem_idsTo.1 hi).2).1
  refine ⟨?_, ?_, ?_⟩
  · intro c hc
    obtain ⟨i, hi, rfl⟩ := List.mem_map.1 hc
    rw [(sgs_idx hsg.nodup (hlt i hi)).1]
    exact List.getElem_mem _
  · have hp : (idsTo N 128).Pairwise (· < ·) := List.Pairwise.filter _ List.pairwise_lt_range
    rw [sgs, List.nodup_iff_pairwise_ne, List.pairwise_map]
    refine hp.imp_of_mem (fun {a b} ha hb hab e => ?_)
    have h1 := sgs_idx hsg.nodup (hlt a ha)
    have h2 := sgs_idx hsg.nodup (hlt b hb)
    rw [h1.1, h2.1] at e
    have := h1.2.1
    rw [e, h2.2.1] at this
    omega
  · apply Nat.eq_of_testBit_eq
    intro j
    rw [Bool.eq_iff_iff, testBit_bitsOf]
    constructor
    · rintro ⟨c, hc, rfl⟩
      obtain ⟨i, hi, rfl⟩ := List.mem_map.1 hc
      have h1 := sgs_idx hsg.nodup (hlt i hi)
      rw [h1.1, h1.2.1]
      exact (mem_idsTo.1 hi).2
    · intro hj
      have h0 := wth_id hw hj
      have hm : j ∈ idsTo N 128 := mem_idsTo.2 ⟨by omega, hj⟩
      exact ⟨l.getD j 0, List.mem_map.2 ⟨j, hm, rfl⟩, by rw [(sgs_idx hsg.nodup h0.1).1]; exact (sgs_idx hsg.nodup h0.1).2.1⟩
theorem wth_zero (n : Int) : wthB 0 n = true := by simp [wthB]
end Go.Proofs.YtnkpohkodkjkfaaGreatDoor
namespace Go.Proofs.YtnkpohkodkjkfaaGreatDoor
open Go.RowKit Go.Shelf Go.Lib

def kt2 (x : Tk4) : Int × ByteArray := (x.1, x.2.1)
/-- The words alone. -/
def wkt (r : List Pc) : List (Int × ByteArray) := r.filterMap (fun p => if p.1 = 0 then none else some (p.1, txt p.2))
theorem wkt_app (a b : List Pc) : wkt (a ++ b) = wkt a ++ wkt b := List.filterMap_append
theorem tks_kt : ∀ (n : Nat) (r : List Pc), (tks n r).map (fun x => (x.1, x.2.1)) = wkt r
  | n, [] => rfl
  | n, (k, x) :: r => by
    rw [tks, List.map_append, tks_kt (n + x.length) r, wkt, wkt, List.filterMap_cons]
    by_cases h : k = 0
    · rw [if_pos h]; simp [h]
    · rw [if_neg h]; simp [h]
theorem wds_kt (r : List Pc) : (wds r).map kt2 = wkt r ++ [(1, ⟨#[10]⟩)] := by
  rw [wds, List.map_append, List.map_map, ← tks_kt 0 r]
  rfl
theorem wds_len (r : List Pc) : (wds r).length = (wkt r).length + 1 := by
  have := congrArg List.length (wds_kt r)
  rw [List.length_map, List.length_append] at this
  exact this
theorem at_kt {l : List Tk4} {i : Nat} {k : Int} {t : ByteArray} (h : (l.map kt2)[i]? = some (k, t)) : ∃ x : Tk4, l[i]? = some x ∧ x.1 = k ∧ x.2.1 = t := by
  rw [List.getElem?_map] at h
  cases hx : l[i]? with
  | none => rw [hx] at h; cases h
  | some x =>
    rw [hx] at h
    have := Option.some.inj h
    exact ⟨x, rfl, congrArg Prod.fst this, congrArg Prod.snd this⟩
/-- Digits as runes. -/
def dgR (v : Nat) : List Int := (decDigits v).map (fun b => (b.toNat : Int))
theorem enc_asc {c : Int} (h : 0 ≤ c) (h2 : c < 128) : (code c : Int) = c ∧ (Utf8.encode c).data.toList = [UInt8.ofNat c.toNat] := by
  have hc : code c = c.toNat := by
    unfold code Utf8.valid
    rw [if_pos]
    simp only [Bool.or_eq_true, Bool.and_eq_true, decide_eq_true_eq]
    omega
  refine ⟨by rw [hc]; omega, ?_⟩
  rw [enc_list, hc, if_pos (by omega)]
theorem wr_asc : ∀ (l : List UInt8), (∀ b ∈ l, b.toNat < 128) → wr (l.map (fun b => (b.toNat : Int))) = l
  | [], _ => rfl
  | b :: l, h => by
    have h1 := h b List.mem_cons_self
    rw [List.map_cons, wr, (enc_asc (by omega) (by omega)).2, wr_asc l (fun c hc => h c (List.mem_cons_of_mem _ hc)), Int.toNat_natCast]
    simp
theorem txt_asc (l : List UInt8) (h : ∀ b ∈ l, b.toNat < 128) : txt (l.map (fun b => (b.toNat : Int))) = ⟨l.toArray⟩ := by
  unfold txt
  rw [wr_asc l h]
theorem txt_dg (v : Nat) : txt (dgR v) = ⟨(decDigits v).toArray⟩ := txt_asc _ (fun b hb => by have := (dec_spec v).1 b hb; unfold dgt at this; omega)
theorem dg_cls (v : Nat) : ∀ c ∈ dgR v, (code c : Int) = c ∧ c ≠ 10 ∧ cls c = 3 := by
  intro c hc
  obtain ⟨b, hb, rfl⟩ := List.mem_map.1 hc
  have h := (dec_spec v).1 b hb
  unfold dgt at h
  refine ⟨(enc_asc (by omega) (by omega)).1, by omega, ?_⟩
  unfold cls
  rw [if_neg (by omega), if_neg (by omega), if_pos (by omega)]
theorem dg_cons (v : Nat) : ∃ c x, dgR v = c :: x := by
  obtain ⟨_, _, b, r, e, _⟩ := dec_spec v
  exact ⟨_, _, by unfold dgR; rw [e]; rfl⟩
theorem num_big (v : Nat) (hv : v ≤ 1099511627776) : numR ⟨(decDigits v).toArray⟩ = some v := by
  obtain ⟨h1, h2, b, r, e, h3, _⟩ := dec_spec v
  have hsz : (⟨(decDigits v).toArray⟩ : ByteArray).size = (decDigits v).length := by show (decDigits v).toArray.size = _; simp
  have hb0 : byt ⟨(decDigits v).toArray⟩ 0 = b.toNat := by rw [e]; exact byt_at [] b r
  unfold numR
  rw [if_neg, hsz]
  · have := numAt_good (decDigits v) [] 0 h1 (by rw [h2]; omega)
    rw [h2] at this
    exact this
  · rw [hsz, hb0]
    rintro (c | ⟨c, d⟩)
    · rw [e] at c; simp at c
    · refine h3 (fun hr => ?_) c
      rw [e, hr] at d
      simp at d
def blP : Pc := (0, [32])
def mkP (c : Int) : Pc := (5, [c])
def sgP (c : Int) : Pc := (2, [c])
def nuP (v : Nat) : Pc := (3, dgR v)
/-- A notice's words. -/
def ntP (L : List Int) (x : N3t) : List Pc := [sgP (L.getD x.1.toNat 0), mkP (mkI x.2.2), nuP x.2.1.toNat]
/-- Notices, a blank between. -/
def nsP (L : List Int) : List N3t → List Pc
  | [] => []
  | [x] => ntP L x
  | x :: y :: r => ntP L x ++ (blP :: nsP L (y :: r))
def newsP (L : List Int) (ns : List N3t) : List Pc := mkP 91 :: (nsP L ns ++ [mkP 93])
def setP (L : List Int) (N : Nat) : Pc := if N = 0 then mkP 45 else (2, sgs L (idsTo N 128))
def wordP (b : ByteArray) : Pc := (2, b.data.toList.map (fun b => (b.toNat : Int)))
/-- A note's words. -/
def noteP (L : List Int) (kd : Nat) (fr : Int) (rd : Nat) (N : Nat) (ns : List N3t) : List Pc :=
  if kd = 1 then wordP ⟨#[113, 117, 101, 114, 121]⟩ :: blP :: sgP (L.getD fr.toNat 0) :: blP :: nuP rd :: blP :: newsP L ns
  else if kd = 2 then wordP ⟨#[114, 101, 112, 108, 121]⟩ :: blP :: sgP (L.getD fr.toNat 0) :: blP :: nuP rd :: blP :: setP L N :: blP :: newsP L ns
  else wordP ⟨#[114, 117, 109, 111, 114]⟩ :: blP :: sgP (L.getD fr.toNat 0) :: blP :: newsP L ns
theorem dg_size (v : Nat) (h : v < 18446744073709551616) : (txt (dgR v)).size ≤ 20 := by
  rw [txt_dg]
  show (decDigits v).toArray.size ≤ 20
  rw [List.size_toArray, decDigits_length]
  exact nDigits_le20 v h
/-- As okP, with something behind. -/
def okB : List Pc → List Int → Prop
  | [], _ => True
  | (k, x) :: r, B => (∀ c ∈ x, (code c : Int) = c ∧ c ≠ 10) ∧ okW k x (pcR r ++ B) ∧ okB r B
theorem pcR_app : ∀ a b : List Pc, pcR (a ++ b) = pcR a ++ pcR b
  | [], b => rfl
  | (k, x) :: a, b => by rw [List.cons_append, pcR, pcR, pcR_app a b, List.append_assoc]
theorem okB_P : ∀ r : List Pc, okB r [] → okP r
  | [], _ => trivial
  | (k, x) :: r, h => ⟨h.1, by have := h.2.1; rwa [List.append_nil] at this, okB_P r h.2.2⟩
theorem sp_bl (B : List Int) : Sp (32 :: B) := ⟨by decide, by decide⟩
theorem ok_bl (r : List Pc) (B : List Int) (h : okB r B) : okB (blP :: r) B := ⟨fun c hc => by rw [List.mem_singleton.1 hc]; exact ⟨by decide, by decide⟩, .inl ⟨rfl, rfl⟩, h⟩
theorem ok_sg {L : List Int} (hS : Signs L) {c : Int} (hc : c ∈ L) (r : List Pc) (B : List Int) (hsp : Sp (pcR r ++ B)) (h : okB r B) : okB (sgP c :: r) B := by
  have h4 := hS.letter c hc
  refine ⟨fun d hd => ?_, .inr (.inl ⟨rfl, ⟨c, [], rfl, h4⟩, fun d hd => ?_, by simp, hsp⟩), h⟩
  · rw [List.mem_singleton.1 hd]
    exact ⟨code_letter h4, fun e => by rw [e] at h4; exact absurd h4 (by decide)⟩
  · rw [List.mem_singleton.1 hd]; exact .inl h4
theorem ok_nu (v : Nat) (hv : v ≤ 1099511627776) (r : List Pc) (B : List Int) (hsp : Sp (pcR r ++ B)) (h : okB r B) : okB (nuP v :: r) B := by
  obtain ⟨c, x, e⟩ := dg_cons v
  refine ⟨fun d hd => ⟨(dg_cls v d hd).1, (dg_cls v d hd).2.1⟩, .inr (.inr (.inl ⟨rfl, ⟨c, x, e⟩, fun d hd => (dg_cls v d hd).2.2, ?_, hsp⟩)), h⟩
  rw [txt_dg, num_big v hv]
  simp
theorem ok_mk (c : Int) (hc : c = 91 ∨ c = 93 ∨ c = 63 ∨ c = 33 ∨ c = 45) (r : List Pc) (B : List Int) (h : okB r B) : okB (mkP c :: r) B := by
  have hw : (code c : Int) = c ∧ c ≠ 10 ∧ cls c = 5 ∧ c ≠ 34 ∧ c ≠ 35 ∧ (wr [c]).length = 1 := by
    have h0 := enc_asc (c := c) (by omega) (by omega)
    refine ⟨h0.1, by omega, ?_, by omega, by omega, by rw [wr_one, h0.2]; rfl⟩
    rcases hc with rfl | rfl | rfl | rfl | rfl <;> decide
  exact ⟨fun d hd => by rw [List.mem_singleton.1 hd]; exact ⟨hw.1, hw.2.1⟩, .inr (.inr (.inr ⟨rfl, c, rfl, hw.2.2.1, hw.2.2.2.1, hw.2.2.2.2.1, hw.2.2.2.2.2⟩)), h⟩
theorem sp_mk (c : Int) (hc : c = 91 ∨ c = 93 ∨ c = 63 ∨ c = 33 ∨ c = 45) (B : List Int) : Sp (c :: B) := by
  rcases hc with rfl | rfl | rfl | rfl | rfl <;> exact ⟨by decide, by decide⟩
theorem mkI_or (k : Int) : mkI k = 91 ∨ mkI k = 93 ∨ mkI k = 63 ∨ mkI k = 33 ∨ mkI k = 45 := by
  unfold mkI
  split
  · exact .inr (.inr (.inl rfl))
  · exact .inr (.inr (.inr (.inl rfl)))
/-- A notice that a roster's nodes can have. -/
def vN (L : List Int) (x : N3t) : Prop := vl L.length x.1 x.2.1 x.2.2 = true
theorem vN_facts {L : List Int} {x : N3t} (h : vN L x) : ∃ (o t : Nat), x.1 = o ∧ x.2.1 = t ∧ o < L.length ∧ t ≤ 1048576 ∧ (x.2.2 = 1 ∨ x.2.2 = 2) := by
  obtain ⟨v1, v2, v3, v4, v5⟩ := of_decide_eq_true h
  obtain ⟨t1, t2, tk⟩ := rk_ok.1 v5
  exact ⟨x.1.toNat, x.2.1.toNat, by omega, by omega, by omega, by omega, tk⟩
theorem mem_getD {L : List Int} {o : Nat} (h : o < L.length) : L.getD o 0 ∈ L := by
  rw [List.getD_eq_getElem?_getD, List.getElem?_eq_getElem h]
  exact List.getElem_mem h
theorem ok_nt {L : List Int} (hS : Signs L) {x : N3t} (h : vN L x) (r : List Pc) (B : List Int) (hsp : Sp (pcR r ++ B)) (hr : okB r B) : okB (ntP L x ++ r) B := by
  obtain ⟨o, t, e1, e2, h1, h2, h3⟩ := vN_facts h
  unfold ntP
  rw [e1, e2, Int.toNat_natCast, Int.toNat_natCast]
  refine ok_sg hS (mem_getD h1) _ B (sp_mk _ (mkI_or _) _) (ok_mk _ (mkI_or _) _ B ?_)
  exact ok_nu t (by omega) r B hsp hr
theorem ok_ns {L : List Int} (hS : Signs L) : ∀ (ns : List N3t) (r : List Pc) (B : List Int), (∀ x ∈ ns, vN L x) → Sp (pcR r ++ B) → okB r B → okB (nsP L ns ++ r) B
  | [], r, B, _, _, h => h
  | [x], r, B, hv, hsp, h => ok_nt hS (hv x (by simp)) r B hsp h
  | x :: y :: ns, r, B, hv, hsp, h => by
    rw [nsP, List.append_assoc]
    exact ok_nt hS (hv x (by simp)) _ B (sp_bl _) (ok_bl _ B (ok_ns hS (y :: ns) r B (fun z hz => hv z (List.mem_cons_of_mem _ hz)) hsp h))
theorem ok_news {L : List Int} (hS : Signs L) (ns : List N3t) (hv : ∀ x ∈ ns, vN L x) : okB (newsP L ns) [] := by
  unfold newsP
  refine ok_mk 91 (by simp) _ _ (ok_ns hS ns [mkP 93] [] hv (sp_mk 93 (by simp) _) (ok_mk 93 (by simp) [] [] trivial))
theorem ok_wd (b : ByteArray) (hb : ∀ x ∈ b.data.toList, 97 ≤ x.toNat ∧ x.toNat ≤ 122) (hl : 1 ≤ b.data.toList.length ∧ b.data.toList.length ≤ 100) (r : List Pc) (B : List Int) (hsp : Sp (pcR r ++ B)) (h : okB r B) : okB (wordP b :: r) B := by
  have hc : ∀ d ∈ b.data.toList.map (fun b => (b.toNat : Int)), (code d : Int) = d ∧ d ≠ 10 ∧ cls d = 4 := by
    intro d hd
    obtain ⟨x, hx, rfl⟩ := List.mem_map.1 hd
    have := hb x hx
    refine ⟨(enc_asc (by omega) (by omega)).1, by omega, ?_⟩
    unfold cls
    rw [if_neg (by omega), if_neg (by omega), if_neg (by omega), if_pos (by omega)]
  refine ⟨fun d hd => ⟨(hc d hd).1, (hc d hd).2.1⟩, .inr (.inl ⟨rfl, ?_, fun d hd => .inl (hc d hd).2.2, by rw [List.length_map]; omega, hsp⟩), h⟩
  cases e : b.data.toList with
  | nil => rw [e] at hl; simp at hl
  | cons y ys =>
    refine ⟨_, _, rfl, (hc _ ?_).2.2⟩
    rw [e]
    exact List.mem_cons_self
theorem ok_set {L : List Int} (hS : Signs L) {N : Nat} (hw : wthB N L.length = true) (r : List Pc) (B : List Int) (hsp : Sp (pcR r ++ B)) (h : okB r B) : okB (setP L N :: r) B := by
  unfold setP
  by_cases hz : N = 0
  · rw [if_pos hz]; exact ok_mk 45 (by simp) r B h
  rw [if_neg hz]
  have hf := (sgs_facts hS hw).1
  refine ⟨fun d hd => ?_, .inr (.inl ⟨rfl, ?_, fun d hd => .inl (hS.letter d (hf d hd)), ?_, hsp⟩), h⟩
  · have h4 := hS.letter d (hf d hd)
    exact ⟨code_letter h4, fun e => by rw [e] at h4; exact absurd h4 (by decide)⟩
  · cases e : sgs L (idsTo N 128) with
    | nil =>
      exfalso
      have := (sgs_facts hS hw).2.2
      rw [e] at this
      exact hz this.symm
    | cons y ys => exact ⟨y, ys, rfl, hS.letter y (hf y (by rw [e]; exact List.mem_cons_self))⟩
  · unfold sgs
    rw [List.length_map]
    exact Nat.le_trans (List.length_filter_le _ _) (by simp)
theorem ok_note {L : List Int} (hS : Signs L) {kd : Nat} {fr rd : Nat} {N : Nat} {ns : List N3t} (hf : fr < L.length) (hr : rd ≤ 1099511627775) (hw : wthB N L.length = true) (hv : ∀ x ∈ ns, vN L x) : okP (noteP L kd (fr : Int) rd N ns) := by
  have hn := ok_news hS ns hv
  have hm := mem_getD hf
  apply okB_P
  unfold noteP
  rw [Int.toNat_natCast]
  split
  · exact ok_wd _ (by decide) (by decide) _ _ (sp_bl _) (ok_bl _ _ (ok_sg hS hm _ _ (sp_bl _) (ok_bl _ _ (ok_nu rd (by omega) _ _ (sp_bl _) (ok_bl _ _ hn)))))
  · split
    · exact ok_wd _ (by decide) (by decide) _ _ (sp_bl _) (ok_bl _ _ (ok_sg hS hm _ _ (sp_bl _) (ok_bl _ _ (ok_nu rd (by omega) _ _ (sp_bl _) (ok_bl _ _ (ok_set hS hw _ _ (sp_bl _) (ok_bl _ _ hn)))))))
    · exact ok_wd _ (by decide) (by decide) _ _ (sp_bl _) (ok_bl _ _ (ok_sg hS hm _ _ (sp_bl _) (ok_bl _ _ hn)))
/-- A notice's words alone. -/
def w3 (L : List Int) (x : N3t) : List (Int × ByteArray) := [(2, txt [L.getD x.1.toNat 0]), (5, txt [mkI x.2.2]), (3, txt (dgR x.2.1.toNat))]
theorem wkt_nt (L : List Int) (x : N3t) : wkt (ntP L x) = w3 L x := rfl
theorem wkt_ns (L : List Int) : ∀ ns : List N3t, wkt (nsP L ns) = ns.flatMap (w3 L)
  | [] => rfl
  | [x] => by rw [nsP, wkt_nt]; simp
  | x :: y :: ns => by
    rw [nsP, wkt_app, wkt_nt, List.flatMap_cons]
    congr 1
    exact wkt_ns L (y :: ns)
theorem wkt_news (L : List Int) (ns : List N3t) : wkt (newsP L ns) = (5, txt [91]) :: (ns.flatMap (w3 L) ++ [(5, txt [93])]) := by
  unfold newsP
  rw [show mkP 91 :: (nsP L ns ++ [mkP 93]) = [mkP 91] ++ (nsP L ns ++ [mkP 93]) from rfl, wkt_app, wkt_app, wkt_ns]
  rfl
theorem flat3_len (L : List Int) : ∀ ns : List N3t, (ns.flatMap (w3 L)).length = 3 * ns.length
  | [] => rfl
  | x :: ns => by rw [List.flatMap_cons, List.length_append, flat3_len L ns, List.length_cons]; simp [w3]; omega
theorem flat3_at (L : List Int) : ∀ (ns : List N3t) (k : Nat) (x : N3t) (j : Nat), ns[k]? = some x → j < 3 → (ns.flatMap (w3 L))[3 * k + j]? = (w3 L x)[j]?
  | [], k, x, j, h, _ => by simp at h
  | y :: ns, 0, x, j, h, hj => by
    simp at h
    subst h
    rw [List.flatMap_cons, List.getElem?_append_left (by simp [w3]; omega), show 3 * 0 + j = j by omega]
  | y :: ns, k + 1, x, j, h, hj => by
    simp at h
    rw [List.flatMap_cons, List.getElem?_append_right (by simp [w3]; omega), show 3 * (k + 1) + j - (w3 L y).length = 3 * k + j by simp [w3]; omega]
    exact flat3_at L ns k x j h hj
theorem txt1 {c : Int} (hc : (code c : Int) = c) : ((starts (txt [c])).length : Int) = 1 ∧ ((rn (txt [c]) 0 : Nat) : Int) = c ∧ (txt [c]).size ≤ 4 := by
  refine ⟨by rw [starts_told]; rfl, (txt_at [] [] c hc).1, by have := txt_size [c]; simpa using this⟩
theorem mk_list {c : Int} (h : c = 91 ∨ c = 93 ∨ c = 63 ∨ c = 33 ∨ c = 45) : (txt [c]).toList = [UInt8.ofNat c.toNat] ∧ (txt [c]).size = 1 := by
  rcases h with rfl | rfl | rfl | rfl | rfl <;> exact ⟨by kernel_rfl, by kernel_rfl⟩
theorem sgA_of {L : List Int} (hS : Signs L) {l : List Tk4} {i fr : Nat} (hf : fr < L.length) (h : (l.map kt2)[i]? = some (2, txt [L.getD fr 0])) : SgA L l i (fr : Int) := by
  obtain ⟨x, h1, h2, h3⟩ := at_kt h
  have hm := mem_getD hf
  obtain ⟨a1, a2, a3⟩ := txt1 (code_letter (hS.letter _ hm))
  refine ⟨x, h1, h2, ?_, ?_, ?_, ?_⟩
  · rw [h3]; exact a1
  · rw [h3]; omega
  · rw [h3, a2]; exact hm
  · rw [h3, a2]
    have := (sgs_idx hS.nodup hf)
    rw [this.1, this.2.1]
theorem rnA_of {l : List Tk4} {i rd : Nat} (h1 : 1 ≤ rd) (h2 : rd ≤ 1099511627775) (h : (l.map kt2)[i]? = some (3, txt (dgR rd))) : RnA l i rd := by
  obtain ⟨x, e1, e2, e3⟩ := at_kt h
  refine ⟨x, e1, e2, ?_, ?_, h1, h2⟩
  · rw [e3]; have := dg_size rd (by omega); omega
  · rw [e3, txt_dg, num_big rd (by omega)]
theorem rd_nt {L : List Int} (hS : Signs L) {x : N3t} (h : vN L x) : rdP L (txt [L.getD x.1.toNat 0] ++ txt [mkI x.2.2] ++ txt (dgR x.2.1.toNat)) = (x.1, x.2.1, x.2.2, 0) := by
  have e : txt [L.getD x.1.toNat 0] ++ txt [mkI x.2.2] ++ txt (dgR x.2.1.toNat) = prT (L.getD x.1.toNat 0) x.2.1 x.2.2 := by
    rw [txt_dg]
    unfold prT
    congr 1
    congr 1
    · apply ByteArray.ext
      apply Array.toList_inj.1
      rw [txt_data, wr_one]
    · unfold mkI mkS
      by_cases hk : x.2.2 = 2
      · rw [if_pos hk, if_pos hk]; kernel_rfl
      · rw [if_neg hk, if_neg hk]; kernel_rfl
  rw [e, rd_eq hS]
  exact (rd_print hS h).1
theorem nwA_of {L : List Int} (hS : Signs L) {l : List Tk4} {i : Nat} {ns : List N3t} {A B : List (Int × ByteArray)} (hl : l.map kt2 = A ++ (wkt (newsP L ns) ++ B)) (hA : A.length = i) (hv : ∀ x ∈ ns, vN L x) (hr : ∀ k (x y : N3t), ns[k]? = some x → ns[k + 1]? = some y → x.1 < y.1) : NwA L l i ns := by
  rw [wkt_news] at hl
  have hat : ∀ j, (l.map kt2)[i + j]? = ((5, txt [91]) :: (ns.flatMap (w3 L) ++ [(5, txt [93])]) ++ B)[j]? := fun j => by
    rw [hl, List.getElem?_append_right (by omega)]
    congr 1
    omega
  have hfl := flat3_len L ns
  refine ⟨?_, ?_, ?_, hr⟩
  · obtain ⟨x, e1, e2, e3⟩ := at_kt (i := i) (k := 5) (t := txt [91]) (by have := hat 0; rw [Nat.add_zero] at this; rw [this]; rfl)
    refine ⟨x, e1, ?_⟩
    rw [e2, e3, (mk_list (.inl rfl)).1]
    rfl
  · obtain ⟨x, e1, e2, e3⟩ := at_kt (l := l) (i := i + 1 + 3 * ns.length) (k := 5) (t := txt [93]) (by
      rw [show i + 1 + 3 * ns.length = i + (3 * ns.length + 1) by omega, hat, List.cons_append, List.getElem?_cons_succ, List.append_assoc, List.getElem?_append_right (by omega), hfl, Nat.sub_self]
      rfl)
    obtain ⟨m1, m2⟩ := mk_list (c := 93) (by simp)
    exact ⟨x, e1, e2, by rw [e3, m1]; rfl, by rw [e3, m2]; omega⟩
  · intro k o t q hk
    have hkl : k < ns.length := (List.getElem?_eq_some_iff.1 hk).1
    have hvx := hv _ (List.mem_of_getElem? hk)
    obtain ⟨o', t', e1, e2, h1, h2, h3⟩ := vN_facts hvx
    dsimp only at e1 e2 h3
    have g : ∀ j, j < 3 → (l.map kt2)[i + 1 + 3 * k + j]? = (w3 L (o, t, q))[j]? := fun j hj => by
      rw [show i + 1 + 3 * k + j = i + ((3 * k + j) + 1) by omega, hat, List.cons_append, List.getElem?_cons_succ, List.append_assoc, List.getElem?_append_left (by omega), flat3_at L ns k _ j hk hj]
    obtain ⟨x, x1, x2, x3⟩ := at_kt (g 0 (by omega))
    obtain ⟨y, y1, y2, y3⟩ := at_kt (g 1 (by omega))
    obtain ⟨z, z1, z2, z3⟩ := at_kt (g 2 (by omega))
    have hm := mem_getD h1
    obtain ⟨a1, a2, a3⟩ := txt1 (code_letter (hS.letter _ hm))
    obtain ⟨m1, m2⟩ := mk_list (mkI_or q)
    have hrd := rd_nt hS hvx
    dsimp only at x3 y3 z3 hrd
    rw [e1, Int.toNat_natCast] at x3
    rw [e1, Int.toNat_natCast] at hrd
    refine ⟨x, y, z, x1, y1, z1, x2, ?_, ?_, ?_, ?_, ?_, ?_, z2, ?_, ?_⟩
    · rw [x3]; exact a1
    · rw [x3, a2]; exact hm
    · rw [x3, a2, (sgs_idx hS.nodup h1).1, (sgs_idx hS.nodup h1).2.1, e1]
    · rw [x3]; omega
    · rw [y2, y3, m1]
      unfold mkI
      split <;> rfl
    · rw [y3, m2]; omega
    · rw [z3]; have := dg_size t.toNat (by omega); omega
    · rw [x3, y3, z3, e1]; exact hrd

set_option maxHeartbeats 8000000 in
set_option maxRecDepth 100000 in
theorem take_last (f : FuncId) (fc : Array Value) (hen : ∀ args w, (callFunc f args).run Tryz.prog w = .ok (.enter f args) w) {nb wb : Nat} {l : List Tk4} {w : World} (h : Tk nb wb l l.length w) (x : Tk4) (hx0 : x = (0, ⟨#[]⟩, 0, 1)) (hf : ∀ V, Ob nb w V → Calls Tryz.prog f (#[tk4 x] ++ fc) V fun e w' => e = .returned (.bool true) ∧ Below V.heap.size V w') : Calls Tryz.prog 47 #[.func (.func f) #[] fc, .pointer (some ⟨nb, 0, none⟩), .pointer (some ⟨wb, 0, none⟩)] w fun e w' => e = .returned (tk4 x) ∧ Tk nb wb l l.length w' ∧ Ob nb w w' := by
  have hmx : Tryz.prog.follows .mixedOrders = true := by kernel_rfl
  obtain ⟨ad, cap, hw1, hw2, hw3⟩ := h.wd
  have hnl := lt_at h.nx
  have hwl := lt_at hw1
  obtain ⟨n, hN⟩ : ∃ n, l.length = n := ⟨_, rfl⟩
  have hNN : Hid (l.length = n) := hN
  rw [hN] at hw1 h ⊢
  have h0 : Hid (Tk nb wb l n w) := h
  have hci : tkC x = #[.int .i64 0, .string ⟨#[]⟩, .int .i64 0, .int .i64 1] := by rw [hx0]; rfl
  obtain ⟨W1, hW1⟩ : ∃ W1, w.alloc (.cells #[.int .i64 0, .string ⟨#[]⟩, .int .i64 0, .int .i64 0] 56) = W1 := ⟨_, rfl⟩
  have hb1 : Below w.heap.size w W1 := by rw [← hW1]; exact al1t _ _
  have hs1 : W1.heap.size = w.heap.size + 1 := by rw [← hW1]; simp
  have hr1 : W1.heap[w.heap.size]? = some (.cells #[.int .i64 0, .string ⟨#[]⟩, .int .i64 0, .int .i64 0] 56 (0, 0)) := by rw [← hW1]; exact new_at rfl
  obtain ⟨W2, hW2⟩ : ∃ W2, W1.alloc (.cells #[.int .i64 0, .string ⟨#[]⟩, .int .i64 0, .int .i64 1] 56) = W2 := ⟨_, rfl⟩
  have hb2 : Below W1.heap.size W1 W2 := by rw [← hW2]; exact al1t _ _
  have hr5 : W2.heap[W1.heap.size]? = some (.cells (tkC x) 56 (0, 0)) := by rw [hci, ← hW2]; exact new_at rfl
  have hb02 : Below w.heap.size w W2 := hb1.trans (hb2.mono (by omega))
  have hr4 := (hb2.block _ (lt_at hr1)).trans hr1
  have n2 := (hb02.block _ hnl).trans h.nx
  have d2 := (hb02.block _ hwl).trans hw1
  have HJ4 : Hid (JK nb wb w.heap.size W1.heap.size l n x w W2) := ⟨h.carry hb02, hr4, hr5, Ob.of hb02⟩
  have HX : Hid (∀ V, Ob nb w V → Calls Tryz.prog f (#[tk4 x] ++ fc) V fun e w' => e = .returned (.bool true) ∧ Below V.heap.size V w') := hf
  have HEN : Hid (∀ args w, (callFunc f args).run Tryz.prog w = .ok (.enter f args) w) := hen
  have q1 : W2.cell? ⟨nb, 0, none⟩ = some (.int .i64 (n : Int)) := (cell_at n2 0).trans rfl
  have q2 : W2.cell? ⟨wb, 0, none⟩ = some (.slice ad n cap) := (cell_at d2 0).trans rfl
  have hii : ¬ (n : Int) < (n : Int) := by omega
  have hs2 := hb2.size
  have hx0' : Hid (x = (0, ⟨#[]⟩, 0, 1)) := hx0
  clear hf hen hw2 hw3 h hr1 hb1 hb2 hb02 hr4 d2 n2 hr5 hN hx0 hci hs1 hs2
  go_enter Tryz.func47, Tryz.ntmps47
  go_wp2
  rename_i Q0 K0 hK
  refine wp_region_any hmx ?_
  refine wpAny_tabG (G := (Unit)) (fun g i__ => ([(.func (.func f) #[] fc), (tk4 x), (.bool true), (.bool false), (tk4 x), (.tuple #[])] : List Value).getD i__ undef) (fun _ d V => JK nb wb w.heap.size W1.heap.size l n x w V) (by kernel_rfl) (()) (HJ4.out.carry (Below.refl _ _).drew) ?step2 ?fin2
  case step2 =>
    intro i o ho
    have hi : i < 6 := getElem?_lt ho
    match i, hi, ho with
    | 0, _, ho =>
      cases ho
      refine stepG_of (fun g d hdep => ?_)
      exact step_move rfl trivial _ rfl (by kernel_rfl)
    | 1, _, ho =>
      cases ho
      refine stepG_of (fun g d hdep => ?_)
      exact step_load rfl trivial _ _ _ rfl rfl (fun v hw => box_tk hw.r5)
    | 2, _, ho =>
      cases ho
      exact stepG_callv rfl (fun _ => trivial) f _ _ _ fc (fun _ => [tk4 x]) rfl (fun g => by kernel_rfl) (fun g => by kernel_rfl) HEN.out (fun g d V hJ hun hdep hcl => (HX.out V hJ.ob).mono (by rintro e w' ⟨rfl, hb'⟩; exact ⟨(), rfl, (fun _ _ => rfl), hJ.carry hb'⟩))
    | 3, _, ho =>
      cases ho
      refine stepG_of (fun g d hdep => ?_)
      exact step_unOp rfl trivial _ _ _ _ rfl rfl (fun v hw => un_notT true v)
    | 4, _, ho =>
      cases ho
      refine stepG_of (fun g d hdep => ?_)
      exact step_load rfl trivial _ _ _ rfl rfl (fun v hw => box_tk hw.r5)
    | 5, _, ho =>
      cases ho
      exact stepG_call rfl (fun _ => trivial) 48 _ _ (fun _ => [.bool false, .int .i64 80, tk4 x]) rfl (fun g => by kernel_rfl) (enters_of Tryz.func48 (by kernel_rfl) rfl) (fun g d V hJ hun hdep hcl => (trefuse_no 80 x.1 x.2.2.1 x.2.2.2 x.2.1 V).mono (by rintro e w' ⟨rfl, hb'⟩; exact ⟨(), rfl, (fun _ _ => rfl), hJ.carry hb'⟩))
  intro g d W hall hW
  first | refine hK _ _ ?_ | refine (‹∀ (a : Act) (w : World), Code.wp Tryz.prog _ _ a w → _›) _ _ ?_ | skip
  simp only [finL, List.getD_cons_zero, List.getD_cons_succ, Nat.zero_add, Nat.reduceAdd, List.setIfInBounds_toArray, List.set_cons_zero, List.set_cons_succ]
  have hjW : JK nb wb w.heap.size W1.heap.size l n x w W := hW
  have p0 : W.cell? ⟨W1.heap.size, 0, none⟩ = some (.int .i64 x.1) := (cell_at hjW.r5 0).trans rfl
  have p1 : W.cell? ⟨W1.heap.size, 1, none⟩ = some (.string x.2.1) := (cell_at hjW.r5 1).trans rfl
  have p2 : W.cell? ⟨W1.heap.size, 2, none⟩ = some (.int .i64 x.2.2.1) := (cell_at hjW.r5 2).trans rfl
  have p3 : W.cell? ⟨W1.heap.size, 3, none⟩ = some (.int .i64 x.2.2.2) := (cell_at hjW.r5 3).trans rfl
  have hr4 := hjW.r4
  obtain ⟨W6, hW6⟩ : ∃ W6, W.setRow w.heap.size (tkC x) = W6 := ⟨_, rfl⟩
  have o6 : ∀ q, q ≠ w.heap.size → W6.heap[q]? = W.heap[q]? := fun q hq => by rw [← hW6]; exact Go.setRow_other _ _ _ _ hq
  have r6 : W6.heap[w.heap.size]? = some (.cells (tkC x) 56 (0, 0)) := by rw [← hW6]; exact setRow_heap _ _ _ _ _ _ hr4
  have s6 : W6.heap.size = W.heap.size := by rw [← hW6]; simp [World.setRow]
  have hsW := hjW.ob.size
  have HF : Hid (Tk nb wb l n W6 ∧ Ob nb w W6) := by
    have hob6 : Ob nb w W6 := ⟨by rw [← hW6]; exact hjW.ob.os, by rw [← hW6]; exact hjW.ob.tape, by rw [← hW6]; exact hjW.ob.output, by omega, fun q h1 h2 => (o6 q (by omega)).trans (hjW.ob.block q h1 h2)⟩
    exact ⟨h0.out.move hjW.tk hob6 (o6 nb (by omega)), hob6⟩
  clear hW hjW hall hK HJ4 s6 o6 hsW
  go_wp2_with (refine wpList_store_row rfl 56 (.tmp 4) (.tmp 23) rfl w.heap.size (tkC x) rfl rfl 56 _ hr4 infoTk rfl (by simp [tkC, Value.oneCell']) ?_; rw [hW6])
  refine retTk (x := x) rfl rfl rfl r6 ?_
  exact ⟨rfl, HF.out⟩
theorem step_mkI {P : Program} {md : Region.Mode} {ops : Array Oper} {Q : Exit → Act → World → Prop} {X0 : Array Value} {val : Nat → Value} {J : World → Prop} {i : Nat} {o : Oper} (hi : ops[i]? = some o) (hg : GOk md ops X0 val i o) (t : TypeId) (x : Operand) (v : Value) (ho : o.op = .makeInterface t x) (hx : rdo md ops X0 val i o x = some v) (hr : ∀ w, J w → (Instr.makeInterface t v).run P w = .ok (val i) w) : StepAt P md ops Q X0 val J J i o :=
  step_of hi hg fun a w hJ hS => by
    unfold Oper.wp execOp
    simp only [ho, hS.eval hx, Sem.run_bind, hr w hJ, Result.andThen_ok, Sem.run_pure, Oper.upon_value]
    exact ⟨trivial, hJ⟩
theorem mkI_P (v : Value) (w : World) : (Instr.makeInterface 77 v).run Tryz.prog w = .ok (.iface 77 v) w := by go_simp
end Go.Proofs.YtnkpohkodkjkfaaGreatDoor
