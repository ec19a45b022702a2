import Derived.Test.YtmahamdmapbilaaGreatDoorJwJ21
import Derived.Test.YtmahamdmapbilaaGreatDoorJwJ19
import Derived.Test.YtmahamdmapbilaaGreatDoorJwJ18
import Derived.Test.YtmahamdmapbilaaGreatDoorJwJ16
import Derived.Test.YtmahamdmapbilaaGreatDoorJwJ17
import Derived.Lib.ItoaLen
set_option maxHeartbeats 40000000
set_option maxRecDepth 100000
set_option linter.unusedVariables false
namespace Go.Proofs.YtmahamdmapbilaaGreatDoor
theorem testBit_bitsOf (l : List Int) (j : Nat) : ∀ t : List Int, (bitsOf l t).testBit j = true ↔ ∃ c ∈ t, l.idxOf c = j
 | [] => by simp [bitsOf]
 | c :: t => by
  rw [bitsOf, Nat.testBit_or, Bool.or_eq_true, testBit_bitsOf l j t, Nat.testBit_two_pow, decide_eq_true_eq]
  simp
theorem sgs_idx {l : List Int} (hn : l.Nodup) {i : Nat} (hi : i < l.length) : l.getD i 0 = l[i] ∧ l.idxOf l[i] = i ∧ l[i] ∈ l := by
 refine ⟨?_, hn.idxOf_getElem i hi, List.getElem_mem hi⟩
 rw [List.getD_eq_getElem?_getD, List.getElem?_eq_getElem hi]
 rfl
theorem sgs_facts {l : List Int} (hsg : Signs l) {N : Nat} (hw : wthB N l.length = true) :
   (∀ c ∈ sgs l (idsTo N 128), c ∈ l) ∧ (sgs l (idsTo N 128)).Nodup ∧ bitsOf l (sgs l (idsTo N 128)) = N := by
 have hlt : ∀ i ∈ idsTo N 128, i < l.length := fun i hi => (wth_id hw (mem_idsTo.1 hi).2).1
 refine ⟨?_, ?_, ?_⟩
 · intro c hc
   obtain ⟨i, hi, rfl⟩ := List.mem_map.1 hc
   rw [(sgs_idx hsg.nodup (hlt i hi)).1]
   exact List.getElem_mem _
 · have hp : (idsTo N 128).Pairwise (· < ·) := List.Pairwise.filter _ List.pairwise_lt_range
   rw [sgs, List.nodup_iff_pairwise_ne, List.pairwise_map]
   refine hp.imp_of_mem (fun {a b} ha hb hab e => ?_)
   have h1 := sgs_idx hsg.nodup (hlt a ha)
   have h2 := sgs_idx hsg.nodup (hlt b hb)
   rw [h1.1, h2.1] at e
   have := h1.2.1
   rw [e, h2.2.1] at this
   omega
 · apply Nat.eq_of_testBit_eq
   intro j
   rw [Bool.eq_iff_iff, testBit_bitsOf]
   constructor
   · rintro ⟨c, hc, rfl⟩
     obtain ⟨i, hi, rfl⟩ := List.mem_map.1 hc
     have h1 := sgs_idx hsg.nodup (hlt i hi)
     rw [h1.1, h1.2.1]
     exact (mem_idsTo.1 hi).2
   · intro hj
     have h0 := wth_id hw hj
     have hm : j ∈ idsTo N 128 := mem_idsTo.2 ⟨by omega, hj⟩
     exact ⟨l.getD j 0, List.mem_map.2 ⟨j, hm, rfl⟩, by rw [(sgs_idx hsg.nodup h0.1).1]; exact (sgs_idx hsg.nodup h0.1).2.1⟩
theorem wth_zero (n : Int) : wthB 0 n = true := by simp [wthB]
theorem parse_dash (l : List Int) : parseR l dash = (0, 0, 0) := by
 unfold parseR
 rw [if_neg (by decide), if_neg (by decide), if_pos rfl]
theorem parse_print {l : List Int} (hsg : Signs l) {N : Nat} (h : (prR l N).2 = 0) : parseR l (prR l N).1 = (N, 0, 0) ∧ (prR l N).1.size ≤ 65536 ∧ wthB N l.length = true := by
 unfold prR at h ⊢
 by_cases hw : wthB N l.length = true
 · rw [if_pos hw] at h ⊢
   by_cases hz : N = 0
   · rw [if_pos hz]
     subst hz
     exact ⟨parse_dash l, by decide, hw⟩
   · rw [if_neg hz]
     dsimp only
     obtain ⟨h1, h2, h3⟩ := sgs_facts hsg hw
     have hlet : ∀ c ∈ sgs l (idsTo N 128), cls c = 4 := fun c hc => hsg.letter c (h1 c hc)
     have hch : charsOf (txt (sgs l (idsTo N 128))) = sgs l (idsTo N 128) := chars_txt _ (fun c hc => code_letter (hlet c hc))
     have hne : sgs l (idsTo N 128) ≠ [] := by
       intro e
       rw [e] at h3
       exact hz h3.symm
     have hl : (sgs l (idsTo N 128)).length ≤ 128 := by
       rw [sgs, List.length_map]
       exact Nat.le_trans (List.length_filter_le _ _) (by simp)
     have hs := txt_size (sgs l (idsTo N 128))
     refine ⟨?_, by omega, hw⟩
     unfold parseR
     rw [if_neg (by omega), if_neg, if_neg, hch, psGo_mk l _ _ _ h1 h2 (fun c _ => by simp), h3, Nat.zero_or]
     · intro e
       have h0 : charsOf dash = [45] := by decide +kernel
       rw [e, h0] at hch
       have := hlet 45 (by rw [← hch]; simp)
       exact absurd this (by decide)
     · intro e
       rw [charsOf, charsFrom_end _ _ _ (by omega)] at hch
       exact hne hch.symm
 · rw [if_neg hw] at h
   cases h
end Go.Proofs.YtmahamdmapbilaaGreatDoor
namespace Go.Proofs.YtmahamdmapbilaaGreatDoor
open Go.RowKit Go.Shelf Go.Lib
def kt2 (x : Tk4) : Int × ByteArray := (x.1, x.2.1)
def wkt (r : List Pc) : List (Int × ByteArray) := r.filterMap (fun p => if p.1 = 0 then none else some (p.1, txt p.2))
theorem wkt_app (a b : List Pc) : wkt (a ++ b) = wkt a ++ wkt b := List.filterMap_append
theorem tks_kt : ∀ (n : Nat) (r : List Pc), (tks n r).map (fun x => (x.1, x.2.1)) = wkt r
 | n, [] => rfl
 | n, (k, x) :: r => by
  rw [tks, List.map_append, tks_kt (n + x.length) r, wkt, wkt, List.filterMap_cons]
  by_cases h : k = 0
  · rw [if_pos h]; simp [h]
  · rw [if_neg h]; simp [h]
theorem wds_kt (r : List Pc) : (wds r).map kt2 = wkt r ++ [(1, ⟨#[10]⟩)] := by
 rw [wds, List.map_append, List.map_map, ← tks_kt 0 r]
 rfl
theorem at_kt {l : List Tk4} {i : Nat} {k : Int} {t : ByteArray} (h : (l.map kt2)[i]? = some (k, t)) : ∃ x : Tk4, l[i]? = some x ∧ x.1 = k ∧ x.2.1 = t := by
 rw [List.getElem?_map] at h
 cases hx : l[i]? with
 | none => rw [hx] at h; cases h
 | some x =>
  rw [hx] at h
  have := Option.some.inj h
  exact ⟨x, rfl, congrArg Prod.fst this, congrArg Prod.snd this⟩
def dgR (v : Nat) : List Int := (decDigits v).map (fun b => (b.toNat : Int))
theorem enc_asc {c : Int} (h : 0 ≤ c) (h2 : c < 128) : (code c : Int) = c ∧ (Utf8.encode c).data.toList = [UInt8.ofNat c.toNat] := by
 have hc : code c = c.toNat := by
  unfold code Utf8.valid
  rw [if_pos]
  simp only [Bool.or_eq_true, Bool.and_eq_true, decide_eq_true_eq]
  omega
 refine ⟨by rw [hc]; omega, ?_⟩
 rw [enc_list, hc, if_pos (by omega)]
theorem wr_asc : ∀ (l : List UInt8), (∀ b ∈ l, b.toNat < 128) → wr (l.map (fun b => (b.toNat : Int))) = l
 | [], _ => rfl
 | b :: l, h => by
  have h1 := h b List.mem_cons_self
  rw [List.map_cons, wr, (enc_asc (by omega) (by omega)).2, wr_asc l (fun c hc => h c (List.mem_cons_of_mem _ hc)), Int.toNat_natCast]
  simp
theorem txt_asc (l : List UInt8) (h : ∀ b ∈ l, b.toNat < 128) : txt (l.map (fun b => (b.toNat : Int))) = ⟨l.toArray⟩ := by
 unfold txt
 rw [wr_asc l h]
theorem txt_dg (v : Nat) : txt (dgR v) = ⟨(decDigits v).toArray⟩ := txt_asc _ (fun b hb => by have := (dec_spec v).1 b hb; unfold dgt at this; omega)
theorem dg_cls (v : Nat) : ∀ c ∈ dgR v, (code c : Int) = c ∧ c ≠ 10 ∧ cls c = 3 := by
 intro c hc
 obtain ⟨b, hb, rfl⟩ := List.mem_map.1 hc
 have h := (dec_spec v).1 b hb
 unfold dgt at h
 refine ⟨(enc_asc (by omega) (by omega)).1, by omega, ?_⟩
 unfold cls
 rw [if_neg (by omega), if_neg (by omega), if_pos (by omega)]
theorem dg_cons (v : Nat) : ∃ c x, dgR v = c :: x := by
 obtain ⟨_, _, b, r, e, _⟩ := dec_spec v
 exact ⟨_, _, by unfold dgR; rw [e]; rfl⟩
theorem num_big (v : Nat) (hv : v ≤ 1099511627776) : numR ⟨(decDigits v).toArray⟩ = some v := by
 obtain ⟨h1, h2, b, r, e, h3, _⟩ := dec_spec v
 have hsz : (⟨(decDigits v).toArray⟩ : ByteArray).size = (decDigits v).length := by show (decDigits v).toArray.size = _; simp
 have hb0 : byt ⟨(decDigits v).toArray⟩ 0 = b.toNat := by rw [e]; exact byt_at [] b r
 unfold numR
 rw [if_neg, hsz]
 · have := numAt_good (decDigits v) [] 0 h1 (by rw [h2]; omega)
   rw [h2] at this
   exact this
 · rw [hsz, hb0]
   rintro (c | ⟨c, d⟩)
   · rw [e] at c; simp at c
   · refine h3 (fun hr => ?_) c
     rw [e, hr] at d
     simp at d
def blP : Pc := (0, [32])
def mkP (c : Int) : Pc := (5, [c])
def sgP (c : Int) : Pc := (2, [c])
def nuP (v : Nat) : Pc := (3, dgR v)
def ntP (L : List Int) (x : N3t) : List Pc := [sgP (L.getD x.1.toNat 0), mkP (mkI x.2.2), nuP x.2.1.toNat]
def nsP (L : List Int) : List N3t → List Pc
 | [] => []
 | [x] => ntP L x
 | x :: y :: r => ntP L x ++ (blP :: nsP L (y :: r))
def newsP (L : List Int) (ns : List N3t) : List Pc := mkP 91 :: (nsP L ns ++ [mkP 93])
def setP (L : List Int) (N : Nat) : Pc := if N = 0 then mkP 45 else (2, sgs L (idsTo N 128))
def wordP (b : ByteArray) : Pc := (2, b.data.toList.map (fun b => (b.toNat : Int)))
def noteP (L : List Int) (kd : Nat) (fr : Int) (rd : Nat) (N : Nat) (ns : List N3t) : List Pc :=
 if kd = 1 then wordP ⟨#[113, 117, 101, 114, 121]⟩ :: blP :: sgP (L.getD fr.toNat 0) :: blP :: nuP rd :: blP :: newsP L ns
 else if kd = 2 then wordP ⟨#[114, 101, 112, 108, 121]⟩ :: blP :: sgP (L.getD fr.toNat 0) :: blP :: nuP rd :: blP :: setP L N :: blP :: newsP L ns
 else wordP ⟨#[114, 117, 109, 111, 114]⟩ :: blP :: sgP (L.getD fr.toNat 0) :: blP :: newsP L ns
theorem dg_size (v : Nat) (h : v < 18446744073709551616) : (txt (dgR v)).size ≤ 20 := by
 rw [txt_dg]
 show (decDigits v).toArray.size ≤ 20
 rw [List.size_toArray, decDigits_length]
 exact nDigits_le20 v h
def okB : List Pc → List Int → Prop
 | [], _ => True
 | (k, x) :: r, B => (∀ c ∈ x, (code c : Int) = c ∧ c ≠ 10) ∧ okW k x (pcR r ++ B) ∧ okB r B
theorem pcR_app : ∀ a b : List Pc, pcR (a ++ b) = pcR a ++ pcR b
 | [], b => rfl
 | (k, x) :: a, b => by rw [List.cons_append, pcR, pcR, pcR_app a b, List.append_assoc]
theorem okB_P : ∀ r : List Pc, okB r [] → okP r
 | [], _ => trivial
 | (k, x) :: r, h => ⟨h.1, by have := h.2.1; rwa [List.append_nil] at this, okB_P r h.2.2⟩
theorem sp_bl (B : List Int) : Sp (32 :: B) := ⟨by decide, by decide⟩
theorem ok_bl (r : List Pc) (B : List Int) (h : okB r B) : okB (blP :: r) B := ⟨fun c hc => by rw [List.mem_singleton.1 hc]; exact ⟨by decide, by decide⟩, .inl ⟨rfl, rfl⟩, h⟩
theorem ok_sg {L : List Int} (hS : Signs L) {c : Int} (hc : c ∈ L) (r : List Pc) (B : List Int) (hsp : Sp (pcR r ++ B)) (h : okB r B) : okB (sgP c :: r) B := by
 have h4 := hS.letter c hc
 refine ⟨fun d hd => ?_, .inr (.inl ⟨rfl, ⟨c, [], rfl, h4⟩, fun d hd => ?_, by simp, hsp⟩), h⟩
 · rw [List.mem_singleton.1 hd]
   exact ⟨code_letter h4, fun e => by rw [e] at h4; exact absurd h4 (by decide)⟩
 · rw [List.mem_singleton.1 hd]; exact .inl h4
theorem ok_nu (v : Nat) (hv : v ≤ 1099511627776) (r : List Pc) (B : List Int) (hsp : Sp (pcR r ++ B)) (h : okB r B) : okB (nuP v :: r) B := by
 obtain ⟨c, x, e⟩ := dg_cons v
 refine ⟨fun d hd => ⟨(dg_cls v d hd).1, (dg_cls v d hd).2.1⟩, .inr (.inr (.inl ⟨rfl, ⟨c, x, e⟩, fun d hd => (dg_cls v d hd).2.2, ?_, hsp⟩)), h⟩
 rw [txt_dg, num_big v hv]
 simp
theorem ok_mk (c : Int) (hc : c = 91 ∨ c = 93 ∨ c = 63 ∨ c = 33 ∨ c = 45) (r : List Pc) (B : List Int) (h : okB r B) : okB (mkP c :: r) B := by
 have hw : (code c : Int) = c ∧ c ≠ 10 ∧ cls c = 5 ∧ c ≠ 34 ∧ c ≠ 35 ∧ (wr [c]).length = 1 := by
  have h0 := enc_asc (c := c) (by omega) (by omega)
  refine ⟨h0.1, by omega, ?_, by omega, by omega, by rw [wr_one, h0.2]; rfl⟩
  rcases hc with rfl | rfl | rfl | rfl | rfl <;> decide
 exact ⟨fun d hd => by rw [List.mem_singleton.1 hd]; exact ⟨hw.1, hw.2.1⟩, .inr (.inr (.inr ⟨rfl, c, rfl, hw.2.2.1, hw.2.2.2.1, hw.2.2.2.2.1, hw.2.2.2.2.2⟩)), h⟩
theorem sp_mk (c : Int) (hc : c = 91 ∨ c = 93 ∨ c = 63 ∨ c = 33 ∨ c = 45) (B : List Int) : Sp (c :: B) := by
 rcases hc with rfl | rfl | rfl | rfl | rfl <;> exact ⟨by decide, by decide⟩
theorem mkI_or (k : Int) : mkI k = 91 ∨ mkI k = 93 ∨ mkI k = 63 ∨ mkI k = 33 ∨ mkI k = 45 := by
 unfold mkI
 split
 · exact .inr (.inr (.inl rfl))
 · exact .inr (.inr (.inr (.inl rfl)))
def vN (L : List Int) (x : N3t) : Prop := vl L.length x.1 x.2.1 x.2.2 = true
theorem vN_facts {L : List Int} {x : N3t} (h : vN L x) : ∃ (o t : Nat), x.1 = o ∧ x.2.1 = t ∧ o < L.length ∧ t ≤ 1048576 ∧ (x.2.2 = 1 ∨ x.2.2 = 2) := by
 obtain ⟨v1, v2, v3, v4, v5⟩ := of_decide_eq_true h
 obtain ⟨t1, t2, tk⟩ := rk_ok.1 v5
 exact ⟨x.1.toNat, x.2.1.toNat, by omega, by omega, by omega, by omega, tk⟩
theorem mem_getD {L : List Int} {o : Nat} (h : o < L.length) : L.getD o 0 ∈ L := by
 rw [List.getD_eq_getElem?_getD, List.getElem?_eq_getElem h]
 exact List.getElem_mem h
theorem ok_nt {L : List Int} (hS : Signs L) {x : N3t} (h : vN L x) (r : List Pc) (B : List Int) (hsp : Sp (pcR r ++ B)) (hr : okB r B) : okB (ntP L x ++ r) B := by
 obtain ⟨o, t, e1, e2, h1, h2, h3⟩ := vN_facts h
 unfold ntP
 rw [e1, e2, Int.toNat_natCast, Int.toNat_natCast]
 refine ok_sg hS (mem_getD h1) _ B (sp_mk _ (mkI_or _) _) (ok_mk _ (mkI_or _) _ B ?_)
 exact ok_nu t (by omega) r B hsp hr
theorem ok_ns {L : List Int} (hS : Signs L) : ∀ (ns : List N3t) (r : List Pc) (B : List Int), (∀ x ∈ ns, vN L x) → Sp (pcR r ++ B) → okB r B → okB (nsP L ns ++ r) B
 | [], r, B, _, _, h => h
 | [x], r, B, hv, hsp, h => ok_nt hS (hv x (by simp)) r B hsp h
 | x :: y :: ns, r, B, hv, hsp, h => by
  rw [nsP, List.append_assoc]
  exact ok_nt hS (hv x (by simp)) _ B (sp_bl _) (ok_bl _ B (ok_ns hS (y :: ns) r B (fun z hz => hv z (List.mem_cons_of_mem _ hz)) hsp h))
theorem ok_news {L : List Int} (hS : Signs L) (ns : List N3t) (hv : ∀ x ∈ ns, vN L x) : okB (newsP L ns) [] := by
 unfold newsP
 refine ok_mk 91 (by simp) _ _ (ok_ns hS ns [mkP 93] [] hv (sp_mk 93 (by simp) _) (ok_mk 93 (by simp) [] [] trivial))
theorem ok_wd (b : ByteArray) (hb : ∀ x ∈ b.data.toList, 97 ≤ x.toNat ∧ x.toNat ≤ 122) (hl : 1 ≤ b.data.toList.length ∧ b.data.toList.length ≤ 100) (r : List Pc) (B : List Int) (hsp : Sp (pcR r ++ B)) (h : okB r B) : okB (wordP b :: r) B := by
 have hc : ∀ d ∈ b.data.toList.map (fun b => (b.toNat : Int)), (code d : Int) = d ∧ d ≠ 10 ∧ cls d = 4 := by
  intro d hd
  obtain ⟨x, hx, rfl⟩ := List.mem_map.1 hd
  have := hb x hx
  refine ⟨(enc_asc (by omega) (by omega)).1, by omega, ?_⟩
  unfold cls
  rw [if_neg (by omega), if_neg (by omega), if_neg (by omega), if_pos (by omega)]
 refine ⟨fun d hd => ⟨(hc d hd).1, (hc d hd).2.1⟩, .inr (.inl ⟨rfl, ?_, fun d hd => .inl (hc d hd).2.2, by rw [List.length_map]; omega, hsp⟩), h⟩
 cases e : b.data.toList with
 | nil => rw [e] at hl; simp at hl
 | cons y ys =>
  refine ⟨_, _, rfl, (hc _ ?_).2.2⟩
  rw [e]
  exact List.mem_cons_self
theorem ok_set {L : List Int} (hS : Signs L) {N : Nat} (hw : wthB N L.length = true) (r : List Pc) (B : List Int) (hsp : Sp (pcR r ++ B)) (h : okB r B) : okB (setP L N :: r) B := by
 unfold setP
 by_cases hz : N = 0
 · rw [if_pos hz]; exact ok_mk 45 (by simp) r B h
 rw [if_neg hz]
 have hf := (sgs_facts hS hw).1
 refine ⟨fun d hd => ?_, .inr (.inl ⟨rfl, ?_, fun d hd => .inl (hS.letter d (hf d hd)), ?_, hsp⟩), h⟩
 · have h4 := hS.letter d (hf d hd)
   exact ⟨code_letter h4, fun e => by rw [e] at h4; exact absurd h4 (by decide)⟩
 · cases e : sgs L (idsTo N 128) with
   | nil =>
    exfalso
    have := (sgs_facts hS hw).2.2
    rw [e] at this
    exact hz this.symm
   | cons y ys => exact ⟨y, ys, rfl, hS.letter y (hf y (by rw [e]; exact List.mem_cons_self))⟩
 · unfold sgs
   rw [List.length_map]
   exact Nat.le_trans (List.length_filter_le _ _) (by simp)
theorem ok_note {L : List Int} (hS : Signs L) {kd : Nat} {fr rd : Nat} {N : Nat} {ns : List N3t} (hf : fr < L.length) (hr : rd ≤ 1099511627775) (hw : wthB N L.length = true) (hv : ∀ x ∈ ns, vN L x) : okP (noteP L kd (fr : Int) rd N ns) := by
 have hn := ok_news hS ns hv
 have hm := mem_getD hf
 apply okB_P
 unfold noteP
 rw [Int.toNat_natCast]
 split
 · exact ok_wd _ (by decide) (by decide) _ _ (sp_bl _) (ok_bl _ _ (ok_sg hS hm _ _ (sp_bl _) (ok_bl _ _ (ok_nu rd (by omega) _ _ (sp_bl _) (ok_bl _ _ hn)))))
 · split
   · exact ok_wd _ (by decide) (by decide) _ _ (sp_bl _) (ok_bl _ _ (ok_sg hS hm _ _ (sp_bl _) (ok_bl _ _ (ok_nu rd (by omega) _ _ (sp_bl _) (ok_bl _ _ (ok_set hS hw _ _ (sp_bl _) (ok_bl _ _ hn)))))))
   · exact ok_wd _ (by decide) (by decide) _ _ (sp_bl _) (ok_bl _ _ (ok_sg hS hm _ _ (sp_bl _) (ok_bl _ _ hn)))
def w3 (L : List Int) (x : N3t) : List (Int × ByteArray) := [(2, txt [L.getD x.1.toNat 0]), (5, txt [mkI x.2.2]), (3, txt (dgR x.2.1.toNat))]
theorem wkt_nt (L : List Int) (x : N3t) : wkt (ntP L x) = w3 L x := rfl
theorem wkt_ns (L : List Int) : ∀ ns : List N3t, wkt (nsP L ns) = ns.flatMap (w3 L)
 | [] => rfl
 | [x] => by rw [nsP, wkt_nt]; simp
 | x :: y :: ns => by
  rw [nsP, wkt_app, wkt_nt, List.flatMap_cons]
  congr 1
  exact wkt_ns L (y :: ns)
theorem wkt_news (L : List Int) (ns : List N3t) : wkt (newsP L ns) = (5, txt [91]) :: (ns.flatMap (w3 L) ++ [(5, txt [93])]) := by
 unfold newsP
 rw [show mkP 91 :: (nsP L ns ++ [mkP 93]) = [mkP 91] ++ (nsP L ns ++ [mkP 93]) from rfl, wkt_app, wkt_app, wkt_ns]
 rfl
theorem flat3_len (L : List Int) : ∀ ns : List N3t, (ns.flatMap (w3 L)).length = 3 * ns.length
 | [] => rfl
 | x :: ns => by rw [List.flatMap_cons, List.length_append, flat3_len L ns, List.length_cons]; simp [w3]; omega
theorem flat3_at (L : List Int) : ∀ (ns : List N3t) (k : Nat) (x : N3t) (j : Nat), ns[k]? = some x → j < 3 → (ns.flatMap (w3 L))[3 * k + j]? = (w3 L x)[j]?
 | [], k, x, j, h, _ => by simp at h
 | y :: ns, 0, x, j, h, hj => by
  simp at h
  subst h
  rw [List.flatMap_cons, List.getElem?_append_left (by simp [w3]; omega), show 3 * 0 + j = j by omega]
 | y :: ns, k + 1, x, j, h, hj => by
  simp at h
  rw [List.flatMap_cons, List.getElem?_append_right (by simp [w3]; omega), show 3 * (k + 1) + j - (w3 L y).length = 3 * k + j by simp [w3]; omega]
  exact flat3_at L ns k x j h hj
theorem txt1 {c : Int} (hc : (code c : Int) = c) : ((starts (txt [c])).length : Int) = 1 ∧ ((rn (txt [c]) 0 : Nat) : Int) = c ∧ (txt [c]).size ≤ 4 := by
 refine ⟨by rw [starts_told]; rfl, (txt_at [] [] c hc).1, by have := txt_size [c]; simpa using this⟩
theorem mk_list {c : Int} (h : c = 91 ∨ c = 93 ∨ c = 63 ∨ c = 33 ∨ c = 45) : (txt [c]).toList = [UInt8.ofNat c.toNat] ∧ (txt [c]).size = 1 := by
 rcases h with rfl | rfl | rfl | rfl | rfl <;> exact ⟨by kernel_rfl, by kernel_rfl⟩
theorem sgA_of {L : List Int} (hS : Signs L) {l : List Tk4} {i fr : Nat} (hf : fr < L.length) (h : (l.map kt2)[i]? = some (2, txt [L.getD fr 0])) : SgA L l i (fr : Int) := by
 obtain ⟨x, h1, h2, h3⟩ := at_kt h
 have hm := mem_getD hf
 obtain ⟨a1, a2, a3⟩ := txt1 (code_letter (hS.letter _ hm))
 refine ⟨x, h1, h2, ?_, ?_, ?_, ?_⟩
 · rw [h3]; exact a1
 · rw [h3]; omega
 · rw [h3, a2]; exact hm
 · rw [h3, a2]
   have := (sgs_idx hS.nodup hf)
   rw [this.1, this.2.1]
theorem rnA_of {l : List Tk4} {i rd : Nat} (h1 : 1 ≤ rd) (h2 : rd ≤ 1099511627775) (h : (l.map kt2)[i]? = some (3, txt (dgR rd))) : RnA l i rd := by
 obtain ⟨x, e1, e2, e3⟩ := at_kt h
 refine ⟨x, e1, e2, ?_, ?_, h1, h2⟩
 · rw [e3]; have := dg_size rd (by omega); omega
 · rw [e3, txt_dg, num_big rd (by omega)]
theorem hdA_of {L : List Int} (hS : Signs L) {l : List Tk4} {i N : Nat} (hw : wthB N L.length = true) (h : (l.map kt2)[i]? = some ((setP L N).1, txt (setP L N).2)) : HdA L l i N := by
 obtain ⟨x, e1, e2, e3⟩ := at_kt h
 have hp2 : (prR L N).2 = 0 := by unfold prR; rw [if_pos hw]; split <;> rfl
 obtain ⟨p1, p2, _⟩ := parse_print hS hp2
 have ht : txt (setP L N).2 = (prR L N).1 := by
   unfold setP prR
   rw [if_pos hw]
   by_cases hz : N = 0
   · rw [if_pos hz, if_pos hz]; kernel_rfl
   · rw [if_neg hz, if_neg hz]
 refine ⟨x, e1, ?_, ?_, ?_⟩
 · rw [e2, e3]
   unfold setP
   by_cases hz : N = 0
   · rw [if_pos hz]; kernel_rfl
   · rw [if_neg hz]; rfl
 · rw [e3, ht]; omega
 · rw [e3, ht]; exact p1
theorem rd_nt {L : List Int} (hS : Signs L) {x : N3t} (h : vN L x) : rdP L (txt [L.getD x.1.toNat 0] ++ txt [mkI x.2.2] ++ txt (dgR x.2.1.toNat)) = (x.1, x.2.1, x.2.2, 0) := by
 have e : txt [L.getD x.1.toNat 0] ++ txt [mkI x.2.2] ++ txt (dgR x.2.1.toNat) = prT (L.getD x.1.toNat 0) x.2.1 x.2.2 := by
  rw [txt_dg]
  unfold prT
  congr 1
  congr 1
  · apply ByteArray.ext
    apply Array.toList_inj.1
    rw [txt_data, wr_one]
  · unfold mkI mkS
    by_cases hk : x.2.2 = 2
    · rw [if_pos hk, if_pos hk]; kernel_rfl
    · rw [if_neg hk, if_neg hk]; kernel_rfl
 rw [e, rd_eq hS]
 exact (rd_print hS h).1
theorem nwA_of {L : List Int} (hS : Signs L) {l : List Tk4} {i : Nat} {ns : List N3t} {A B : List (Int × ByteArray)} (hl : l.map kt2 = A ++ (wkt (newsP L ns) ++ B)) (hA : A.length = i) (hv : ∀ x ∈ ns, vN L x) (hr : ∀ k (x y : N3t), ns[k]? = some x → ns[k + 1]? = some y → x.1 < y.1) : NwA L l i ns := by
 rw [wkt_news] at hl
 have hat : ∀ j, (l.map kt2)[i + j]? = ((5, txt [91]) :: (ns.flatMap (w3 L) ++ [(5, txt [93])]) ++ B)[j]? := fun j => by
   rw [hl, List.getElem?_append_right (by omega)]
   congr 1
   omega
 have hfl := flat3_len L ns
 refine ⟨?_, ?_, ?_, hr⟩
 · obtain ⟨x, e1, e2, e3⟩ := at_kt (i := i) (k := 5) (t := txt [91]) (by have := hat 0; rw [Nat.add_zero] at this; rw [this]; rfl)
   refine ⟨x, e1, ?_⟩
   rw [e2, e3, (mk_list (.inl rfl)).1]
   rfl
 · obtain ⟨x, e1, e2, e3⟩ := at_kt (l := l) (i := i + 1 + 3 * ns.length) (k := 5) (t := txt [93]) (by
     rw [show i + 1 + 3 * ns.length = i + (3 * ns.length + 1) by omega, hat, List.cons_append, List.getElem?_cons_succ, List.append_assoc, List.getElem?_append_right (by omega), hfl, Nat.sub_self]
     rfl)
   obtain ⟨m1, m2⟩ := mk_list (c := 93) (by simp)
   exact ⟨x, e1, e2, by rw [e3, m1]; rfl, by rw [e3, m2]; omega⟩
 · intro k o t q hk
   have hkl : k < ns.length := (List.getElem?_eq_some_iff.1 hk).1
   have hvx := hv _ (List.mem_of_getElem? hk)
   obtain ⟨o', t', e1, e2, h1, h2, h3⟩ := vN_facts hvx
   dsimp only at e1 e2 h3
   have g : ∀ j, j < 3 → (l.map kt2)[i + 1 + 3 * k + j]? = (w3 L (o, t, q))[j]? := fun j hj => by
     rw [show i + 1 + 3 * k + j = i + ((3 * k + j) + 1) by omega, hat, List.cons_append, List.getElem?_cons_succ, List.append_assoc, List.getElem?_append_left (by omega), flat3_at L ns k _ j hk hj]
   obtain ⟨x, x1, x2, x3⟩ := at_kt (g 0 (by omega))
   obtain ⟨y, y1, y2, y3⟩ := at_kt (g 1 (by omega))
   obtain ⟨z, z1, z2, z3⟩ := at_kt (g 2 (by omega))
   have hm := mem_getD h1
   obtain ⟨a1, a2, a3⟩ := txt1 (code_letter (hS.letter _ hm))
   obtain ⟨m1, m2⟩ := mk_list (mkI_or q)
   have hrd := rd_nt hS hvx
   dsimp only at x3 y3 z3 hrd
   rw [e1, Int.toNat_natCast] at x3
   rw [e1, Int.toNat_natCast] at hrd
   refine ⟨x, y, z, x1, y1, z1, x2, ?_, ?_, ?_, ?_, ?_, ?_, z2, ?_, ?_⟩
   · rw [x3]; exact a1
   · rw [x3, a2]; exact hm
   · rw [x3, a2, (sgs_idx hS.nodup h1).1, (sgs_idx hS.nodup h1).2.1, e1]
   · rw [x3]; omega
   · rw [y2, y3, m1]
     unfold mkI
     split <;> rfl
   · rw [y3, m2]; omega
   · rw [z3]; have := dg_size t.toNat (by omega); omega
   · rw [x3, y3, z3, e1]; exact hrd
theorem flat4_at : ∀ (l : List Tk4) (k : Nat) (x : Tk4) (j : Nat) (v : Value), l[k]? = some x → (tkC x)[j]? = some v → (l.flatMap (fun x => (tkC x).toList))[k * 4 + j]? = some v
 | [], k, x, j, v, h, _ => by simp at h
 | y :: l, 0, x, j, v, h, hv => by
  simp at h
  subst h
  have hj : j < 4 := (Array.getElem?_eq_some_iff.1 hv).1
  rw [List.flatMap_cons, List.getElem?_append_left (by simp [tkC]; omega), Nat.zero_mul, Nat.zero_add, Array.getElem?_toList]
  exact hv
 | y :: l, k + 1, x, j, v, h, hv => by
  simp at h
  rw [List.flatMap_cons, List.getElem?_append_right (by simp [tkC]; omega), show (k + 1) * 4 + j - (tkC y).toList.length = k * 4 + j by simp [tkC]; omega]
  exact flat4_at l k x j v h hv
theorem wr_dg (v : Nat) (h : v < 18446744073709551616) : (wr (dgR v)).length ≤ 20 := by rw [← txt_sz]; exact dg_size v h
theorem wr_c (c : Int) : (wr [c]).length ≤ 4 := by have := wr_len [c]; simpa using this
theorem wr_pc (k : Int) (x : List Int) (r : List Pc) : (wr (pcR ((k, x) :: r))).length = (wr x).length + (wr (pcR r)).length := by rw [pcR, wr_append, List.length_append]
theorem wr_nt {L : List Int} {x : N3t} (h : vN L x) (r : List Pc) : (wr (pcR (ntP L x ++ r))).length ≤ 28 + (wr (pcR r)).length := by
 obtain ⟨o, t, e1, e2, h1, h2, h3⟩ := vN_facts h
 unfold ntP sgP mkP nuP
 rw [List.cons_append, List.cons_append, List.cons_append, List.nil_append, wr_pc, wr_pc, wr_pc]
 have a := wr_c (L.getD x.1.toNat 0)
 have b := wr_c (mkI x.2.2)
 have c := wr_dg x.2.1.toNat (by omega)
 omega
theorem wr_ns {L : List Int} : ∀ (ns : List N3t) (r : List Pc), (∀ x ∈ ns, vN L x) → (wr (pcR (nsP L ns ++ r))).length ≤ 32 * ns.length + (wr (pcR r)).length
 | [], r, _ => by simp [nsP]
 | [x], r, h => by have := wr_nt (h x (by simp)) r; simp only [nsP, List.length_singleton]; omega
 | x :: y :: ns, r, h => by
  rw [nsP, List.append_assoc]
  have h1 := wr_nt (h x (by simp)) (blP :: nsP L (y :: ns) ++ r)
  have h2 := wr_ns (y :: ns) r (fun z hz => h z (List.mem_cons_of_mem _ hz))
  have h3 : (wr (pcR (blP :: nsP L (y :: ns) ++ r))).length = (wr [32]).length + (wr (pcR (nsP L (y :: ns) ++ r))).length := wr_pc 0 [32] _
  have h4 := wr_c 32
  simp only [List.length_cons] at h2 ⊢
  omega
theorem wr_news {L : List Int} (ns : List N3t) (h : ∀ x ∈ ns, vN L x) : (wr (pcR (newsP L ns))).length ≤ 32 * ns.length + 8 := by
 unfold newsP
 have h1 : (wr (pcR (mkP 91 :: (nsP L ns ++ [mkP 93])))).length = _ := wr_pc 5 [91] _
 have h2 := wr_ns ns [mkP 93] h
 have h3 : (wr (pcR [mkP 93])).length = _ := wr_pc 5 [93] []
 have h4 := wr_c 91
 have h5 := wr_c 93
 have h6 : (wr (pcR [])).length = 0 := rfl
 omega
theorem wr_set (L : List Int) (N : Nat) : (wr (setP L N).2).length ≤ 512 := by
 unfold setP
 split
 · have := wr_c 45; show (wr [45]).length ≤ 512; omega
 · have h1 := wr_len (sgs L (idsTo N 128))
   have h2 : (sgs L (idsTo N 128)).length ≤ 128 := by
    unfold sgs
    rw [List.length_map]
    exact Nat.le_trans (List.length_filter_le _ _) (by simp)
   show (wr (sgs L (idsTo N 128))).length ≤ 512
   omega
theorem note_short {L : List Int} {kd : Nat} {fr : Int} {rd N : Nat} {ns : List N3t} (hr : rd ≤ 1099511627775) (hv : ∀ x ∈ ns, vN L x) (hn : ns.length ≤ 1000) : (txt (pcR (noteP L kd fr rd N ns))).size ≤ 65536 := by
 rw [txt_sz]
 have h1 := wr_news ns hv
 have h2 := wr_c (L.getD fr.toNat 0)
 have h3 := wr_dg rd (by omega)
 have h4 := wr_set L N
 have h5 := wr_c 32
 have q1 : (wr (wordP ⟨#[113, 117, 101, 114, 121]⟩).2).length ≤ 20 := wr_len _
 have q2 : (wr (wordP ⟨#[114, 101, 112, 108, 121]⟩).2).length ≤ 20 := wr_len _
 have q3 : (wr (wordP ⟨#[114, 117, 109, 111, 114]⟩).2).length ≤ 20 := wr_len _
 have e0 : ∀ (p : Pc) (r : List Pc), (wr (pcR (p :: r))).length = (wr p.2).length + (wr (pcR r)).length := fun p r => wr_pc p.1 p.2 r
 have e1 : (wr blP.2).length = (wr [32]).length := rfl
 have e2 : (wr (sgP (L.getD fr.toNat 0)).2).length = (wr [L.getD fr.toNat 0]).length := rfl
 have e3 : (wr (nuP rd).2).length = (wr (dgR rd)).length := rfl
 unfold noteP
 split
 · rw [e0, e0, e0, e0, e0, e0, e1, e2, e3]; omega
 · split
   · rw [e0, e0, e0, e0, e0, e0, e0, e0, e1, e2, e3]; omega
   · rw [e0, e0, e0, e0, e1, e2]; omega
theorem pc_ne (p : Pc) (r : List Pc) (h : p.1 ≠ 0) : tks 0 (p :: r) ≠ [] := by
 obtain ⟨k, x⟩ := p
 rw [tks, if_neg h]
 simp
theorem note_ne (L : List Int) (kd : Nat) (fr : Int) (rd N : Nat) (ns : List N3t) : tks 0 (noteP L kd fr rd N ns) ≠ [] := by
 unfold noteP
 split
 · exact pc_ne _ _ (by decide)
 · split
   · exact pc_ne _ _ (by decide)
   · exact pc_ne _ _ (by decide)
structure NsV (L : List Int) (ns : List N3t) : Prop where
 v : ∀ x ∈ ns, vN L x
 r : ∀ k (x y : N3t), ns[k]? = some x → ns[k + 1]? = some y → x.1 < y.1
 n : ns.length ≤ 1000
theorem wkt_cons (p : Pc) (r : List Pc) (h : p.1 ≠ 0) : wkt (p :: r) = (p.1, txt p.2) :: wkt r := by
 unfold wkt
 rw [List.filterMap_cons, if_neg h]
theorem wkt_bl (r : List Pc) : wkt (blP :: r) = wkt r := by
 unfold wkt blP
 rw [List.filterMap_cons, if_pos rfl]
theorem txt_wd (b : ByteArray) (h : ∀ x ∈ b.data.toList, x.toNat < 128) : txt (wordP b).2 = b := by
 show txt (b.data.toList.map _) = b
 rw [txt_asc _ h]
theorem fl_news (L : List Int) (ns : List N3t) : (wkt (newsP L ns)).length = 3 * ns.length + 2 := by
 rw [wkt_news, List.length_cons, List.length_append, flat3_len]
 simp
theorem set_ne (L : List Int) (N : Nat) : (setP L N).1 ≠ 0 := by
 unfold setP
 split
 · exact (show (5 : Int) ≠ 0 by decide)
 · exact (show (2 : Int) ≠ 0 by decide)
theorem extra156 : Builder.Extra Tryz.prog ren156 := {
 sizeBuilder := by kernel_rfl
 liesBuilder := by kernel_rfl
 t5 := Tryz.underlying5
 a5 := Tryz.isAgg5
 z5 := Tryz.sizeOf5
 v5 := Tryz.zeroValue5
 infoByte := by kernel_rfl
 cellsByte := by kernel_rfl
 sizeByte := by kernel_rfl
 neB5 := by decide }
def jnB (xs : List ByteArray) : ByteArray := ⟨(Lib.join (xs.map (·.data.toList)) [32]).toArray⟩
def RdX (W : World) (ad : Option Addr) (xs : List ByteArray) : Prop := xs ≠ [] → ∃ b off, ad = some ⟨b, off, none⟩ ∧ b < W.heap.size ∧ ∀ (j : Nat) x, xs[j]? = some x → W.cell? ⟨b, off + j, none⟩ = some (.string x)
theorem join_any (ad : Option Addr) (c : Nat) (xs : List ByteArray) (w : World) (h : RdX w ad xs) (hc : xs.length ≤ c) (hN : xs.length ≤ 100000) (hlen : (jnB xs).size ≤ 140737488355328) : Calls Tryz.prog 157 #[.slice ad xs.length c, .string ⟨#[32]⟩] w fun e w' => e = .returned (.string (jnB xs)) ∧ Below w.heap.size w w' := by
  by_cases hx : xs = []
  · subst hx
    refine (Any.strings_Join_none lays156 extra156 ad c ⟨#[32]⟩ w).mono ?_
    rintro e w' ⟨rfl, rfl⟩
    exact ⟨rfl, Below.refl _ _⟩
  · obtain ⟨b, off, rfl, h1, h2⟩ := h hx
    exact Any.strings_Join lays156 extra156 b off c xs ⟨#[32]⟩ w h2 h1 (by omega) hc (by have : (jnB xs).size = (Lib.join (xs.map (·.data.toList)) [32]).length := by show (Lib.join _ _).toArray.size = _; simp
                                                                                         rw [this] at hlen; exact hlen)
def ntT (L : List Int) (x : N3t) : ByteArray := prT (L.getD x.1.toNat 0) x.2.1 x.2.2
theorem ntT_data (L : List Int) (x : N3t) : (ntT L x).data.toList = wr (pcR (ntP L x)) := by
 unfold ntT ntP sgP mkP nuP
 rw [prT_data, pcR, pcR, pcR, pcR, List.append_nil, wr_append, wr_append, wr_one]
 have e : wr (dgR x.2.1.toNat) = decDigits x.2.1.toNat := wr_asc _ (fun b hb => by have := (dec_spec _).1 b hb; unfold dgt at this; omega)
 rw [e]
 congr 1
 congr 1
 unfold mkI
 split <;> kernel_rfl
theorem join_ns (L : List Int) : ∀ ns : List N3t, Lib.join ((ns.map (ntT L)).map (·.data.toList)) [32] = wr (pcR (nsP L ns))
 | [] => rfl
 | [x] => by rw [List.map_cons, List.map_nil, List.map_cons, List.map_nil, Lib.join_one, ntT_data]; rfl
 | x :: y :: ns => by
  have ih := join_ns L (y :: ns)
  rw [nsP, pcR_app, wr_append, ← ntT_data]
  have e : pcR (blP :: nsP L (y :: ns)) = [32] ++ pcR (nsP L (y :: ns)) := rfl
  rw [e, wr_append, ← ih]
  have e2 : wr [32] = [32] := by kernel_rfl
  rw [e2]
  rw [List.map_cons, List.map_cons, List.map_cons, List.map_cons, Lib.join_cons, Lib.join_cons, Lib.joinTail, List.map_cons, List.flatten_cons, Lib.joinTail]
  simp
theorem jn_ns (L : List Int) (ns : List N3t) : jnB (ns.map (ntT L)) = txt (pcR (nsP L ns)) := by
 unfold jnB txt
 rw [join_ns]
def nwT (L : List Int) (ns : List N3t) : ByteArray := txt (pcR (newsP L ns))
theorem nwT_eq (L : List Int) (ns : List N3t) : (⟨#[91]⟩ : ByteArray) ++ jnB (ns.map (ntT L)) ++ ⟨#[93]⟩ = nwT L ns := by
 apply ByteArray.ext
 apply Array.toList_inj.1
 unfold nwT newsP
 rw [jn_ns, ByteArray.data_append, ByteArray.data_append, Array.toList_append, Array.toList_append, txt_data, txt_data]
 have e : pcR (mkP 91 :: (nsP L ns ++ [mkP 93])) = [91] ++ (pcR (nsP L ns) ++ [93]) := by
  show [91] ++ pcR (nsP L ns ++ [mkP 93]) = _
  rw [pcR_app]
  rfl
 rw [e, wr_append, wr_append]
 have e1 : wr [91] = [91] := by kernel_rfl
 have e2 : wr [93] = [93] := by kernel_rfl
 rw [e1, e2]
 simp
theorem infoSt : (Tryz.prog.info? 9).map (fun i => (i.zero, i.size, i.bytes)) = some (some (.string ⟨#[]⟩), 1, 16) := by kernel_rfl
theorem mk_strs (n : Nat) (hn : n ≤ 100000) (W : World) : (Instr.makeSlice 58 (.int .i64 (n : Int)) (.int .i64 (n : Int))).run Tryz.prog W = .ok (.slice (some ⟨W.heap.size, 0, none⟩) n n) (W.alloc (.cells (List.replicate n (.string ⟨#[]⟩)).toArray 9)) := by
 have hi := infoSt
 cases hx : Tryz.prog.info? 9 with
 | none => rw [hx] at hi; cases hi
 | some ic =>
  rw [hx] at hi
  simp only [Option.map_some, Option.some.injEq, Prod.mk.injEq] at hi
  obtain ⟨hz0, hz1, hz2⟩ := hi
  have h := run_make (P := Tryz.prog) W 58 9 ic _ Tryz.underlying58 hx hz0 .i64 .i64 (n : Int) (n : Int) (by omega) (Int.le_refl _) (by rw [hz2]; omega) (by omega)
  rw [h, hz1]
  have e : madeCells (Value.string ⟨#[]⟩).cells (((n : Int).toNat) * 1) = (List.replicate n (.string ⟨#[]⟩)).toArray := by
   apply Array.toList_inj.1
   have := toList_madeCells_one (.string ⟨#[]⟩) n
   simpa [Value.cells] using this
  rw [e, Int.toNat_natCast]
def rC (L : List Int) (ns : List N3t) (k : Nat) : List Value := (ns.take k).map (fun x => .string (ntT L x)) ++ List.replicate (ns.length - k) (.string ⟨#[]⟩)
theorem rC_len (L : List Int) (ns : List N3t) (k : Nat) (h : k ≤ ns.length) : (rC L ns k).length = ns.length := by
 unfold rC
 rw [List.length_append, List.length_map, List.length_take, List.length_replicate]
 omega
theorem rC_set (L : List Int) (ns : List N3t) (k : Nat) (x : N3t) (h : ns[k]? = some x) : (rC L ns k).set k (.string (ntT L x)) = rC L ns (k + 1) := by
 have hk := (List.getElem?_eq_some_iff.1 h).1
 unfold rC
 rw [List.set_append_right _ _ (by rw [List.length_map, List.length_take]; omega), List.length_map, List.length_take, show k - min k ns.length = 0 by omega, List.take_add_one, h, List.map_append, List.append_assoc]
 congr 1
 obtain ⟨m, hm⟩ : ∃ m, ns.length - k = m + 1 := ⟨ns.length - k - 1, by omega⟩
 rw [hm, show ns.length - (k + 1) = m by omega, List.replicate_succ, List.set_cons_zero]
 rfl
theorem rC_all (L : List Int) (ns : List N3t) : rC L ns ns.length = ns.map (fun x => .string (ntT L x)) := by
 unfold rC
 rw [List.take_length, Nat.sub_self]
 simp
theorem set_arr (l : List Value) (k : Nat) (v : Value) : l.toArray.setIfInBounds k v = (l.set k v).toArray := by simp
theorem nw_short {L : List Int} {ns : List N3t} (hv : ∀ x ∈ ns, vN L x) (hn : ns.length ≤ 1000) : (jnB (ns.map (ntT L))).size ≤ 100000 := by
 rw [jn_ns, txt_sz]
 have := wr_ns ns [] hv
 rw [List.append_nil] at this
 have e : (wr (pcR [])).length = 0 := rfl
 omega
theorem newsText_any {M : Nat} {sl mp : Value} {L : List Int} {w : World} (hR : Ros M w (.agg #[sl, mp]) L) (hM : M ≤ w.heap.size) (hP : Pow w) (ad : Option Addr) (cap : Nat) (ns : List N3t) (hr : RdN w ad ns) (hv : ∀ x ∈ ns, vN L x) (hn : ns.length ≤ 1000) : Calls Tryz.prog 156 #[.agg #[sl, mp], .slice ad ns.length cap] w fun e w' => e = .returned (.string (nwT L ns)) ∧ Below w.heap.size w w' := by
 obtain ⟨n, hN⟩ : ∃ n, ns.length = n := ⟨_, rfl⟩
 have HN : Hid (ns.length = n) := hN
 have hmk := mk_strs n (by omega)
 have hshort := nw_short hv hn
 have HTX := nwT_eq L ns
 rw [hN] at hn ⊢
 obtain ⟨W1, hW1⟩ : ∃ W1, w.alloc (.cells #[sl, mp] 25) = W1 := ⟨_, rfl⟩
 have hb1 : Below w.heap.size w W1 := by rw [← hW1]; exact al1t _ _
 have r1 : W1.heap[w.heap.size]? = some (.cells #[sl, mp] 25 (0, 0)) := by rw [← hW1]; exact zna rfl
 obtain ⟨W2, hW2⟩ : ∃ W2, W1.alloc (.cells (List.replicate n (.string ⟨#[]⟩)).toArray 9) = W2 := ⟨_, rfl⟩
 have hb2 : Below W1.heap.size W1 W2 := by rw [← hW2]; exact al1t _ _
 have r2 : W2.heap[W1.heap.size]? = some (.cells (List.replicate n (.string ⟨#[]⟩)).toArray 9 (0, 0)) := by rw [← hW2]; exact zna rfl
 have HR2 : Hid (W2.heap[W1.heap.size]? = some (.cells (rC L ns 0).toArray 9 (0, 0))) := by
  show W2.heap[W1.heap.size]? = _
  rw [r2]
  unfold rC
  rw [HN.out]
  simp
 have hmk1 := hmk W1
 rw [hW2] at hmk1
 have hb02 := bel3 hb1 hb2
 have r12 := (hb2.block _ (zla r1)).trans r1
 have HPR : Hid (∀ (k : Nat) (o t q : Int), ns[k]? = some (o, t, q) → ∀ V, Below w.heap.size w V → Calls Tryz.prog 187 #[.agg #[sl, mp], .agg #[.int .i64 o, .int .i64 t, .int .i64 q]] V fun e w' => e = .returned (.tuple #[.string (ntT L (o, t, q)), .int .i64 0]) ∧ Below V.heap.size V w') := fun k o t q hk V hV => by
  have h1 := hv _ (List.mem_of_getElem? hk)
  have := nprint_any V (hR.below (hV.mono hM)) (Nat.le_trans hM hV.size) o t q (hP.carry hV)
  unfold prV at this
  unfold vN at h1
  rw [if_pos h1] at this
  exact this
 have HRD : Hid (RdN w ad ns) := hr
 have hs1 := hb1.size
 have hl1 := zla r1
 have hl2 := zla r2
 clear hR hP hr hv hN r1 r2 hb1 hb2 hmk
 go_enter Tryz.func156, Tryz.ntmps156
 go_wp2
 go_loopw [13] (fun i wz => ∃ (k : Nat), i = .int .i64 (k : Int) ∧ k ≤ n ∧ wz.heap[w.heap.size]? = some (.cells #[sl, mp] 25 (0, 0)) ∧ wz.heap[W1.heap.size]? = some (.cells (rC L ns k).toArray 9 (0, 0)) ∧ Below w.heap.size w wz) (fun i _ => n - vnatR i)
 case atStart => exact ⟨0, rfl, Nat.zero_le _, r12, HR2.out, hb02⟩
 case round =>
  obtain ⟨k, rfl, hk, hro, hrow, hbw⟩ := hrel
  have hsw := hbw.size
  have hgl := zla hrow
  have c0 : wr.cell? ⟨w.heap.size, 0, none⟩ = some sl := (zca hro 0).trans rfl
  have c1 : wr.cell? ⟨w.heap.size, 1, none⟩ = some mp := (zca hro 1).trans rfl
  by_cases hkl : k < n
  · have hki : (k : Int) < (n : Int) := by omega
    obtain ⟨⟨o, t, q⟩, hoq⟩ : ∃ x, ns[k]? = some x := ⟨_, List.getElem?_eq_getElem (by rw [HN.out]; exact hkl)⟩
    obtain ⟨b, off, rfl, hbl, hat⟩ := HRD.out (fun e => by rw [e] at hoq; simp at hoq)
    obtain ⟨x0, x1, x2⟩ := hat k _ hoq
    have y0 := (hbw.cell (p := ⟨b, off + k * 3, none⟩) hbl).trans x0
    have y1 := (hbw.cell (p := ⟨b, off + k * 3 + 1, none⟩) hbl).trans x1
    have y2 := (hbw.cell (p := ⟨b, off + k * 3 + 2, none⟩) hbl).trans x2
    have HPV := HPR.out k o t q hoq
    have HST : Hid ((rC L ns k).set k (.string (ntT L (o, t, q))) = rC L ns (k + 1)) := rC_set L ns k _ hoq
    have hlen := rC_len L ns k (by rw [HN.out]; exact hk)
    rw [HN.out] at hlen
    generalize rC L ns k = C at *
    clear x0 x1 x2 hat hoq HR2 HPR
    dsimp only at y0 y1 y2
    obtain ⟨V1, hV1⟩ : ∃ V1, wr.alloc (.cells #[.int .i64 o, .int .i64 t, .int .i64 q] 124) = V1 := ⟨_, rfl⟩
    have hv1 : Below wr.heap.size wr V1 := by rw [← hV1]; exact al1t _ _
    have hwv := bel3 hbw hv1
    have s1 : V1.heap[wr.heap.size]? = some (.cells #[.int .i64 o, .int .i64 t, .int .i64 q] 124 (0, 0)) := by rw [← hV1]; exact zna rfl
    have d0 : V1.cell? ⟨wr.heap.size, 0, none⟩ = some (.int .i64 o) := (zca s1 0).trans rfl
    have d1 : V1.cell? ⟨wr.heap.size, 1, none⟩ = some (.int .i64 t) := (zca s1 1).trans rfl
    have d2 : V1.cell? ⟨wr.heap.size, 2, none⟩ = some (.int .i64 q) := (zca s1 2).trans rfl
    have e0 : V1.cell? ⟨w.heap.size, 0, none⟩ = some sl := (hv1.cell (p := ⟨w.heap.size, 0, none⟩) (by simp; omega)).trans c0
    have e1 : V1.cell? ⟨w.heap.size, 1, none⟩ = some mp := (hv1.cell (p := ⟨w.heap.size, 1, none⟩) (by simp; omega)).trans c1
    go_wp2_with (go_at_call 187; (with_reducible refine (HPV V1 hwv).mono ?_); rintro e V2 ⟨rfl, hv2⟩; (have hrow2 := (hv2.block _ (by have := hv1.size; omega)).trans ((hv1.block _ hgl).trans hrow)); (have hro2 := (hv2.block _ (by have := hv1.size; omega)).trans ((hv1.block _ (by omega)).trans hro)); (have f1 := zca hrow2 k); (have f2 := zta hrow2 k); rw [List.getElem?_toArray, List.getElem?_eq_getElem (by omega)] at f1)
    go_roundw
    case rel =>
     have hb2' := bel3 hwv hv2
     refine ⟨k + 1, by simp, by omega, (Below.heap_setCell _ _ _ _ (by show w.heap.size ≠ W1.heap.size; omega)).trans hro2, ?_, hb2'.setCell (p := ⟨W1.heap.size, k, none⟩) (by show w.heap.size ≤ W1.heap.size; omega) _⟩
     rw [heap_setCell_same _ _ k _ _ _ hrow2, set_arr, HST.out]
    case measure => simp [vnatR]; omega
  · have hkk : k = n := by omega
    subst hkk
    have hki : ¬ ((k : Int) < (k : Int)) := by omega
    have hX : RdX wr (some ⟨W1.heap.size, 0, none⟩) (ns.map (ntT L)) := fun _ => ⟨W1.heap.size, 0, rfl, hgl, fun j x hj => by
     rw [Nat.zero_add, zca hrow j, ← HN.out, rC_all, List.getElem?_toArray, List.getElem?_map]
     rw [List.getElem?_map] at hj
     cases hy : ns[j]? with
     | none => rw [hy] at hj; cases hj
     | some y => rw [hy] at hj; cases hj; rfl⟩
    have hJN := join_any (some ⟨W1.heap.size, 0, none⟩) k (ns.map (ntT L)) wr hX (by rw [List.length_map, HN.out]; omega) (by rw [List.length_map, HN.out]; omega) (by omega)
    rw [List.length_map, HN.out] at hJN
    have hj1 : (jnB (ns.map (ntT L))).size + 1 ≤ 9223372036854775807 := by omega
    generalize jnB (ns.map (ntT L)) = T at *
    have a1 : (⟨#[91]⟩ : ByteArray).size + T.size ≤ 9223372036854775807 := by have : (⟨#[91]⟩ : ByteArray).size = 1 := rfl; omega
    have a2 : ((⟨#[91]⟩ : ByteArray) ++ T).size + (⟨#[93]⟩ : ByteArray).size ≤ 9223372036854775807 := by
     have e1 : (⟨#[91]⟩ : ByteArray).size = 1 := rfl
     have e2 : (⟨#[93]⟩ : ByteArray).size = 1 := rfl
     rw [ByteArray.size_append]; omega
    clear hX HR2 HPR HRD hrow hro
    go_wp2_with (go_at_call 157; (with_reducible refine hJN.mono ?_); rintro e V2 ⟨rfl, hv2⟩)
    go_ret
    exact ⟨rfl, bel3 hbw hv2⟩
end Go.Proofs.YtmahamdmapbilaaGreatDoor
