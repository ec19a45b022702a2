/- What is read is told as the same text, and what is told is read as it was: arithmetic on texts, no program. -/
import Derived.Test.YtebpngapkkdifaaDoorNrm
import Derived.Test.YtebpngapkkdifaaDoorNpp
namespace Go.Proofs.YtebpngapkkdifaaDoor
open Go.RowKit Go.Shelf Go.Lib

def dgt (b : UInt8) : Prop := 48 ≤ b.toNat ∧ b.toNat ≤ 57
def valL (r : List UInt8) (v : Nat) : Nat := r.foldl (fun a b => a * 10 + (b.toNat - 48)) v
theorem valL_ge : ∀ (r : List UInt8) (v : Nat), v ≤ valL r v
  | [], v => Nat.le_refl v
  | b :: r, v => by have := valL_ge r (v * 10 + (b.toNat - 48)); simp only [valL, List.foldl_cons] at this ⊢; omega
theorem valL_snoc (r : List UInt8) (b : UInt8) (v : Nat) : valL (r ++ [b]) v = valL r v * 10 + (b.toNat - 48) := by simp [valL]
theorem byt_drop (s : ByteArray) (p : Nat) (h : p < s.size) : ∃ b r, s.data.toList.drop p = b :: r ∧ b.toNat = byt s p ∧ r = s.data.toList.drop (p + 1) := by
  have hl : p < s.data.toList.length := by simpa using h
  refine ⟨s.data.toList[p], s.data.toList.drop (p + 1), List.drop_eq_getElem_cons hl, ?_, rfl⟩
  rw [byt_get h]
  simp [ByteArray.getElem_eq_getElem_data]
theorem numAt_some (s : ByteArray) : ∀ (f p v u : Nat), s.size ≤ p + f → numAt s f p v = some u → (∀ b ∈ s.data.toList.drop p, dgt b) ∧ valL (s.data.toList.drop p) v = u
  | 0, p, v, u, hf, h => by
    have : s.data.toList.drop p = [] := List.drop_eq_nil_of_le (by have : s.data.toList.length = s.size := by simp
                                                                   omega)
    rw [this]
    exact ⟨(fun b hb => by cases hb), Option.some.inj h⟩
  | f + 1, p, v, u, hf, h => by
    by_cases hp : p < s.size
    · obtain ⟨b, r, e, hb, hr⟩ := byt_drop s p hp
      by_cases hd : 48 ≤ byt s p ∧ byt s p ≤ 57
      · by_cases hg : 1099511627776 < v * 10 + (byt s p - 48)
        · rw [numAt_great s f p v hp hd hg] at h
          cases h
        · rw [numAt_on s f p v hp hd hg] at h
          obtain ⟨h1, h2⟩ := numAt_some s f (p + 1) _ u (by omega) h
          rw [e, hr]
          refine ⟨fun x hx => ?_, ?_⟩
          · rcases List.mem_cons.1 hx with rfl | hx
            · unfold dgt
              rw [hb]
              exact hd
            · exact h1 x hx
          · rw [← h2]
            simp only [valL, List.foldl_cons, hb]
      · rw [numAt_no s f p v hp hd] at h
        cases h
    · rw [numAt_end s _ p v hp] at h
      have : s.data.toList.drop p = [] := List.drop_eq_nil_of_le (by have : s.data.toList.length = s.size := by simp
                                                                     omega)
      rw [this]
      exact ⟨(fun b hb => by cases hb), Option.some.inj h⟩
theorem dig_val : ∀ (n : Nat) (L : List UInt8), L.length = n → L ≠ [] → (∀ b ∈ L, dgt b) → (∀ b r, L = b :: r → r ≠ [] → b.toNat ≠ 48) → decDigits (valL L 0) = L ∧ (2 ≤ L.length → 1 ≤ valL L 0)
  | 0, L, hl, hn, _, _ => absurd (List.length_eq_zero_iff.1 hl) hn
  | n + 1, L, hl, hn, hd, hz => by
    have hsp : L = L.dropLast ++ [L.getLast hn] := (List.dropLast_concat_getLast hn).symm
    generalize L.dropLast = A at hsp
    generalize L.getLast hn = d at hsp
    subst hsp
    have hdd : dgt d := hd d (by simp)
    unfold dgt at hdd
    have ed : UInt8.ofNat (48 + (d.toNat - 48)) = d := by
      rw [show 48 + (d.toNat - 48) = d.toNat by omega]
      exact UInt8.ofNat_toNat
    rw [valL_snoc]
    by_cases hA : A = []
    · subst hA
      have hv : valL [] 0 = 0 := rfl
      rw [hv, Nat.zero_mul, Nat.zero_add]
      refine ⟨?_, fun h => by simp at h⟩
      rw [decDigits_one (by omega), ed]
      rfl
    · have hAl : A.length = n := by simpa using hl
      have hz' : ∀ b r, A = b :: r → b.toNat ≠ 48 := fun b r e => hz b (r ++ [d]) (by rw [e]; rfl) (by simp)
      obtain ⟨i1, i2⟩ := dig_val n A hAl hA (fun b hb => hd b (by simp [hb])) (fun b r e _ => hz' b r e)
      have hpos : 1 ≤ valL A 0 := by
        cases A with
        | nil => exact absurd rfl hA
        | cons b r =>
          have h1 := hz' b r rfl
          have h2 : dgt b := hd b (by simp)
          unfold dgt at h2
          have h3 := valL_ge r (0 * 10 + (b.toNat - 48))
          have h4 : valL (b :: r) 0 = valL r (0 * 10 + (b.toNat - 48)) := rfl
          omega
      refine ⟨?_, fun _ => by omega⟩
      rw [decDigits, dif_neg (by omega)]
      rw [show (valL A 0 * 10 + (d.toNat - 48)) / 10 = valL A 0 by omega, show (valL A 0 * 10 + (d.toNat - 48)) % 10 = d.toNat - 48 by omega, i1, ed]
theorem num_canon {D : ByteArray} {v : Nat} (h : numR D = some v) : D.data.toList = decDigits v := by
  unfold numR at h
  by_cases hc : D.size = 0 ∨ (byt D 0 = 48 ∧ 1 < D.size)
  · rw [if_pos hc] at h
    cases h
  rw [if_neg hc] at h
  obtain ⟨h1, h2⟩ := numAt_some D D.size 0 0 v (by omega) h
  rw [List.drop_zero] at h1 h2
  have hlen : D.data.toList.length = D.size := by simp
  obtain ⟨e, _⟩ := dig_val _ D.data.toList rfl (fun e => by rw [e] at hlen; simp at hlen; omega) h1 (fun b r e hr => by
    intro hb
    apply hc
    right
    obtain ⟨b', r', e', hb', _⟩ := byt_drop D 0 (by omega)
    rw [List.drop_zero, e] at e'
    obtain ⟨rfl, rfl⟩ := List.cons.inj e'
    refine ⟨by omega, ?_⟩
    rw [← hlen, e]
    have := List.length_pos_iff.2 hr
    simp
    omega)
  rw [h2] at e
  exact e.symm
theorem byt_at (pre : List UInt8) (b : UInt8) (r : List UInt8) : byt ⟨(pre ++ b :: r).toArray⟩ pre.length = b.toNat := by
  have h : pre.length < (⟨(pre ++ b :: r).toArray⟩ : ByteArray).size := by show pre.length < (pre ++ b :: r).toArray.size; simp
  have e : (⟨(pre ++ b :: r).toArray⟩ : ByteArray)[pre.length]'h = b := by
    show (pre ++ b :: r).toArray[pre.length]'_ = b
    simp
  rw [byt, dif_pos h, e]
theorem numAt_good : ∀ (r pre : List UInt8) (v : Nat), (∀ b ∈ r, dgt b) → valL r v ≤ 1099511627776 → numAt ⟨(pre ++ r).toArray⟩ r.length pre.length v = some (valL r v)
  | [], pre, v, _, _ => rfl
  | b :: r, pre, v, hd, hv => by
    have h1 := hd b (List.mem_cons_self ..)
    have hlt : pre.length < (⟨(pre ++ b :: r).toArray⟩ : ByteArray).size := by show pre.length < (pre ++ b :: r).toArray.size; simp
    have hb := byt_at pre b r
    have hg : ¬ 1099511627776 < v * 10 + (b.toNat - 48) := by have := valL_ge r (v * 10 + (b.toNat - 48)); simp only [valL, List.foldl_cons] at this hv; omega
    have ih := numAt_good r (pre ++ [b]) (v * 10 + (b.toNat - 48)) (fun c hc => hd c (List.mem_cons_of_mem _ hc)) hv
    rw [List.length_cons, numAt_on _ _ _ _ hlt (by rw [hb]; exact h1) (by rw [hb]; exact hg), hb]
    have hvc : valL (b :: r) v = valL r (v * 10 + (b.toNat - 48)) := rfl
    rw [hvc]
    simpa using ih
theorem dec_spec (v : Nat) : (∀ b ∈ decDigits v, dgt b) ∧ valL (decDigits v) 0 = v ∧ (∃ b r, decDigits v = b :: r ∧ (r ≠ [] → b.toNat ≠ 48) ∧ (1 ≤ v → b.toNat ≠ 48)) := by
  induction v using Nat.strongRecOn with
  | ind v ih =>
    have hd : (UInt8.ofNat (48 + v % 10)).toNat = 48 + v % 10 := ofNat8 _ (by omega)
    by_cases h : v < 10
    · rw [decDigits_one h]
      have hd2 : (UInt8.ofNat (48 + v)).toNat = 48 + v := ofNat8 _ (by omega)
      refine ⟨fun b hb => ?_, ?_, _, [], rfl, fun h => absurd rfl h, fun h1 => by omega⟩
      · rw [List.mem_singleton.1 hb]; unfold dgt; omega
      · simp only [valL, List.foldl_cons, List.foldl_nil, hd2]; omega
    · obtain ⟨i1, i2, b, r, e, _, i4⟩ := ih (v / 10) (by omega)
      rw [decDigits, dif_neg h]
      refine ⟨fun x hx => ?_, ?_, b, r ++ [UInt8.ofNat (48 + v % 10)], by rw [e]; rfl, fun _ => i4 (by omega), fun _ => i4 (by omega)⟩
      · rcases List.mem_append.1 hx with hx | hx
        · exact i1 x hx
        · rw [List.mem_singleton.1 hx]; unfold dgt; omega
      · rw [valL_snoc, i2, hd]; omega
theorem num_digits (v : Nat) (hv : v ≤ 1048576) : numR ⟨(decDigits v).toArray⟩ = some v := by
  obtain ⟨h1, h2, b, r, e, h3, _⟩ := dec_spec v
  have hsz : (⟨(decDigits v).toArray⟩ : ByteArray).size = (decDigits v).length := by show (decDigits v).toArray.size = _; simp
  have hb0 : byt ⟨(decDigits v).toArray⟩ 0 = b.toNat := by rw [e]; exact byt_at [] b r
  unfold numR
  rw [if_neg, hsz]
  · have := numAt_good (decDigits v) [] 0 h1 (by rw [h2]; omega)
    rw [h2] at this
    exact this
  · rw [hsz, hb0]
    rintro (c | ⟨c, d⟩)
    · rw [e] at c; simp at c
    · refine h3 (fun hr => ?_) c
      rw [e, hr] at d
      simp at d
theorem mkS_data (k : Int) : (mkS k).data.toList = [if k = 2 then 63 else 33] := by
  unfold mkS
  by_cases h : k = 2
  · rw [if_pos h, if_pos h]
  · rw [if_neg h, if_neg h]
theorem prT_data (c t k : Int) : (prT c t k).data.toList = (Utf8.encode c).data.toList ++ ([if k = 2 then 63 else 33] ++ decDigits t.toNat) := by
  unfold prT
  simp only [ByteArray.data_append, Array.toList_append, mkS_data, List.append_assoc]
theorem ba_ext {a b : ByteArray} (h : a.data.toList = b.data.toList) : a = b := ByteArray.ext (Array.ext' h)
theorem err_ne {a b c : Int} {e : Int} (h : ((0, 0, 0, e) : Int × Int × Int × Int) = (a, b, c, 0)) (he : e ≠ 0) : False := by
  simp only [Prod.mk.injEq] at h
  exact he h.2.2.2
set_option maxHeartbeats 1000000 in
/-- What is read is told as the same text. -/
theorem rd_back {l : List Int} (hS : Signs l) {s : ByteArray} {a b c : Int} (h : rdD l s = (a, b, c, 0)) : vl l.length a b c = true ∧ prT (l.getD a.toNat 0) b c = s := by
  unfold rdD at h
  by_cases hg : 65536 < s.size
  · rw [if_pos hg] at h
    exact (err_ne h (by decide)).elim
  rw [if_neg hg] at h
  by_cases hc : s.size = 0 ∨ looseB s 0 = true ∨ ¬ (rn s 0 : Int) ∈ l ∨ s.size ≤ wdt s 0 + 1 ∨ (byt s (wdt s 0) ≠ 63 ∧ byt s (wdt s 0) ≠ 33)
  · rw [if_pos hc] at h
    exact (err_ne h (by decide)).elim
  rw [if_neg hc] at h
  have hz : s.size ≠ 0 := fun e => hc (.inl e)
  have hlo : looseB s 0 = false := by
    cases e : looseB s 0 with
    | false => rfl
    | true => exact absurd (.inr (.inl e)) hc
  have hm : (rn s 0 : Int) ∈ l := Classical.byContradiction fun e => hc (.inr (.inr (.inl e)))
  have hn : ¬ s.size ≤ wdt s 0 + 1 := fun e => hc (.inr (.inr (.inr (.inl e))))
  have hb : byt s (wdt s 0) = 63 ∨ byt s (wdt s 0) = 33 := by
    by_cases e : byt s (wdt s 0) = 63
    · exact .inl e
    · by_cases e2 : byt s (wdt s 0) = 33
      · exact .inr e2
      · exact absurd (.inr (.inr (.inr (.inr ⟨e, e2⟩)))) hc
  have hch := char_bytes s 0 (by omega) hlo
  rw [List.drop_zero] at hch
  cases hv : numR (s.extract (wdt s 0 + 1) s.size) with
  | none =>
    rw [hv] at h
    exact (err_ne h (by decide)).elim
  | some v =>
    rw [hv] at h
    dsimp only at h
    by_cases hx : 1048576 < v
    · rw [if_pos hx] at h
      exact (err_ne h (by decide)).elim
    rw [if_neg hx] at h
    simp only [Prod.mk.injEq, and_true] at h
    obtain ⟨rfl, rfl, rfl⟩ := h
    have hix : l.idxOf (rn s 0 : Int) < l.length := List.idxOf_lt_length_of_mem hm
    have hget : l.getD (l.idxOf (rn s 0 : Int)) 0 = (rn s 0 : Int) := by
      rw [List.getD_eq_getElem?_getD, List.getElem?_eq_getElem hix]
      exact List.getElem_idxOf hix
    have hsh := hS.short
    refine ⟨decide_eq_true ⟨by omega, by omega, by omega, by omega, ?_⟩, ?_⟩
    · rw [rk_ok]
      refine ⟨by omega, by omega, ?_⟩
      rcases hb with e | e
      · rw [if_pos e]; exact .inr rfl
      · rw [if_neg (by omega)]; exact .inl rfl
    · rw [Int.toNat_natCast, hget]
      apply ba_ext
      rw [prT_data, hch, Int.toNat_natCast, ← num_canon hv]
      obtain ⟨x, r, e1, e2, e3⟩ := byt_drop s (wdt s 0) (by omega)
      have hex : (s.extract (wdt s 0 + 1) s.size).data.toList = s.data.toList.drop (wdt s 0 + 1) := by
        rw [ByteArray.data_extract, Array.toList_extract, List.extract_eq_take_drop]
        apply List.take_of_length_le
        have : s.data.toList.length = s.size := by simp
        rw [List.length_drop]
        omega
      have hx0 : (if (if byt s (wdt s 0) = 63 then (2 : Int) else 1) = 2 then (63 : UInt8) else 33) = x := by
        rcases hb with e | e
        · rw [if_pos (if_pos e)]
          exact UInt8.toNat_inj.1 (by rw [e2, e]; rfl)
        · rw [if_neg (by rw [if_neg (by omega)]; decide)]
          exact UInt8.toNat_inj.1 (by rw [e2, e]; rfl)
      rw [hx0, hex, ← e3, List.singleton_append, ← e1]
      exact List.take_append_drop _ _
set_option maxHeartbeats 1000000 in
/-- What is told is read as it was. -/
theorem rd_print {l : List Int} (hS : Signs l) {o t k : Int} (h : vl l.length o t k = true) : rdD l (prT (l.getD o.toNat 0) t k) = (o, t, k, 0) ∧ (prT (l.getD o.toNat 0) t k).size ≤ 25 := by
  obtain ⟨v1, v2, v3, v4, v5⟩ := of_decide_eq_true h
  obtain ⟨t1, t2, tk⟩ := rk_ok.1 v5
  obtain ⟨n, rfl⟩ := Int.eq_ofNat_of_zero_le v3
  obtain ⟨x, rfl⟩ := Int.eq_ofNat_of_zero_le t1
  have hn : n < l.length := by omega
  have hget : l.getD n 0 = l[n] := by rw [List.getD_eq_getElem?_getD, List.getElem?_eq_getElem hn]; rfl
  have hmem : l[n] ∈ l := List.getElem_mem hn
  have hcode := code_letter (hS.letter _ hmem)
  rw [Int.toNat_natCast, hget]
  have hdat := prT_data l[n] (x : Int) k
  rw [Int.toNat_natCast] at hdat
  have hel := enc_len l[n]
  have hcl := clen_pos (code l[n])
  have hdl : (decDigits x).length ≤ 20 := by rw [decDigits_length]; exact nDigits_le20 x (by omega)
  have hdp : 1 ≤ (decDigits x).length := by rw [decDigits_length]; exact nDigits_pos x
  have hix : l.idxOf l[n] = n := hS.nodup.idxOf_getElem n hn
  generalize prT l[n] (x : Int) k = s at *
  have hlen : s.data.toList.length = s.size := by simp
  have hdec := dec_enc s [] _ l[n] (by rw [List.nil_append]; exact hdat)
  rw [List.length_nil] at hdec
  have hr : rn s 0 = code l[n] := by unfold rn; rw [hdec]
  have hw : wdt s 0 = clen (code l[n]) := by unfold wdt; rw [hdec]
  have hsz : s.size = clen (code l[n]) + (1 + (decDigits x).length) := by rw [← hlen, hdat]; simp [hel]; omega
  have hlo : looseB s 0 = false := loose_no_letter (by rw [hr, hcode]; exact hS.letter _ hmem)
  have hby : byt s (wdt s 0) = if k = 2 then 63 else 33 := by
    obtain ⟨b, r, e1, e2, _⟩ := byt_drop s (wdt s 0) (by omega)
    rw [hdat, hw, ← hel, List.drop_left] at e1
    obtain ⟨rfl, _⟩ := List.cons.inj e1
    rw [← e2]
    split <;> rfl
  have hex : s.extract (wdt s 0 + 1) s.size = ⟨(decDigits x).toArray⟩ := by
    apply ba_ext
    have hex : (s.extract (wdt s 0 + 1) s.size).data.toList = s.data.toList.drop (wdt s 0 + 1) := by
      rw [ByteArray.data_extract, Array.toList_extract, List.extract_eq_take_drop]
      apply List.take_of_length_le
      rw [List.length_drop]
      omega
    rw [hex, hdat, hw, ← hel, ← List.drop_drop, List.drop_left]
    rfl
  refine ⟨?_, by omega⟩
  unfold rdD
  rw [if_neg (by omega), if_neg, hex, num_digits x (by omega)]
  · dsimp only
    rw [if_neg (by omega), hr, hcode, hix, hby]
    rcases tk with rfl | rfl
    · rfl
    · rfl
  · rintro (e | e | e | e | ⟨e1, e2⟩)
    · omega
    · rw [hlo] at e; cases e
    · rw [hr, hcode] at e; exact e hmem
    · omega
    · rw [hby] at e1 e2
      split at e1
      · exact e1 rfl
      · rename_i hk
        rw [if_neg hk] at e2
        exact e2 rfl
end Go.Proofs.YtebpngapkkdifaaDoor
