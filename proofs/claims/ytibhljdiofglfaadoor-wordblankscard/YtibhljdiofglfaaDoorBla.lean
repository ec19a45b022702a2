/- Words put into another text: plain mathematics. -/
import Derived.Test.YtibhljdiofglfaaDoorRsh
namespace Go.Proofs.YtibhljdiofglfaaDoor
open Go.RowKit Go.Shelf

/-- The n bytes of s from i on lie in t from j on, and a character ends there. -/
structure Loc (s : ByteArray) (i : Nat) (t : ByteArray) (j n : Nat) : Prop where
  hs : i + n ≤ s.size
  ht : j + n ≤ t.size
  fin : j + n = t.size ∨ byt t (j + n) < 128
  same : s.extract i (i + n) = t.extract j (j + n)
theorem Loc.byt {s t : ByteArray} {i j n : Nat} (h : Loc s i t j n) (q : Nat) (hq : q < n) : byt t (j + q) = byt s (i + q) := by
  have h1 := byt_ext s i n q h.hs hq
  have h2 := byt_ext t j n q h.ht hq
  rw [← h1, h.same, h2]
theorem Loc.dec {s t : ByteArray} {i j n : Nat} (h : Loc s i t j n) (q : Nat) (hq : q < n) (hw : q + wd s (i + q) ≤ n) : Utf8.decode t (j + q) = Utf8.decode s (i + q) := by
  have hs := h.hs
  have h1 := dec_line t j n q h.ht hq h.fin
  have h2 := dec_pre s (i + q) (i + n) (by omega) (by omega) hs
  have hsz : (s.extract 0 (i + n)).size = i + n := by simp; omega
  have h3 := dec_line (s.extract 0 (i + n)) i n q (by omega) hq (.inl (by omega))
  have e : (s.extract 0 (i + n)).extract i (i + n) = s.extract i (i + n) := by
    rw [ByteArray.extract_extract, Nat.zero_add, Nat.zero_add, Nat.min_self]
  rw [← h1, ← h2, ← h3, e, h.same]
theorem Loc.chr {s t : ByteArray} {i j n : Nat} (h : Loc s i t j n) (q : Nat) (hq : q < n) (hw : q + wd s (i + q) ≤ n) : rn t (j + q) = rn s (i + q) ∧ wd t (j + q) = wd s (i + q) ∧ looseB t (j + q) = looseB s (i + q) := by
  have hd := h.dec q hq hw
  have h1 : rn t (j + q) = rn s (i + q) := by unfold rn; rw [hd]
  have h2 : wd t (j + q) = wd s (i + q) := by unfold wd; rw [hd]
  exact ⟨h1, h2, by unfold looseB; rw [h1, h2]⟩
/-- What may stand behind a word. -/
def Sep (b : Nat) : Prop := b = 13 ∨ b = 32 ∨ b = 10
theorem sep_cls {b : Nat} (h : Sep b) : b < 128 ∧ ¬ (cls (b : Int) = 3 ∨ cls (b : Int) = 4) := by
  rcases h with rfl | rfl | rfl <;> exact ⟨by omega, by decide⟩
theorem run_loc {s t : ByteArray} {i j n : Nat} (h : Loc s i t j n) (hb : Sep (byt t (j + n))) : ∀ (F F' q : Nat), runD s F (i + q) = i + n → q ≤ n → n ≤ q + F' → runD t F' (j + q) = j + n
  | F, F', q, hr, hq, hf => by
    by_cases e : q = n
    · subst e
      refine runD_end t F' (j + q) ?_
      rintro ⟨h1, h2, h3⟩
      obtain ⟨k1, k2⟩ := sep_cls hb
      have := rn_asc t (j + q) h1 k1
      rw [this.1] at h3
      exact k2 h3
    · by_cases hc : i + q < s.size ∧ looseB s (i + q) = false ∧ (cls (rn s (i + q) : Int) = 3 ∨ cls (rn s (i + q) : Int) = 4)
      · cases F with
        | zero => rw [runD] at hr; omega
        | succ F =>
          rw [runD_on s F (i + q) hc.1 hc.2.1 hc.2.2] at hr
          have hwl := wd_le s (i + q) hc.1
          have hle := (runD_le s F (i + q + wd s (i + q)) hwl).1
          have hwp := wd_pos s (i + q)
          obtain ⟨c1, c2, c3⟩ := h.chr q (by omega) (by omega)
          obtain ⟨f, rfl⟩ : ∃ f, F' = f + 1 := ⟨F' - 1, by omega⟩
          have ht := h.ht
          rw [runD_on t f (j + q) (by omega) (by rw [c3]; exact hc.2.1) (by rw [c1]; exact hc.2.2), c2, Nat.add_assoc]
          exact run_loc h hb F f (q + wd s (i + q)) (by rw [← Nat.add_assoc]; exact hr) (by omega) (by omega)
      · rw [runD_end s F (i + q) hc] at hr
        omega
termination_by F => F
theorem num_loc (b b' : Nat → Nat) : ∀ (r p c : Nat) (x : Nat × Nat), r ≤ 6 → num b r p c = some x → (∀ k, k < x.2 → b' k = b k) → num b' r p c = some x
  | 0, p, c, x, hr, h, hs => by
    unfold num closeN at h ⊢
    by_cases hc : 0 ≠ 6 ∧ b p = 125 ∧ okR c = true
    · rw [if_pos hc] at h
      cases h
      rw [hs p (by dsimp only; omega), if_pos hc]
    · rw [if_neg hc] at h; cases h
  | r + 1, p, c, x, hr, h, hs => by
    have hk := (num_ok b (r + 1) p c x hr h).1
    have hp := hs p (by omega)
    unfold num at h ⊢
    rw [hp]
    by_cases hc : 0 ≤ hexV (b p)
    · rw [if_pos hc] at h ⊢
      exact num_loc b b' r (p + 1) _ x (by omega) h hs
    · rw [if_neg hc] at h ⊢
      unfold closeN at h ⊢
      rw [hp]
      exact h
theorem esc_loc (b b' : Nat → Nat) (l : List UInt8) (n : Nat) (h : esc b = some (l, n)) (hs : ∀ k, k < n → b' k = b k) : esc b' = some (l, n) := by
  have hn := (esc_ok b l n h).1
  have e1 : b' 1 = b 1 := hs 1 (by omega)
  unfold esc at h ⊢
  rw [e1]
  by_cases c1 : b 1 = 34 ∨ b 1 = 92
  · rw [if_pos c1] at h ⊢; exact h
  rw [if_neg c1] at h ⊢
  by_cases c2 : b 1 = 110
  · rw [if_pos c2] at h ⊢; exact h
  rw [if_neg c2] at h ⊢
  by_cases c3 : b 1 = 116
  · rw [if_pos c3] at h ⊢; exact h
  rw [if_neg c3] at h ⊢
  by_cases c4 : b 1 = 114
  · rw [if_pos c4] at h ⊢; exact h
  rw [if_neg c4] at h ⊢
  by_cases c5 : b 1 = 120
  · rw [if_pos c5] at h ⊢
    by_cases d : 0 ≤ hexV (b 2) ∧ 0 ≤ hexV (b 3)
    · rw [if_pos d] at h
      cases h
      rw [hs 2 (by omega), hs 3 (by omega), if_pos d]
    · rw [if_neg d] at h; cases h
  rw [if_neg c5] at h ⊢
  by_cases c6 : b 1 = 117
  · rw [if_pos c6] at h ⊢
    by_cases d : b 2 = 123
    · rw [if_pos d] at h
      cases hx : num b 6 3 0 with
      | none => rw [hx] at h; cases h
      | some x =>
        rw [hx] at h
        have hk := (num_ok b 6 3 0 x (by omega) hx).1
        have e : x.2 = n := by
          rw [Option.map_some] at h
          exact (Prod.mk.inj (Option.some.inj h)).2
        rw [hs 2 (by omega), if_pos d, num_loc b b' 6 3 0 x (by omega) hx (fun k hk => hs k (by omega))]
        exact h
    · rw [if_neg d] at h; cases h
  · rw [if_neg c6] at h; cases h
theorem lead_loc {s t : ByteArray} {i j n : Nat} (h : Loc s i t j n) : ∀ (f f' q : Nat) (acc : List UInt8), (lead s f (i + q) acc).2.2 = 0 → (lead s f (i + q) acc).2.1 = i + n → q ≤ n → n ≤ q + f' → (lead t f' (j + q) acc).2.2 = 0 ∧ (lead t f' (j + q) acc).2.1 = j + n
  | 0, f', q, acc, h1, h2, hq, hf => by rw [lead] at h1; cases h1
  | f + 1, f', q, acc, h1, h2, hq, hf => by
    have hs := h.hs
    have ht := h.ht
    by_cases hp : i + q < s.size
    case neg => rw [lead_end s _ _ acc hp] at h1; cases h1
    have hgt : q < n := by
      by_cases c1 : byt s (i + q) = 34
      · rw [lead_quote s f _ acc hp c1] at h2; dsimp only at h2; omega
      by_cases c2 : byt s (i + q) = 92
      · cases ho : esc (fun k => byt s (i + q + k)) with
        | none => rw [lead_none s f _ acc hp c2 ho] at h1; cases h1
        | some x =>
          obtain ⟨l, m⟩ := x
          have hm := (esc_ok _ l m ho).1
          rw [lead_some s f _ acc l m hp c2 ho] at h1 h2
          have := lead_gt s f _ _ h1
          omega
      by_cases c3 : ctl (rn s (i + q) : Int) = true ∨ looseB s (i + q) = true
      · rw [lead_bad s f _ acc hp c1 c2 c3] at h1; cases h1
      · rw [lead_char s f _ acc hp c1 c2 c3] at h1 h2
        have := lead_gt s f _ _ h1
        have := wd_pos s (i + q)
        omega
    obtain ⟨f', rfl⟩ : ∃ g, f' = g + 1 := ⟨f' - 1, by omega⟩
    have hb := h.byt q hgt
    by_cases c1 : byt s (i + q) = 34
    · rw [lead_quote s f _ acc hp c1] at h2
      rw [lead_quote t f' _ acc (by omega) (by omega)]
      dsimp only at h2 ⊢
      exact ⟨rfl, by omega⟩
    by_cases c2 : byt s (i + q) = 92
    · cases ho : esc (fun k => byt s (i + q + k)) with
      | none => rw [lead_none s f _ acc hp c2 ho] at h1; cases h1
      | some x =>
        obtain ⟨l, m⟩ := x
        have hm := (esc_ok _ l m ho).1
        rw [lead_some s f _ acc l m hp c2 ho] at h1 h2
        have hg := lead_gt s f _ _ h1
        have hqm : q + m ≤ n := by omega
        have ho' := esc_loc _ (fun k => byt t (j + q + k)) l m ho (fun k hk => by
          have := h.byt (q + k) (by omega)
          rw [← Nat.add_assoc, ← Nat.add_assoc] at this
          exact this)
        rw [lead_some t f' _ acc l m (by omega) (by omega) ho', Nat.add_assoc]
        rw [Nat.add_assoc] at h1 h2
        exact lead_loc h f f' (q + m) _ h1 h2 hqm (by omega)
    by_cases c3 : ctl (rn s (i + q) : Int) = true ∨ looseB s (i + q) = true
    · rw [lead_bad s f _ acc hp c1 c2 c3] at h1; cases h1
    · rw [lead_char s f _ acc hp c1 c2 c3] at h1 h2
      have hg := lead_gt s f _ _ h1
      have hwp := wd_pos s (i + q)
      have hqm : q + wd s (i + q) ≤ n := by omega
      obtain ⟨e1, e2, e3⟩ := h.chr q hgt hqm
      rw [lead_char t f' _ acc (by omega) (by omega) (by omega) (by rw [e1, e3]; exact c3), e1, e2, Nat.add_assoc]
      rw [Nat.add_assoc] at h1 h2
      exact lead_loc h f f' (q + wd s (i + q)) _ h1 h2 hqm (by omega)
theorem le_ge (t : ByteArray) (j n E : Nat) (hE : LEnd t (j + 1) E) (h : j + n < t.size) (hno : ∀ k, k < n → byt t (j + k) ≠ 10) : j + n ≤ E := by
  obtain ⟨a, b, c, d⟩ := hE
  by_cases e : j + n ≤ E
  · exact e
  · exfalso
    rcases d with d | d
    · omega
    · obtain ⟨k, hk⟩ : ∃ k, E = j + k := ⟨E - j, by omega⟩
      rw [hk] at d
      exact hno k (by omega) d
/-- The word that stands at i, put elsewhere ahead of a blank. -/
theorem nx_loc (s : ByteArray) (i E : Nat) (hi : i < s.size) (hE : LEnd s (i + 1) E) (h0 : (nxD s i E).2.2 = 0) (n : Nat) (hn : (nxD s i E).2.1 = i + n) (t : ByteArray) (j E' : Nat) (h : Loc s i t j n) (hb : Sep (byt t (j + n))) (hE' : LEnd t (j + 1) E') (htn : j + n < t.size) : nxD t j E' = ((nxD s i E).1, j + n, 0) := by
  have hbd := nx_bounds s i E hi hE h0
  have hn0 : 0 < n := by omega
  have ht := h.ht
  have hb0 := h.byt 0 hn0
  rw [Nat.add_zero, Nat.add_zero] at hb0
  have hsz := hE'.2.1
  unfold nxD at h0 hn ⊢
  by_cases c1 : looseB s i = true ∨ cls (rn s i : Int) = 6
  · rw [if_pos c1] at h0; cases h0
  rw [if_neg c1] at h0 hn ⊢
  have hlo : looseB s i = false := by
    cases e : looseB s i with
    | false => rfl
    | true => exact absurd (.inl e) c1
  have key : wd s i ≤ n → (looseB t j = looseB s i ∧ rn t j = rn s i ∧ wd t j = wd s i) := fun hw => by
    have := h.chr 0 hn0 (by rw [Nat.add_zero]; omega)
    rw [Nat.add_zero, Nat.add_zero] at this
    exact ⟨this.2.2, this.1, this.2.1⟩
  by_cases c2 : cls (rn s i : Int) = 4
  · rw [if_pos c2] at h0 hn ⊢
    by_cases c : 128 < (starts (s.extract i (runD s s.size i))).length
    · rw [if_pos c] at h0; cases h0
    rw [if_neg c] at hn ⊢
    dsimp only at hn ⊢
    have hw : wd s i ≤ n := by
      obtain ⟨z, hz⟩ : ∃ z, s.size = z + 1 := ⟨s.size - 1, by omega⟩
      rw [hz, runD_on s z i hi hlo (.inr c2)] at hn
      have := (runD_le s z (i + wd s i) (wd_le s i hi)).1
      omega
    obtain ⟨k1, k2, k3⟩ := key hw
    have hr := run_loc h hb s.size t.size 0 (by rw [Nat.add_zero]; exact hn) (Nat.zero_le _) (by omega)
    rw [Nat.add_zero] at hr
    rw [hn, h.same] at c
    rw [if_neg (by rw [k1, k2]; exact c1), if_pos (by rw [k2]; exact c2), hr, if_neg c]
  rw [if_neg c2] at h0 hn ⊢
  by_cases c3 : cls (rn s i : Int) = 3
  · rw [if_pos c3] at h0 hn ⊢
    cases hm : numR (s.extract i (runD s s.size i)) with
    | none => rw [hm] at h0; cases h0
    | some v =>
      rw [hm] at hn
      dsimp only at hn ⊢
      have hw : wd s i ≤ n := by
        obtain ⟨z, hz⟩ : ∃ z, s.size = z + 1 := ⟨s.size - 1, by omega⟩
        rw [hz, runD_on s z i hi hlo (.inl c3)] at hn
        have := (runD_le s z (i + wd s i) (wd_le s i hi)).1
        omega
      obtain ⟨k1, k2, k3⟩ := key hw
      have hr := run_loc h hb s.size t.size 0 (by rw [Nat.add_zero]; exact hn) (Nat.zero_le _) (by omega)
      rw [Nat.add_zero] at hr
      rw [hn, h.same] at hm
      rw [if_neg (by rw [k1, k2]; exact c1), if_neg (by rw [k2]; exact c2), if_pos (by rw [k2]; exact c3), hr, hm]
  rw [if_neg c3] at h0 hn ⊢
  by_cases c4 : byt s i = 34
  · rw [if_pos c4] at h0 hn ⊢
    dsimp only at h0 hn ⊢
    have hw1 := (rn_asc s i hi (by omega)).2
    obtain ⟨k1, k2, k3⟩ := key (by omega)
    have hEs := hE.2.1
    have hsE : (s.extract 0 E).size = E := by simp; omega
    have htE : (t.extract 0 E').size = E' := by simp; omega
    have hle := lead_le (s.extract 0 E) E (i + 1) [] (by have := hE.1; omega)
    rw [hn, hsE] at hle
    have hlt : j + n ≤ E' := le_ge t j n E' hE' htn (fun k hk => by
      rw [h.byt k hk]
      by_cases e : k = 0
      · rw [e, Nat.add_zero]; omega
      · exact hE.2.2.1 (i + k) (by omega) (by omega))
    have hL : Loc (s.extract 0 E) i (t.extract 0 E') j n := ⟨by omega, by omega, (by
      by_cases e : j + n = E'
      · exact .inl (by omega)
      · have := byt_ext t 0 E' (j + n) (by omega) (by omega)
        rw [Nat.zero_add, Nat.zero_add] at this
        rw [this]
        exact .inr (sep_cls hb).1), by
      rw [ByteArray.extract_extract, ByteArray.extract_extract, Nat.zero_add, Nat.zero_add, Nat.zero_add, Nat.zero_add, Nat.min_eq_left hle, Nat.min_eq_left (by omega)]
      exact h.same⟩
    obtain ⟨l1, l2⟩ := lead_loc hL E E' 1 [] h0 hn (by omega) (by omega)
    rw [if_neg (by rw [k1, k2]; exact c1), if_neg (by rw [k2]; exact c2), if_neg (by rw [k2]; exact c3), if_pos (by omega), l1, l2]
  · rw [if_neg c4] at h0 hn ⊢
    dsimp only at hn ⊢
    obtain ⟨k1, k2, k3⟩ := key (by omega)
    rw [if_neg (by rw [k1, k2]; exact c1), if_neg (by rw [k2]; exact c2), if_neg (by rw [k2]; exact c3), if_neg (by omega), k3, show wd s i = n by omega]
end Go.Proofs.YtibhljdiofglfaaDoor
