/- The digits of a number, and the number that they are: arithmetic on lists of bytes. -/
import Derived.Test.YtibhljdiofglfaaDoorNum
namespace Go.Proofs.YtibhljdiofglfaaDoor
open Go.RowKit Go.Shelf

theorem byt_at (pre : List UInt8) (b : UInt8) (r : List UInt8) : byt ⟨(pre ++ b :: r).toArray⟩ pre.length = b.toNat := by
  have h : pre.length < (⟨(pre ++ b :: r).toArray⟩ : ByteArray).size := by show pre.length < (pre ++ b :: r).toArray.size; simp
  have e : (⟨(pre ++ b :: r).toArray⟩ : ByteArray)[pre.length]'h = b := by
    show (pre ++ b :: r).toArray[pre.length]'_ = b
    simp
  rw [byt, dif_pos h, e]
def dgt (b : UInt8) : Prop := 48 ≤ b.toNat ∧ b.toNat ≤ 57
def valL (r : List UInt8) (v : Nat) : Nat := r.foldl (fun a b => a * 10 + (b.toNat - 48)) v
theorem valL_ge : ∀ (r : List UInt8) (v : Nat), v ≤ valL r v
  | [], v => Nat.le_refl v
  | b :: r, v => by have := valL_ge r (v * 10 + (b.toNat - 48)); simp only [valL, List.foldl_cons] at this ⊢; omega
theorem numAt_good : ∀ (r pre : List UInt8) (v : Nat), (∀ b ∈ r, dgt b) → valL r v ≤ 1099511627776 → numAt ⟨(pre ++ r).toArray⟩ r.length pre.length v = some (valL r v)
  | [], pre, v, _, _ => rfl
  | b :: r, pre, v, hd, hv => by
    have h1 := hd b (List.mem_cons_self ..)
    have hlt : pre.length < (⟨(pre ++ b :: r).toArray⟩ : ByteArray).size := by show pre.length < (pre ++ b :: r).toArray.size; simp
    have hb := byt_at pre b r
    have hg : ¬ 1099511627776 < v * 10 + (b.toNat - 48) := by have := valL_ge r (v * 10 + (b.toNat - 48)); simp only [valL, List.foldl_cons] at this hv; omega
    have ih := numAt_good r (pre ++ [b]) (v * 10 + (b.toNat - 48)) (fun c hc => hd c (List.mem_cons_of_mem _ hc)) hv
    rw [List.length_cons, numAt_on _ _ _ _ hlt (by rw [hb]; exact h1) (by rw [hb]; exact hg), hb]
    have hvc : valL (b :: r) v = valL r (v * 10 + (b.toNat - 48)) := rfl
    rw [hvc]
    simpa using ih
theorem numAt_bad : ∀ (r pre : List UInt8) (v : Nat), (∀ b ∈ r, dgt b) → numAt ⟨(pre ++ (r ++ [97])).toArray⟩ (r.length + 1) pre.length v = none
  | [], pre, v, _ => by
    have hlt : pre.length < (⟨(pre ++ ([] ++ [97])).toArray⟩ : ByteArray).size := by show pre.length < (pre ++ ([] ++ [97])).toArray.size; simp
    have hb := byt_at pre 97 []
    exact numAt_no _ _ _ _ hlt (by rw [List.nil_append, hb]; decide)
  | b :: r, pre, v, hd => by
    have h1 := hd b (List.mem_cons_self ..)
    have hlt : pre.length < (⟨(pre ++ (b :: r ++ [97])).toArray⟩ : ByteArray).size := by show pre.length < (pre ++ (b :: r ++ [97])).toArray.size; simp
    have hb : byt ⟨(pre ++ (b :: r ++ [97])).toArray⟩ pre.length = b.toNat := by rw [List.cons_append]; exact byt_at pre b (r ++ [97])
    have ih := numAt_bad r (pre ++ [b]) (v * 10 + (b.toNat - 48)) (fun c hc => hd c (List.mem_cons_of_mem _ hc))
    rw [List.length_cons]
    by_cases hg : 1099511627776 < v * 10 + (b.toNat - 48)
    · exact numAt_great _ _ _ _ hlt (by rw [hb]; exact h1) (by rw [hb]; exact hg)
    · rw [numAt_on _ _ _ _ hlt (by rw [hb]; exact h1) (by rw [hb]; exact hg), hb]
      simpa using ih
def digW (v : Nat) : List UInt8 := if _h : v = 0 then [] else digW (v / 10) ++ [UInt8.ofNat (48 + v % 10)]
  termination_by v
  decreasing_by omega
theorem digW_zero : digW 0 = [] := by rw [digW]; simp
theorem digW_pos (v : Nat) (h : v ≠ 0) : digW v = digW (v / 10) ++ [UInt8.ofNat (48 + v % 10)] := by rw [digW]; simp [h]
theorem dig_nat (v : Nat) : (UInt8.ofNat (48 + v % 10)).toNat = 48 + v % 10 := by
  rw [UInt8.toNat_ofNat']
  omega
theorem digW_spec (v : Nat) : (∀ b ∈ digW v, dgt b) ∧ valL (digW v) 0 = v ∧ (digW v).length ≤ v ∧ (v ≠ 0 → ∃ b r, digW v = b :: r ∧ b.toNat ≠ 48) := by
  induction v using Nat.strongRecOn with
  | ind v ih =>
    by_cases h : v = 0
    · subst h
      rw [digW_zero]
      exact ⟨(fun b hb => by cases hb), rfl, Nat.le_refl _, fun h => absurd rfl h⟩
    · obtain ⟨i1, i2, i3, i4⟩ := ih (v / 10) (by omega)
      have hd := dig_nat v
      rw [digW_pos v h]
      refine ⟨fun b hb => ?_, ?_, ?_, fun _ => ?_⟩
      · rcases List.mem_append.1 hb with hb | hb
        · exact i1 b hb
        · rw [List.mem_singleton.1 hb]; unfold dgt; omega
      · unfold valL at i2 ⊢
        rw [List.foldl_append, i2]
        simp only [List.foldl_cons, List.foldl_nil, hd]
        omega
      · simp; omega
      · by_cases h2 : v / 10 = 0
        · rw [h2, digW_zero]
          exact ⟨_, [], rfl, by rw [hd]; omega⟩
        · obtain ⟨b, r, e, hb⟩ := i4 h2
          exact ⟨b, r ++ [UInt8.ofNat (48 + v % 10)], by rw [e]; rfl, hb⟩
/-- The text of a number. -/
def txtW (v : Nat) : List UInt8 := if v = 0 then [48] else digW v
theorem size_mk (l : List UInt8) : (⟨l.toArray⟩ : ByteArray).size = l.length := by show l.toArray.size = _; simp
theorem txt_good (v : Nat) (hv : v ≤ 1099511627776) : numR ⟨(txtW v).toArray⟩ = some v := by
  obtain ⟨h1, h2, h3, h4⟩ := digW_spec v
  unfold txtW numR
  by_cases h : v = 0
  · subst h
    simp only [if_true]
    rw [if_neg (by decide)]
    exact numAt_good [48] [] 0 (fun b hb => by rw [List.mem_singleton.1 hb]; exact ⟨by decide, by decide⟩) (by decide)
  · obtain ⟨b, r, e, hb⟩ := h4 h
    simp only [h, if_false]
    have hb0 : byt ⟨(digW v).toArray⟩ 0 = b.toNat := by rw [e]; exact byt_at [] b r
    rw [if_neg (by rw [size_mk, e, ← e, hb0]; rintro (c | ⟨c, _⟩); rw [e] at c; simp at c; exact hb c), size_mk]
    have := numAt_good (digW v) [] 0 h1 (by rw [h2]; exact hv)
    rw [h2] at this
    exact this
theorem txt_len (v : Nat) : 1 ≤ (txtW v).length ∧ (txtW v).length ≤ v + 1 := by
  obtain ⟨h1, h2, h3, h4⟩ := digW_spec v
  unfold txtW
  by_cases h : v = 0
  · simp [h]
  · obtain ⟨b, r, e, hb⟩ := h4 h
    simp only [h, if_false]
    constructor
    · rw [e]; simp
    · omega
theorem txt_dgt (v : Nat) : ∀ b ∈ txtW v, dgt b := by
  obtain ⟨h1, h2, h3, h4⟩ := digW_spec v
  unfold txtW
  by_cases h : v = 0
  · simp only [h, if_true]; intro b hb; rw [List.mem_singleton.1 hb]; exact ⟨by decide, by decide⟩
  · simp only [h, if_false]; exact h1
theorem txt_nought (v : Nat) : numR ⟨(48 :: txtW v).toArray⟩ = none := by
  have := txt_len v
  unfold numR
  rw [if_pos (Or.inr ⟨byt_at [] 48 (txtW v), by rw [size_mk]; simp; omega⟩)]
theorem txt_sign (v : Nat) : numR ⟨(45 :: txtW v).toArray⟩ = none := by
  have hb : byt ⟨(45 :: txtW v).toArray⟩ 0 = 45 := byt_at [] 45 (txtW v)
  unfold numR
  rw [if_neg (by rw [size_mk, hb]; simp), size_mk, List.length_cons]
  exact numAt_no _ _ _ _ (by rw [size_mk]; simp) (by rw [hb]; decide)
theorem txt_letter (v : Nat) : numR ⟨(txtW v ++ [97]).toArray⟩ = none := by
  unfold numR
  split
  · rfl
  · rw [size_mk, List.length_append]
    exact numAt_bad (txtW v) [] 0 (txt_dgt v)
theorem enc_dig (v : Nat) : Utf8.encode (48 + (v : Int) % 10) = ⟨#[UInt8.ofNat (48 + v % 10)]⟩ := by
  have h : v % 10 < 10 := Nat.mod_lt _ (by decide)
  rw [show (48 + (v : Int) % 10) = ((48 + v % 10 : Nat) : Int) by omega]
  generalize v % 10 = d at *
  match d, h with
  | 0, _ => rfl
  | 1, _ => rfl
  | 2, _ => rfl
  | 3, _ => rfl
  | 4, _ => rfl
  | 5, _ => rfl
  | 6, _ => rfl
  | 7, _ => rfl
  | 8, _ => rfl
  | 9, _ => rfl
end Go.Proofs.YtibhljdiofglfaaDoor
