/- Slices of notices; Rising, and the document's: what they answer. -/
import Derived.Test.YtnomeinppdnhfaaGreatNte
namespace Go.Proofs.YtnomeinppdnhfaaGreat
open Go.RowKit Go.Shelf

/-- From there on these notices lie. -/
def NtsAt (W : World) (b off : Nat) (l : List (Int × Int × Int)) : Prop := ∀ k x, l[k]? = some x → W.cell? ⟨b, off + k * 3, none⟩ = some (.int .i64 x.1) ∧ W.cell? ⟨b, off + k * 3 + 1, none⟩ = some (.int .i64 x.2.1) ∧ W.cell? ⟨b, off + k * 3 + 2, none⟩ = some (.int .i64 x.2.2)
/-- A slice of these notices. -/
def RdN (W : World) (ad : Option Addr) (l : List (Int × Int × Int)) : Prop := l ≠ [] → ∃ b off, ad = some ⟨b, off, none⟩ ∧ b < W.heap.size ∧ NtsAt W b off l
theorem RdN.carry {W W' : World} {ad : Option Addr} {l : List (Int × Int × Int)} (h : RdN W ad l) (hb : Below W.heap.size W W') : RdN W' ad l := by
  intro hl
  obtain ⟨b, off, h1, h2, h3⟩ := h hl
  refine ⟨b, off, h1, Nat.lt_of_lt_of_le h2 hb.size, fun k x hk => ?_⟩
  obtain ⟨c0, c1, c2⟩ := h3 k x hk
  exact ⟨(hb.cell (p := ⟨b, _, none⟩) h2).trans c0, (hb.cell (p := ⟨b, _, none⟩) h2).trans c1, (hb.cell (p := ⟨b, _, none⟩) h2).trans c2⟩
/-- Are they of rising nodes, from there on? -/
def ris (n : Int) : Int → List (Int × Int × Int) → Bool
  | _, [] => true
  | a, x :: r => vl n x.1 x.2.1 x.2.2 && (decide (a < x.1) && ris n x.1 r)
theorem ris_step (n a : Int) (x : Int × Int × Int) (l : List (Int × Int × Int)) (k : Nat) (h : l[k]? = some x) : ris n a (l.drop k) = (vl n x.1 x.2.1 x.2.2 && (decide (a < x.1) && ris n x.1 (l.drop (k + 1)))) := by
  obtain ⟨hk, rfl⟩ := List.getElem?_eq_some_iff.1 h
  rw [List.drop_eq_getElem_cons hk]
  rfl
def vnatR (v : Value) : Nat := match v with | .int _ n => n.toNat | _ => 0
set_option maxHeartbeats 4000000 in
set_option maxRecDepth 100000 in
theorem rising_any (n : Int) (ad : Option Addr) (cap : Nat) (l : List (Int × Int × Int)) (w : World) (h : RdN w ad l) (hl : l.length ≤ 6000000000000) : Calls Tryz.prog 119 #[.int .i64 n, .slice ad l.length cap] w fun e w' => e = .returned (.bool (ris n (-1) l)) ∧ Below w.heap.size w w' := by
  obtain ⟨R, hR⟩ : ∃ R, ris n (-1) l = R := ⟨_, rfl⟩
  rw [hR]
  have HR : Hid (ris n (-1) (l.drop 0) = R) := hR
  clear hR
  go_enter Tryz.func119, Tryz.ntmps119
  go_wp2
  go_loopw [5, 10] (fun c i wz => ∃ (k : Nat) (a : Int), c = .int .i64 a ∧ i = .int .i64 k ∧ k ≤ l.length ∧ Hid (ris n a (l.drop k) = R) ∧ Below w.heap.size w wz) (fun _ i _ => l.length - vnatR i)
  case atStart => exact ⟨0, -1, rfl, rfl, Nat.zero_le _, HR, Below.refl _ _⟩
  case round =>
    obtain ⟨k, a, rfl, rfl, hk, HK, hbw⟩ := hrel
    have hsw := hbw.size
    by_cases hkl : k < l.length
    · obtain ⟨b, off, e1, hbl, hat⟩ := h.carry hbw (fun e => by subst e; simp at hkl)
      subst e1
      obtain ⟨⟨o, t, q⟩, hx⟩ : ∃ x, l[k]? = some x := ⟨_, List.getElem?_eq_getElem hkl⟩
      obtain ⟨c0, c1, c2⟩ := hat k _ hx
      dsimp only at c0 c1 c2
      have HS := ris_step n a _ l k hx
      rw [HK.out] at HS
      dsimp only at HS
      have hki : (k : Int) < (l.length : Int) := by omega
      have hvl := valid_any n o t q
      unfold nt at hvl
      cases hv : vl n o t q with
      | false =>
        rw [hv] at hvl HS
        have HF : Hid (R = false) := HS
        clear HS hv HK HR
        go_wp2_with (go_at_call 118; (with_reducible refine (hvl _).mono ?_); rintro e u1 ⟨rfl, hb1⟩; have hn1 : NB u1 wr.heap.size o t q := NB.carry (NB.new wr o t q) hb1; have n0 := hn1.c0; have n1 := hn1.c1; have n2 := hn1.c2)
        go_ret
        rw [HF.out]
        exact ⟨rfl, bel2 (hbw.alloc hsw _) hb1⟩
      | true =>
        rw [hv] at hvl HS
        by_cases hlt : a < o
        · rw [decide_eq_true hlt] at HS
          have HN : Hid (ris n o (l.drop (k + 1)) = R) := by show _ = R; rw [HS]; rfl
          have hle : ¬ o ≤ a := by omega
          clear HS hv HK HR
          go_wp2_with (go_at_call 118; (with_reducible refine (hvl _).mono ?_); rintro e u1 ⟨rfl, hb1⟩; have hn1 : NB u1 wr.heap.size o t q := NB.carry (NB.new wr o t q) hb1; have n0 := hn1.c0; have n1 := hn1.c1; have n2 := hn1.c2)
          go_roundw
          case rel => exact ⟨k + 1, o, rfl, by simp, by omega, HN, bel2 (hbw.alloc hsw _) hb1⟩
          case measure => simp [vnatR]; omega
        · rw [decide_eq_false hlt] at HS
          have HF : Hid (R = false) := HS
          have hle : o ≤ a := by omega
          clear HS hv HK HR
          go_wp2_with (go_at_call 118; (with_reducible refine (hvl _).mono ?_); rintro e u1 ⟨rfl, hb1⟩; have hn1 : NB u1 wr.heap.size o t q := NB.carry (NB.new wr o t q) hb1; have n0 := hn1.c0; have n1 := hn1.c1; have n2 := hn1.c2)
          go_ret
          rw [HF.out]
          exact ⟨rfl, bel2 (hbw.alloc hsw _) hb1⟩
    · have hkk : k = l.length := by omega
      subst hkk
      have HF : Hid (R = true) := by
        have := HK.out
        rw [List.drop_length] at this
        exact this.symm
      clear HK HR
      go_wp2
      go_ret
      rw [HF.out]
      exact ⟨rfl, hbw⟩
end Go.Proofs.YtnomeinppdnhfaaGreat
