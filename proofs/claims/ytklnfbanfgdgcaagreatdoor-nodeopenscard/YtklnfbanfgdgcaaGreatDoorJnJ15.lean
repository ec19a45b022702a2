/- The document's answers of chapter 5: what they say, at every notice. -/
import Derived.Test.YtklnfbanfgdgcaaGreatDoorJnJ14
import Derived.Test.YtklnfbanfgdgcaaGreatDoorJnJ6
import Derived.Maps.AppendAt
import Derived.OwnWalk
import Derived.Laws.OwnMore
import Derived.Test.YtklnfbanfgdgcaaGreatDoorJnJ0
set_option maxHeartbeats 40000000
set_option maxRecDepth 100000
set_option linter.unusedVariables false
namespace Go.Proofs.YtklnfbanfgdgcaaGreatDoor
open Go.RowKit Go.Shelf

set_option maxHeartbeats 1000000 in
theorem rRank_any (o t k : Int) (w : World) : Calls Tryz.prog 234 #[nt o t k] w fun e w' => e = .returned (.int .i64 (rk t k)) ∧ Below w.heap.size w w' := by
  unfold nt
  by_cases h : t < 0 ∨ 1048576 < t
  · rw [rk_lo h]
    rcases h with h | h
    all_goals
      go_enter Tryz.func234, Tryz.ntmps234
      go_wp2
      go_ret
      exact ⟨rfl, al1 _ _⟩
  · have h0 : ¬ t < 0 := by omega
    have h1 : ¬ 1048576 < t := by omega
    by_cases k1 : k = 1
    · subst k1
      rw [rk_m h]
      go_enter Tryz.func234, Tryz.ntmps234
      go_wp2
      go_ret
      exact ⟨congrArg (fun x => Ending.returned (.int .i64 x)) (show (2 * t : Int) = 2 * t from rfl), al1 _ _⟩
    · by_cases k2 : k = 2
      · subst k2
        rw [rk_s h]
        go_enter Tryz.func234, Tryz.ntmps234
        go_wp2
        go_ret
        exact ⟨congrArg (fun x => Ending.returned (.int .i64 x)) (show 2 * t + 2 - 1 = 2 * t + 1 by omega), al1 _ _⟩
      · rw [rk_n k1 k2]
        have hk : (k != 1 && k != 2) = true := by simp [k1, k2]
        go_enter Tryz.func234, Tryz.ntmps234
        go_wp2
        go_ret
        exact ⟨rfl, al1 _ _⟩
set_option maxHeartbeats 400000 in
theorem rFresh_any (o : Int) (w : World) : Calls Tryz.prog 124 #[.int .i64 o] w fun e w' => e = .returned (nt o 0 1) ∧ Below w.heap.size w w' := by
  go_enter Tryz.func124, Tryz.ntmps124
  go_wp2
  exact retN rfl rfl rfl (new_at rfl) ⟨rfl, al1 _ _⟩

/-- From there on these notices lie. -/
def NtsAt (W : World) (b off : Nat) (l : List (Int × Int × Int)) : Prop := ∀ k x, l[k]? = some x → W.cell? ⟨b, off + k * 3, none⟩ = some (.int .i64 x.1) ∧ W.cell? ⟨b, off + k * 3 + 1, none⟩ = some (.int .i64 x.2.1) ∧ W.cell? ⟨b, off + k * 3 + 2, none⟩ = some (.int .i64 x.2.2)
/-- A slice of these notices. -/
def RdN (W : World) (ad : Option Addr) (l : List (Int × Int × Int)) : Prop := l ≠ [] → ∃ b off, ad = some ⟨b, off, none⟩ ∧ b < W.heap.size ∧ NtsAt W b off l
theorem RdN.carry {W W' : World} {ad : Option Addr} {l : List (Int × Int × Int)} (h : RdN W ad l) (hb : Below W.heap.size W W') : RdN W' ad l := by
  intro hl
  obtain ⟨b, off, h1, h2, h3⟩ := h hl
  refine ⟨b, off, h1, Nat.lt_of_lt_of_le h2 hb.size, fun k x hk => ?_⟩
  obtain ⟨c0, c1, c2⟩ := h3 k x hk
  exact ⟨(hb.cell (p := ⟨b, _, none⟩) h2).trans c0, (hb.cell (p := ⟨b, _, none⟩) h2).trans c1, (hb.cell (p := ⟨b, _, none⟩) h2).trans c2⟩
/-- Are they of rising nodes, from there on? -/
def ris (n : Int) : Int → List (Int × Int × Int) → Bool
  | _, [] => true
  | a, x :: r => vl n x.1 x.2.1 x.2.2 && (decide (a < x.1) && ris n x.1 r)
theorem ris_step (n a : Int) (x : Int × Int × Int) (l : List (Int × Int × Int)) (k : Nat) (h : l[k]? = some x) : ris n a (l.drop k) = (vl n x.1 x.2.1 x.2.2 && (decide (a < x.1) && ris n x.1 (l.drop (k + 1)))) := by
  obtain ⟨hk, rfl⟩ := List.getElem?_eq_some_iff.1 h
  rw [List.drop_eq_getElem_cons hk]
  rfl
def vnatR (v : Value) : Nat := match v with | .int _ n => n.toNat | _ => 0
set_option maxHeartbeats 4000000 in
set_option maxRecDepth 100000 in
theorem rising_any (n : Int) (ad : Option Addr) (cap : Nat) (l : List (Int × Int × Int)) (w : World) (h : RdN w ad l) (hl : l.length ≤ 6000000000000) : Calls Tryz.prog 342 #[.int .i64 n, .slice ad l.length cap] w fun e w' => e = .returned (.bool (ris n (-1) l)) ∧ Below w.heap.size w w' := by
  obtain ⟨R, hR⟩ : ∃ R, ris n (-1) l = R := ⟨_, rfl⟩
  rw [hR]
  have HR : Hid (ris n (-1) (l.drop 0) = R) := hR
  clear hR
  go_enter Tryz.func342, Tryz.ntmps342
  go_wp2
  go_loopw [5, 10] (fun c i wz => ∃ (k : Nat) (a : Int), c = .int .i64 a ∧ i = .int .i64 k ∧ k ≤ l.length ∧ Hid (ris n a (l.drop k) = R) ∧ Below w.heap.size w wz) (fun _ i _ => l.length - vnatR i)
  case atStart => exact ⟨0, -1, rfl, rfl, Nat.zero_le _, HR, Below.refl _ _⟩
  case round =>
    obtain ⟨k, a, rfl, rfl, hk, HK, hbw⟩ := hrel
    have hsw := hbw.size
    by_cases hkl : k < l.length
    · obtain ⟨b, off, e1, hbl, hat⟩ := h.carry hbw (fun e => by subst e; simp at hkl)
      subst e1
      obtain ⟨⟨o, t, q⟩, hx⟩ : ∃ x, l[k]? = some x := ⟨_, List.getElem?_eq_getElem hkl⟩
      obtain ⟨c0, c1, c2⟩ := hat k _ hx
      dsimp only at c0 c1 c2
      have HS := ris_step n a _ l k hx
      rw [HK.out] at HS
      dsimp only at HS
      have hki : (k : Int) < (l.length : Int) := by omega
      have hvl := valid_any n o t q
      unfold nt at hvl
      cases hv : vl n o t q with
      | false =>
        rw [hv] at hvl HS
        have HF : Hid (R = false) := HS
        clear HS hv HK HR
        go_wp2_with (go_at_call 265; (with_reducible refine (hvl _).mono ?_); rintro e u1 ⟨rfl, hb1⟩; have hn1 : NB u1 wr.heap.size o t q := NB.carry (NB.new wr o t q) hb1; have n0 := hn1.c0; have n1 := hn1.c1; have n2 := hn1.c2)
        go_ret
        rw [HF.out]
        exact ⟨rfl, bel2 (hbw.alloc hsw _) hb1⟩
      | true =>
        rw [hv] at hvl HS
        by_cases hlt : a < o
        · rw [decide_eq_true hlt] at HS
          have HN : Hid (ris n o (l.drop (k + 1)) = R) := by show _ = R; rw [HS]; rfl
          have hle : ¬ o ≤ a := by omega
          clear HS hv HK HR
          go_wp2_with (go_at_call 265; (with_reducible refine (hvl _).mono ?_); rintro e u1 ⟨rfl, hb1⟩; have hn1 : NB u1 wr.heap.size o t q := NB.carry (NB.new wr o t q) hb1; have n0 := hn1.c0; have n1 := hn1.c1; have n2 := hn1.c2)
          go_roundw
          case rel => exact ⟨k + 1, o, rfl, by simp, by omega, HN, bel2 (hbw.alloc hsw _) hb1⟩
          case measure => simp [vnatR]; omega
        · rw [decide_eq_false hlt] at HS
          have HF : Hid (R = false) := HS
          have hle : o ≤ a := by omega
          clear HS hv HK HR
          go_wp2_with (go_at_call 265; (with_reducible refine (hvl _).mono ?_); rintro e u1 ⟨rfl, hb1⟩; have hn1 : NB u1 wr.heap.size o t q := NB.carry (NB.new wr o t q) hb1; have n0 := hn1.c0; have n1 := hn1.c1; have n2 := hn1.c2)
          go_ret
          rw [HF.out]
          exact ⟨rfl, bel2 (hbw.alloc hsw _) hb1⟩
    · have hkk : k = l.length := by omega
      subst hkk
      have HF : Hid (R = true) := by
        have := HK.out
        rw [List.drop_length] at this
        exact this.symm
      clear HK HR
      go_wp2
      go_ret
      rw [HF.out]
      exact ⟨rfl, hbw⟩

/-- The cells of notices. -/
def fl (l : List (Int × Int × Int)) : List Value := l.flatMap fun x => [.int .i64 x.1, .int .i64 x.2.1, .int .i64 x.2.2]
theorem fl_nil : fl [] = [] := rfl
theorem fl_cons (x : Int × Int × Int) (l : List (Int × Int × Int)) : fl (x :: l) = .int .i64 x.1 :: .int .i64 x.2.1 :: .int .i64 x.2.2 :: fl l := rfl
theorem fl_append (a b : List (Int × Int × Int)) : fl (a ++ b) = fl a ++ fl b := by simp [fl]
theorem fl_len : ∀ l : List (Int × Int × Int), (fl l).length = l.length * 3
  | [] => rfl
  | x :: l => by rw [fl_cons]; simp only [List.length_cons, fl_len l]; omega
theorem fl_get : ∀ (l : List (Int × Int × Int)) (k : Nat) (x : Int × Int × Int), l[k]? = some x → (fl l)[k * 3]? = some (.int .i64 x.1) ∧ (fl l)[k * 3 + 1]? = some (.int .i64 x.2.1) ∧ (fl l)[k * 3 + 2]? = some (.int .i64 x.2.2)
  | [], k, x, h => by simp at h
  | y :: l, 0, x, h => by
    simp at h
    subst h
    exact ⟨rfl, rfl, rfl⟩
  | y :: l, k + 1, x, h => by
    have ih := fl_get l k x (by simpa using h)
    rw [fl_cons, show (k + 1) * 3 = k * 3 + 3 by omega]
    exact ih
theorem fl_inv : ∀ (l : List (Int × Int × Int)) (j : Nat) (u : Value), (fl l)[j]? = some u → ∃ k x, l[k]? = some x ∧ ((j = k * 3 ∧ u = .int .i64 x.1) ∨ (j = k * 3 + 1 ∧ u = .int .i64 x.2.1) ∨ (j = k * 3 + 2 ∧ u = .int .i64 x.2.2))
  | [], j, u, h => by simp [fl_nil] at h
  | y :: l, 0, u, h => ⟨0, y, rfl, .inl ⟨rfl, (Option.some.inj h).symm⟩⟩
  | y :: l, 1, u, h => ⟨0, y, rfl, .inr (.inl ⟨rfl, (Option.some.inj h).symm⟩)⟩
  | y :: l, 2, u, h => ⟨0, y, rfl, .inr (.inr ⟨rfl, (Option.some.inj h).symm⟩)⟩
  | y :: l, j + 3, u, h => by
    obtain ⟨k, x, h1, h2⟩ := fl_inv l j u h
    refine ⟨k + 1, x, by simpa using h1, ?_⟩
    rcases h2 with ⟨e, f⟩ | ⟨e, f⟩ | ⟨e, f⟩
    · exact .inl ⟨by omega, f⟩
    · exact .inr (.inl ⟨by omega, f⟩)
    · exact .inr (.inr ⟨by omega, f⟩)
theorem fl_one (l : List (Int × Int × Int)) : ∀ u ∈ fl l, u.oneCell' = true := by
  intro u hu
  obtain ⟨j, hj⟩ := List.mem_iff_getElem?.1 hu
  obtain ⟨k, x, _, h⟩ := fl_inv l j u hj
  rcases h with ⟨_, rfl⟩ | ⟨_, rfl⟩ | ⟨_, rfl⟩ <;> rfl
theorem nts_src {W : World} {b off : Nat} {l : List (Int × Int × Int)} (h : NtsAt W b off l) : ∀ j u, (fl l)[j]? = some u → W.cell? ((⟨b, off, none⟩ : Addr).add j) = some u := by
  intro j u hj
  rw [add_pl]
  obtain ⟨k, x, hx, e⟩ := fl_inv l j u hj
  obtain ⟨c0, c1, c2⟩ := h k x hx
  rcases e with ⟨rfl, rfl⟩ | ⟨rfl, rfl⟩ | ⟨rfl, rfl⟩
  · exact c0
  · exact c1
  · exact c2
theorem nts_own {W : World} {base g n cap : Nat} {l : List (Int × Int × Int)} (h : W.ownsRow base 185 3 (.slice (some ⟨g, 0, none⟩) n cap) n (fl l)) (hn : n = l.length) : NtsAt W g 0 l := by
  intro k x hk
  have hlt : k < l.length := (List.getElem?_eq_some_iff.1 hk).1
  obtain ⟨c0, c1, c2⟩ := fl_get l k x hk
  rw [Nat.zero_add]
  exact ⟨(h.cellAt _ (by omega)).trans c0, (h.cellAt _ (by omega)).trans c1, (h.cellAt _ (by omega)).trans c2⟩
theorem infoN : (Tryz.prog.info? 185).map (fun i => (i.zero, i.size, i.bytes)) = some (some (.agg #[.int .i64 0, .int .i64 0, .int .i64 0]), 3, 24) := by kernel_rfl
theorem info_partsN : ∃ i, Tryz.prog.info? 185 = some i ∧ i.zero = some (.agg #[.int .i64 0, .int .i64 0, .int .i64 0]) ∧ i.size = 3 ∧ i.bytes = 24 := by
  have h := infoN
  cases hi : Tryz.prog.info? 185 with
  | none => rw [hi] at h; cases h
  | some i =>
    rw [hi] at h
    simp only [Option.map_some, Option.some.injEq, Prod.mk.injEq] at h
    exact ⟨i, rfl, h.1, h.2.1, h.2.2⟩
theorem rowN (W : World) (cs : Array Value) (t : TypeId) : ∀ j u, cs.toList[j]? = some u → (W.alloc (.cells cs t)).cell? ((⟨W.heap.size, 0, none⟩ : Addr).add j) = some u := by
  intro j u h
  have hg : (W.alloc (.cells cs t)).heap[W.heap.size]? = some (.cells cs t) := new_at rfl
  rw [add_pl, Nat.zero_add, cell_at hg j, ← h]
  simp

theorem idx_n (gb off n cap i : Nat) (h : i < n) (W : World) : (Instr.indexAt 46 (.slice (some ⟨gb, off, none⟩) n cap) (.int .i64 (i : Int))).run Tryz.prog W = .ok (.pointer (some ⟨gb, off + i * 3, none⟩)) W := by
  have h1 : (i : Int) < (n : Int) := by omega
  have h2 : 0 ≤ (i : Int) := by omega
  go_simp
theorem load_at {W : World} {b off : Nat} {l : List (Int × Int × Int)} (h : NtsAt W b off l) {k : Nat} {o t q : Int} (hx : l[k]? = some (o, t, q)) : (Instr.loadAt 185 (.pointer (some ⟨b, off + k * 3, none⟩))).run Tryz.prog W = .ok (nt o t q) W := by
  obtain ⟨c0, c1, c2⟩ := h k _ hx
  unfold nt
  go_simp
theorem un_notN {P : Program} (a : Bool) (w : World) : (Op.unary .not (.bool a)).run P w = .ok (.bool (!a)) w := by
  cases a <;> simp [go_sem]
/-- What lies there: two lists. -/
structure JI (w : World) (b off : Nat) (l : List (Int × Int × Int)) (c of : Nat) (m : List (Int × Int × Int)) (W : World) : Prop where
  lt : b < W.heap.size
  at' : NtsAt W b off l
  lt2 : c < W.heap.size
  at2 : NtsAt W c of m
  below : Below w.heap.size w W
theorem NtsAt.carry {W W' : World} {b off : Nat} {l : List (Int × Int × Int)} (h : NtsAt W b off l) (hl : b < W.heap.size) (hb : Below W.heap.size W W') : NtsAt W' b off l := fun k x hk => by
  obtain ⟨c0, c1, c2⟩ := h k x hk
  exact ⟨(hb.cell (p := ⟨b, _, none⟩) hl).trans c0, (hb.cell (p := ⟨b, _, none⟩) hl).trans c1, (hb.cell (p := ⟨b, _, none⟩) hl).trans c2⟩
theorem JI.carry {w : World} {b off c of : Nat} {l m : List (Int × Int × Int)} {W W' : World} (h : JI w b off l c of m W) (hb : Below W.heap.size W W') : JI w b off l c of m W' :=
  ⟨Nat.lt_of_lt_of_le h.lt hb.size, h.at'.carry h.lt hb, Nat.lt_of_lt_of_le h.lt2 hb.size, h.at2.carry h.lt2 hb, bel2 h.below hb⟩
end Go.Proofs.YtklnfbanfgdgcaaGreatDoor
