/- What the document's Piece and Unquote answer: at every text of at most 2^20 bytes. -/
import Derived.Test.YtibhljdiofglfaaDoorRefW
import Derived.Test.YtibhljdiofglfaaDoorLea
namespace Go.Proofs.YtibhljdiofglfaaDoor
open Go.RowKit Go.Shelf

theorem ext_chB (s : ByteArray) (p : Nat) : (s.extract p (p + wd s p)).data.toList = (s.data.toList.drop p).take (wd s p) := by
  rw [ByteArray.data_extract, Array.toList_extract]
  simp [List.extract]
theorem ba_len (T : ByteArray) : T.data.toList.length = T.size := by rw [Array.length_toList]; rfl
/-- What stands at a place within a quoted text: the bytes that it says, its length; or an error. -/
def pieceR (s : ByteArray) (p : Nat) : (List UInt8 × Nat) ⊕ Nat :=
  if byt s p = 92 then (match esc (fun k => byt s (p + k)) with | none => .inr 12 | some x => .inl x)
  else if ctl (rn s p : Int) = true ∨ looseB s p = true then .inr 10 else .inl ((Utf8.encode (rn s p : Int)).data.toList, wd s p)
/-- A list that can be read. -/
def RdP (l : List UInt8) (v : Value) (w' : World) : Prop := ∃ g cap, v = .slice (some ⟨g, 0, none⟩) l.length cap ∧ ∀ j u, (Lib.byteCells l)[j]? = some u → w'.cell? ((⟨g, 0, none⟩ : Addr).add j) = some u
theorem addr_add (g j : Nat) : (⟨g, 0, none⟩ : Addr).add j = ⟨g, j, none⟩ := by unfold Addr.add; split <;> simp_all
theorem rd_of {w' : World} {B : Nat} {v : Value} {l : List UInt8} (hl : 0 < l.length) (h : w'.ownsRow B 5 1 v l.length (Lib.byteCells l)) : RdP l v w' := by
  obtain ⟨ad, cap, rfl, hc⟩ := ownsRow_form h
  obtain ⟨g, rfl, _, _, _, hg⟩ := hc hl
  exact ⟨g, cap, rfl, fun j u hu => by rw [addr_add]; exact hg j u hu⟩
theorem esc_len (b : Nat → Nat) (l : List UInt8) (n : Nat) (h : esc b = some (l, n)) : 0 < l.length := by
  unfold esc at h
  repeat' split at h
  all_goals first | (cases h; done) | (cases h; simp; done) | skip
  all_goals
    rw [Option.map_eq_some_iff] at h
    obtain ⟨x, hx, he⟩ := h
    simp only [Prod.mk.injEq] at he
    obtain ⟨e1, e2⟩ := he
    rw [← e1, enc_len]
    exact (clen_pos _).1
def PieP (o : (List UInt8 × Nat) ⊕ Nat) (v : Value) (n e : Nat) (w' : World) : Prop :=
  match o with
  | .inr k => v = .slice none 0 0 ∧ n = 0 ∧ e = k
  | .inl x => n = x.2 ∧ e = 0 ∧ RdP x.1 v w'

theorem rd_bytes (W : World) (T : ByteArray) (cap : Nat) (fr : Nat × Nat) : RdP T.data.toList (.slice (some ⟨W.heap.size, 0, none⟩) T.size cap) ((W.alloc (.cells (bytesRow T cap) 5 fr)).drew) := by
  refine ⟨W.heap.size, cap, by rw [ba_len], fun j u hu => ?_⟩
  have hj : j < T.data.toList.length := by
    have := (List.getElem?_eq_some_iff.1 hu).1
    rwa [Lib.byteCells_length] at this
  have hj2 : j < T.data.size := by rwa [Array.length_toList] at hj
  have h1 := World.cell?_alloc_mark W (bytesRow T cap) 5 fr j
  rw [bytesRow_at T cap j hj2] at h1
  rw [addr_add]
  have h2 : (Lib.byteCells T.data.toList)[j]? = some (.int .u8 (T.data[j].toNat : Int)) := by
    simp only [Lib.byteCells, List.getElem?_map, Array.getElem?_toList, Array.getElem?_eq_getElem hj2, Option.map_some]
  rw [h2] at hu
  cases hu
  exact h1

theorem row_belowX {W W' : World} {B : Nat} {e : TypeId} {z : Nat} {v : Value} {n : Nat} {xs : List Value} (h : W.ownsRow B e z v n xs) (hb : Below W.heap.size W W') : W'.ownsRow B e z v n xs := by
  obtain ⟨h3, h4⟩ := h
  refine ⟨h3, ?_⟩
  rcases h4 with h4 | ⟨g, cap, cur, q1, q2, q3, q4⟩
  · exact Or.inl h4
  · exact Or.inr ⟨g, cap, cur, q1, q2, (hb.block g (Array.getElem?_eq_some_iff.1 q3).1).trans q3, q4⟩
theorem ownsRow_drew {w : World} {B : Nat} {e : TypeId} {z : Nat} {v : Value} {n : Nat} {xs : List Value} (h : w.ownsRow B e z v n xs) (k : Nat) : (w.drewN k).ownsRow B e z v n xs := h

set_option maxHeartbeats 4000000 in
set_option maxRecDepth 1000000 in
theorem refPiece_any (s : ByteArray) (hs : s.size ≤ 1048576) (p : Nat) (hp : p < s.size) (w : World) :
    Calls Tryd.prog 54 #[.string s, .int .i64 p] w fun e w' => ∃ v n k, e = .returned (.tuple #[v, .int .i64 (n : Nat), .int .i64 (k : Nat)]) ∧ PieP (pieceR s p) v n k w' ∧ Below w.heap.size w w' := by
  have hb := byt_get hp
  have hpi : (p : Int) < (s.size : Int) := by omega
  by_cases c1 : byt s p = 92
  · have hq : (s[p]'hp).toNat = 92 := by omega
    have HR : pieceR s p = (match esc (fun k => byt s (p + k)) with | none => .inr 12 | some x => .inl x) := by
      rw [pieceR, if_pos c1]
    have HE := refEscape_any s hs p hp
    clear hb c1
    cases ho : esc (fun k => byt s (p + k)) with
    | none =>
      rw [ho] at HE HR
      have H2 : Hid (pieceR s p = .inr 12) := HR
      clear HR
      go_enter Tryd.func54, Tryd.ntmps54
      go_wp2_with (go_at_call 62; refine (HE _).mono ?_; rintro e W1 ⟨v, n, rfl, ⟨rfl, rfl⟩, hbl⟩)
      go_ret3
      exact ⟨_, 0, 12, rfl, by rw [H2.out]; exact ⟨rfl, rfl, rfl⟩, hbl⟩
    | some x =>
      rw [ho] at HE HR
      have H2 : Hid (pieceR s p = .inl x) := HR
      clear HR
      obtain ⟨l, m⟩ := x
      have hm := (esc_ok _ l m ho).1
      have hl0 := esc_len _ l m ho
      have hx : ((m : Int) == 0) = false := beq_eq_false_iff_ne.2 (by omega)
      clear ho
      go_enter Tryd.func54, Tryd.ntmps54
      go_wp2_with (go_at_call 62; refine (HE _).mono ?_; rintro e W1 ⟨v, n, rfl, ⟨rfl, hrow⟩, hbl⟩)
      go_ret3
      exact ⟨_, _, 0, rfl, by rw [H2.out]; exact ⟨rfl, rfl, rd_of hl0 hrow⟩, hbl⟩
  · have hq : (((s[p]'hp).toNat : Int) == 92) = false := beq_eq_false_iff_ne.2 (by omega)
    have HA := at_any s (by omega) p hp
    have hwl := wd_le s p hp
    have hw0 := wd_pos s p
    have hr8 := rn_le s p
    by_cases hbad : ctl (rn s p : Int) = true ∨ looseB s p = true
    · have H2 : Hid (pieceR s p = .inr 10) := by show pieceR s p = _; rw [pieceR, if_neg c1, if_pos hbad]
      clear hb c1
      cases hL : looseB s p with
      | true =>
        rw [hL] at HA
        clear hbad
        go_enter Tryd.func54, Tryd.ntmps54
        go_wp2_with (go_at_call 38; refine (HA _).mono ?_; rintro e W1 ⟨rfl, nq, rfl⟩)
        go_ret3
        exact ⟨_, 0, 10, rfl, by rw [H2.out]; exact ⟨rfl, rfl, rfl⟩, below_drewN (Below.refl _ _) nq⟩
      | false =>
        rw [hL] at HA
        have hc : (rn s p : Int) < 32 ∨ (rn s p : Int) = 127 := by
          rcases hbad with h | h
          · exact of_decide_eq_true h
          · rw [hL] at h; cases h
        clear hbad
        rcases hc with hc | hc
        · go_enter Tryd.func54, Tryd.ntmps54
          go_wp2_with (go_at_call 38; refine (HA _).mono ?_; rintro e W1 ⟨rfl, nq, rfl⟩)
          go_ret3
          exact ⟨_, 0, 10, rfl, by rw [H2.out]; exact ⟨rfl, rfl, rfl⟩, below_drewN (Below.refl _ _) nq⟩
        · rw [hc] at HA
          go_enter Tryd.func54, Tryd.ntmps54
          go_wp2_with (go_at_call 38; refine (HA _).mono ?_; rintro e W1 ⟨rfl, nq, rfl⟩)
          go_ret3
          exact ⟨_, 0, 10, rfl, by rw [H2.out]; exact ⟨rfl, rfl, rfl⟩, below_drewN (Below.refl _ _) nq⟩
    · have H2 : Hid (pieceR s p = .inl ((Utf8.encode (rn s p : Int)).data.toList, wd s p)) := by show pieceR s p = _; rw [pieceR, if_neg c1, if_neg hbad]
      have hL : looseB s p = false := by
        cases h : looseB s p with
        | false => rfl
        | true => exact absurd (Or.inr h) hbad
      have hc : ¬ ((rn s p : Int) < 32 ∨ (rn s p : Int) = 127) := fun h => hbad (Or.inl (decide_eq_true h))
      have HX : Hid ((s.extract p (p + wd s p)).data.toList = (Utf8.encode (rn s p : Int)).data.toList) := (ext_chB s p).trans (char_bytes s p hp hL).symm
      have hc1 : ¬ (rn s p : Int) < 32 := fun h => hc (Or.inl h)
      have hc2 : ((rn s p : Int) == 127) = false := beq_eq_false_iff_ne.2 (fun h => hc (Or.inr h))
      have hez : (s.extract p (p + wd s p)).size = wd s p := by rw [ByteArray.size_extract]; omega
      rw [hL] at HA
      have hsl : (p : Int) + wd s p ≤ (s.size : Int) := by omega
      clear hbad hc hb c1
      generalize (Utf8.encode (rn s p : Int)).data.toList = L at H2 HX
      have hd := fun (W : World) (cap : Nat) (fr : Nat × Nat) => rd_bytes W (s.extract p (p + wd s p)) cap fr
      rw [hez, HX.out] at hd
      have HD : Hid (∀ (W : World) (cap : Nat) (fr : Nat × Nat), RdP L (.slice (some ⟨W.heap.size, 0, none⟩) (wd s p) cap) ((W.alloc (.cells (bytesRow (s.extract p (p + wd s p)) cap) 5 fr)).drew)) := hd
      clear hd
      have hcv := fun W : World => run_bytes_of_string (P := Tryd.prog) W 9 46 5 (s.extract p (p + wd s p)) Tryd.underlying9 Tryd.underlying46 Tryd.underlying5
      rw [hez] at hcv
      clear hL HX hez
      generalize wd s p = nn at *
      generalize rn s p = rr at *
      go_enter Tryd.func54, Tryd.ntmps54
      go_wp2_with (go_at_call 38; refine (HA _).mono ?_; rintro e W1 ⟨rfl, nq, rfl⟩; have hb1 := below_drewN (Below.refl w.heap.size w) nq; generalize w.drewN nq = W at *)
      go_ret3
      refine ⟨_, nn, 0, rfl, ?_, (hb1.alloc hb1.size _).trans ⟨rfl, rfl, rfl, Nat.le_refl _, fun _ _ => rfl⟩⟩
      rw [H2.out]
      exact ⟨rfl, rfl, HD.out W _ _⟩

theorem piece_ok (s : ByteArray) (f p : Nat) (acc l : List UInt8) (n : Nat) (hp : p < s.size) (h34 : byt s p ≠ 34) (h : pieceR s p = .inl (l, n)) :
    lead s (f + 1) p acc = lead s f (p + n) (acc ++ l) ∧ p + n ≤ s.size ∧ 1 ≤ n ∧ l.length ≤ 4 ∧ 0 < l.length := by
  unfold pieceR at h
  by_cases c1 : byt s p = 92
  · rw [if_pos c1] at h
    cases ho : esc (fun k => byt s (p + k)) with
    | none => rw [ho] at h; cases h
    | some x =>
      rw [ho] at h
      have e : x = (l, n) := Sum.inl.inj h
      subst e
      obtain ⟨k1, k2, k3, k4⟩ := esc_ok _ l n ho
      have := (k4 (n - 1) (by omega) (by omega)).1
      have := byt_in (s := s) (i := p + (n - 1)) (by omega)
      exact ⟨lead_some s f p acc l n hp c1 ho, by omega, by omega, k3, esc_len _ l n ho⟩
  · rw [if_neg c1] at h
    by_cases hb : ctl (rn s p : Int) = true ∨ looseB s p = true
    · rw [if_pos hb] at h; cases h
    · rw [if_neg hb] at h
      have e := Sum.inl.inj h
      simp only [Prod.mk.injEq] at e
      obtain ⟨e1, e2⟩ := e
      have h1 := lead_char s f p acc hp h34 c1 hb
      have h2 := wd_le s p hp
      have h3 := wd_pos s p
      have h4 : l.length = clen (code (rn s p : Int)) := by rw [← e1, enc_len]
      have h5 := clen_pos (code (rn s p : Int))
      rw [e1, e2] at h1
      exact ⟨h1, by omega, by omega, by omega, by omega⟩
theorem piece_err (s : ByteArray) (f p : Nat) (acc : List UInt8) (k : Nat) (hp : p < s.size) (h34 : byt s p ≠ 34) (h : pieceR s p = .inr k) : lead s (f + 1) p acc = ([], p, k) ∧ k ≠ 0 := by
  unfold pieceR at h
  by_cases c1 : byt s p = 92
  · rw [if_pos c1] at h
    cases ho : esc (fun k => byt s (p + k)) with
    | none =>
      rw [ho] at h
      cases h
      exact ⟨lead_none s f p acc hp c1 ho, by omega⟩
    | some x => rw [ho] at h; cases h
  · rw [if_neg c1] at h
    by_cases hb : ctl (rn s p : Int) = true ∨ looseB s p = true
    · rw [if_pos hb] at h
      cases h
      exact ⟨lead_bad s f p acc hp h34 c1 hb, by omega⟩
    · rw [if_neg hb] at h
      have hn : ∀ x : List UInt8 × Nat, (Sum.inl x : (List UInt8 × Nat) ⊕ Nat) = .inr k → False := fun x hx => by cases hx
      exact (hn _ h).elim

end Go.Proofs.YtibhljdiofglfaaDoor
