/- Lives and Doubts, the program's and the document's beside each other. -/
import Derived.Test.YtgnhainfcfcodaaGreatAvc
import Derived.Test.YtgnhainfcfcodaaGreatAvd
import Derived.Test.YtgnhainfcfcodaaGreatKpzIN
namespace Go.Proofs.YtgnhainfcfcodaaGreat
open Go.RowKit Go.Shelf Go.Lib

def LvO (er : Int) (L : List Int) (w : World) (e : Ending) (w' : World) : Prop := ∃ a c, e = .returned (.tuple #[.slice a L.length c, .int .i64 er]) ∧ w'.ownsRow w.heap.size 3 1 (.slice a L.length c) L.length (Kel.fc Kel.cInts L) ∧ Below w.heap.size w w'
def DbO (er : Int) (L : List (Int × Int × Int)) (w : World) (e : Ending) (w' : World) : Prop := ∃ a c, e = .returned (.tuple #[.slice a L.length c, .int .i64 er]) ∧ w'.ownsRow w.heap.size 63 3 (.slice a L.length c) L.length (Kel.fc Kel.cNotices L) ∧ Below w.heap.size w w'
theorem lvs_len (n : Nat) (l : List Ev) : (lvs n l).length = n := by
  have := (lvT_ok n l l.length (Nat.le_refl _)).1
  unfold lvT at this
  rw [List.take_length] at this
  exact this
theorem lives_both (n : Int) (l : List Ev) (hl : l.length ≤ 2000) : ∃ (er : Int) (L : List Int), L.length ≤ 100 ∧ (∀ ad cap V, RdE V ad l → Calls Tryz.prog 6 #[.int .i64 n, .slice ad l.length cap] V (LvO er L V)) ∧ (∀ ad cap V, RdE V ad l → Calls Tryz.prog 7 #[.int .i64 n, .slice ad l.length cap] V (LvO er L V)) := by
  by_cases hn : 1 ≤ n ∧ n ≤ 100
  · obtain ⟨N, rfl⟩ : ∃ N : Nat, n = (N : Int) := ⟨n.toNat, by omega⟩
    have e := lvs_len N l
    refine ⟨0, lvs N l, by omega, fun ad cap V hV => (lives_ok N (by omega) (by omega) ad cap l V hV hl).mono ?_, fun ad cap V hV => (rlives_ok N (by omega) (by omega) ad cap l V hV hl).mono ?_⟩
    · rintro e' w' ⟨g, rfl, h1, h2⟩
      exact ⟨_, N, by rw [e], by rw [e]; exact h1, h2⟩
    · rintro e' w' ⟨g, rfl, h1, h2⟩
      exact ⟨_, N, by rw [e], by rw [e]; exact h1, h2⟩
  · refine ⟨1, [], by simp, fun ad cap V _ => (lives_no n hn _ V).mono ?_, fun ad cap V _ => (rlives_no n hn _ V).mono ?_⟩
    · rintro e' w' ⟨rfl, rfl⟩
      exact ⟨none, 0, rfl, World.ownsRow_nil _ _ _ _, Below.refl _ _⟩
    · rintro e' w' ⟨rfl, rfl⟩
      exact ⟨none, 0, rfl, World.ownsRow_nil _ _ _ _, Below.refl _ _⟩
theorem doubts_both (n : Int) (l : List Ev) (hl : l.length ≤ 2000) : ∃ (er : Int) (L : List (Int × Int × Int)), L.length ≤ 100 ∧ (∀ ad cap V, RdE V ad l → Calls Tryz.prog 8 #[.int .i64 n, .slice ad l.length cap] V (DbO er L V)) ∧ (∀ ad cap V, RdE V ad l → Calls Tryz.prog 9 #[.int .i64 n, .slice ad l.length cap] V (DbO er L V)) := by
  by_cases hn : 1 ≤ n ∧ n ≤ 100
  · obtain ⟨N, rfl⟩ : ∃ N : Nat, n = (N : Int) := ⟨n.toNat, by omega⟩
    have e := dbO_len N l N
    refine ⟨0, dbO N l N, by omega, fun ad cap V hV => (doubts_ok N (by omega) (by omega) ad cap l V hV hl).mono ?_, fun ad cap V hV => (rdoubts_ok N (by omega) (by omega) ad cap l V hV hl).mono ?_⟩
    · rintro e' w' ⟨v, rfl, h1, h2⟩
      obtain ⟨a, c, rfl, _⟩ := Kel.rowForm h1
      exact ⟨a, c, rfl, h1, h2⟩
    · rintro e' w' ⟨v, rfl, h1, h2⟩
      obtain ⟨a, c, rfl, _⟩ := Kel.rowForm h1
      exact ⟨a, c, rfl, h1, h2⟩
  · refine ⟨1, [], by simp, fun ad cap V _ => (doubts_no n hn _ V).mono ?_, fun ad cap V _ => (rdoubts_no n hn _ V).mono ?_⟩
    · rintro e' w' ⟨rfl, rfl⟩
      exact ⟨none, 0, rfl, World.ownsRow_nil _ _ _ _, Below.refl _ _⟩
    · rintro e' w' ⟨rfl, rfl⟩
      exact ⟨none, 0, rfl, World.ownsRow_nil _ _ _ _, Below.refl _ _⟩
theorem rd_own {W : World} {base size n c : Nat} {t : TypeId} {a : Option Addr} {cs : List Value} (h : W.ownsRow base t size (.slice a n c) n cs) : Kel.RdF W a cs := by
  obtain ⟨ad, c', e, hr, _⟩ := Kel.own_rd h
  simp only [Value.slice.injEq] at e
  rw [e.1]
  exact hr
/-- The empty book of lists. -/
def nil24 : Array Value := #[.slice none 0 0, .slice none 0 0, .slice none 0 0, .slice none 0 0, .slice none 0 0, .slice none 0 0, .slice none 0 0, .slice none 0 0, .slice none 0 0, .slice none 0 0, .slice none 0 0, .slice none 0 0, .slice none 0 0, .slice none 0 0, .slice none 0 0, .slice none 0 0, .slice none 0 0, .slice none 0 0, .slice none 0 0, .slice none 0 0, .slice none 0 0, .slice none 0 0, .slice none 0 0, .slice none 0 0]
theorem nil24_get (j : Nat) (hj : j < 24) : nil24[j]? = some (.slice none 0 0) := by
  have e : nil24 = Array.replicate 24 (.slice none 0 0) := rfl
  rw [e, Array.getElem?_replicate, if_pos hj]
theorem hidI {p : Prop} (h : p) : Hid p := h
/-- The book, with lists of both kinds. -/
def Bk2 (base bb : Nat) (PI PN : Value → Prop) (W : World) : Prop := ∃ uI vI XI yI LI uN vN XN yN LN C, Kel.Bb 49 W bb C ∧ C.size = 24 ∧ (∀ j, j < 24 → j ≠ 0 → j ≠ 1 → j ≠ 6 → j ≠ 7 → C[j]? = some (.slice none 0 0)) ∧ C[0]? = some uI ∧ C[1]? = some vI ∧ C[6]? = some uN ∧ C[7]? = some vN ∧ Kel.Kk Kel.cInts 1 3 25 base W uI vI XI yI LI ∧ Kel.Kk Kel.cNotices 3 63 29 base W uN vN XN yN LN ∧ (∀ (i : Nat) (z : Value), XI[i]? = some z → PI z) ∧ (∀ (i : Nat) (z : Value), XN[i]? = some z → PN z)
theorem Bk2.new (W : World) (base : Nat) : Bk2 base W.heap.size (fun _ => False) (fun _ => False) (W.alloc (.cells nil24 49)) :=
  ⟨_, _, [], [], [], _, _, [], [], [], nil24, new_at rfl, rfl, fun j hj _ _ _ _ => nil24_get j hj, nil24_get 0 (by decide), nil24_get 1 (by decide), nil24_get 6 (by decide), nil24_get 7 (by decide), Kel.Kk.nil, Kel.Kk.nil, fun _ _ h => (by cases h), fun _ _ h => (by cases h)⟩
theorem Bk2.carry {base bb : Nat} {PI PN : Value → Prop} {W V : World} (h : Bk2 base bb PI PN W) (hb : Below W.heap.size W V) : Bk2 base bb PI PN V := by
  obtain ⟨uI, vI, XI, yI, LI, uN, vN, XN, yN, LN, C, h1, h2, h3, h4, h5, h6, h7, h8, h9, h10⟩ := h
  exact ⟨uI, vI, XI, yI, LI, uN, vN, XN, yN, LN, C, h1.carry hb, h2, h3, h4, h5, h6, h7, h8.carry hb, h9.carry hb, h10⟩
/-- What abides when ints are kept: rows that are no lists of lists. -/
def Ab (base : Nat) (t : TypeId) (W V : World) : Prop := Below base W V ∧ ∀ {b1 n1 s1 : Nat} {ty : TypeId} {z : Value} {zs : List Value}, ty ≠ 49 → ty ≠ t → W.ownsRow b1 ty s1 z n1 zs → V.ownsRow b1 ty s1 z n1 zs
theorem keepI {base bb : Nat} {PI PN : Value → Prop} {w : World} (h : Bk2 base bb PI PN w) (hbz : base ≤ w.heap.size) (hbb : base ≤ bb) {z : Value} {l : List Int} (hz : w.ownsRow base 3 1 z l.length (Kel.fc Kel.cInts l)) (hl : l.length ≤ 100) (hn : ∀ z' g, PI z' → z.ownBlock = some g → z'.ownBlock ≠ some g) : Calls Tryz.prog 13 #[.pointer (some ⟨bb, 0, none⟩), z] w fun e w' => e = .returned (.tuple #[]) ∧ Bk2 base bb (fun z' => z' = z ∨ PI z') PN w' ∧ Ab base 25 w w' := by
  obtain ⟨uI, vI, XI, yI, LI, uN, vN, XN, yN, LN, C, h1, h2, h3, h4, h5, h6, h7, h8, h9, h10, h11⟩ := h
  refine (Kel.keepInts_any h1 h4 h5 h8 hbz hz (by omega) (fun i g z' hz' e => hn z' g (h10 i z' hz') e)).mono ?_
  rintro e w' ⟨rfl, u', v', x', y', L', k1, k2, k3, k4⟩
  refine ⟨rfl, ⟨u', v', x', y', L', uN, vN, XN, yN, LN, _, k1, by rw [Kel.put2_sz]; exact h2, fun j hj q0 q1 q6 q7 => by rw [Kel.put2_ne q0 q1]; exact h3 j hj q0 q1 q6 q7, Kel.put2_0 (by omega) _ _, Kel.put2_1 (by omega) _ _, by rw [Kel.put2_ne (by decide) (by decide)]; exact h6, by rw [Kel.put2_ne (by decide) (by decide)]; exact h7, k2, h9.fk k3 h1 h8.kl.row h8.cr (by decide) (by decide) (by decide) (by decide), fun i z' hz' => ?_, h11⟩, k3.low h8.kl.row h8.cr hbb hbz, fun q1 q2 hr => Kel.row_fk hr k3 h1 h8.kl.row h8.cr q1.symm q2.symm⟩
  rcases k4 i z' hz' with q | ⟨j, q⟩
  · exact .inl q
  · exact .inr (h10 j z' q)
theorem keepN {base bb : Nat} {PI PN : Value → Prop} {w : World} (h : Bk2 base bb PI PN w) (hbz : base ≤ w.heap.size) (hbb : base ≤ bb) {z : Value} {l : List (Int × Int × Int)} (hz : w.ownsRow base 63 3 z l.length (Kel.fc Kel.cNotices l)) (hl : l.length ≤ 100) (hn : ∀ z' g, PN z' → z.ownBlock = some g → z'.ownBlock ≠ some g) : Calls Tryz.prog 14 #[.pointer (some ⟨bb, 0, none⟩), z] w fun e w' => e = .returned (.tuple #[]) ∧ Bk2 base bb PI (fun z' => z' = z ∨ PN z') w' ∧ Ab base 29 w w' := by
  obtain ⟨uI, vI, XI, yI, LI, uN, vN, XN, yN, LN, C, h1, h2, h3, h4, h5, h6, h7, h8, h9, h10, h11⟩ := h
  refine (Kel.keepNotices_any h1 h6 h7 h9 hbz hz (by omega) (fun i g z' hz' e => hn z' g (h11 i z' hz') e)).mono ?_
  rintro e w' ⟨rfl, u', v', x', y', L', k1, k2, k3, k4⟩
  refine ⟨rfl, ⟨uI, vI, XI, yI, LI, u', v', x', y', L', _, k1, by rw [Kel.put2_sz]; exact h2, fun j hj q0 q1 q6 q7 => by rw [Kel.put2_ne q6 q7]; exact h3 j hj q0 q1 q6 q7, by rw [Kel.put2_ne (by decide) (by decide)]; exact h4, by rw [Kel.put2_ne (by decide) (by decide)]; exact h5, Kel.put2_0 (by omega) _ _, Kel.put2_1 (by omega) _ _, h8.fk k3 h1 h9.kl.row h9.cr (by decide) (by decide) (by decide) (by decide), k2, h10, fun i z' hz' => ?_⟩, k3.low h9.kl.row h9.cr hbb hbz, fun q1 q2 hr => Kel.row_fk hr k3 h1 h9.kl.row h9.cr q1.symm q2.symm⟩
  rcases k4 i z' hz' with q | ⟨j, q⟩
  · exact .inl q
  · exact .inr (h11 j z' q)
theorem apart2 {base bb : Nat} {PI PN : Value → Prop} {w : World} (h : Bk2 base bb PI PN w) (hbz : base ≤ w.heap.size) : Calls Tryz.prog 15 #[.pointer (some ⟨bb, 0, none⟩)] w fun e w' => e = .returned (.bool true) ∧ Below base w w' := by
  obtain ⟨uI, vI, XI, yI, LI, uN, vN, XN, yN, LN, C, h1, h2, h3, h4, h5, h6, h7, h8, h9, h10, h11⟩ := h
  exact Kel.apart_any h1 (fun j hj a b c d => h3 j hj a b c d) h4 h5 h8 h6 h7 h9 hbz
end Go.Proofs.YtgnhainfcfcodaaGreat
