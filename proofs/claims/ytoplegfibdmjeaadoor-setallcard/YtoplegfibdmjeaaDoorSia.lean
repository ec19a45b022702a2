/- Lists of ints, read; SameInts. -/
import Derived.Test.YtoplegfibdmjeaaDoorOwn
import Derived.Test.YtoplegfibdmjeaaDoorBin
import Derived.Test.YtoplegfibdmjeaaDoorBlw
import Derived.Test.YtoplegfibdmjeaaDoorBxs
import Derived.Test.YtoplegfibdmjeaaDoorRgn
import Derived.Test.YtoplegfibdmjeaaDoorSlg
import Derived.Laws.OwnMore
import Derived.Shelf.Abstract
import Derived.Laws.CopyRow
import Derived.Laws.CopyOwn
namespace Go.Proofs.YtoplegfibdmjeaaDoor
open Go.RowKit Go.Shelf Go.Lib

theorem bel2 {w w1 w2 : World} (h : Below w.heap.size w w1) (k : Below w1.heap.size w1 w2) : Below w.heap.size w w2 := h.trans (k.mono h.size)
theorem add_pl (b off j : Nat) : (⟨b, off, none⟩ : Addr).add j = ⟨b, off + j, none⟩ := by unfold Addr.add; split <;> simp_all
theorem own_form {W : World} {base : Nat} {e : TypeId} {size : Nat} {v : Value} {n : Nat} {xs : List Value} (h : W.ownsRow base e size v n xs) : (v = .slice none 0 0 ∧ n = 0) ∨ ∃ g cap, v = .slice (some ⟨g, 0, none⟩) n cap ∧ base ≤ g ∧ g < W.heap.size ∧ n ≤ cap ∧ cap ≤ maxLen ∧ ∃ cur, W.heap[g]? = some (.cells cur e (0, 0)) := by
  rcases h.2 with h1 | ⟨g, cap, cur, h1, h2, h3, h4, h5, _⟩
  · exact .inl h1
  · exact .inr ⟨g, cap, h1, h2, lt_at h3, h4, h5, cur, h3⟩
theorem own_block {W : World} {base : Nat} {e : TypeId} {size : Nat} {v : Value} {n : Nat} {xs : List Value} (h : W.ownsRow base e size v n xs) : ∀ k, v.ownBlock = some k → base ≤ k := fun k e => (h.lt k e).1
theorem row_below {w w' : World} {base : Nat} {e : TypeId} {size : Nat} {v : Value} {n : Nat} {xs : List Value} (h : w.ownsRow base e size v n xs) (hb : Below w.heap.size w w') : w'.ownsRow base e size v n xs := by
  refine ⟨h.1, ?_⟩
  rcases h.2 with h1 | ⟨g, cap, cur, h1, h2, h3, h4⟩
  · exact .inl h1
  · exact .inr ⟨g, cap, cur, h1, h2, (hb.block _ (lt_at h3)).trans h3, h4⟩
theorem row_base {w : World} {base base' : Nat} {e : TypeId} {size : Nat} {v : Value} {n : Nat} {xs : List Value} (h : w.ownsRow base e size v n xs) (hb : base' ≤ base) : w.ownsRow base' e size v n xs := by
  refine ⟨h.1, ?_⟩
  rcases h.2 with h1 | ⟨g, cap, cur, h1, h2, h3, h4⟩
  · exact .inl h1
  · exact .inr ⟨g, cap, cur, h1, Nat.le_trans hb h2, h3, h4⟩
/-- All of them are bytes. -/
def Byt (l : List Int) : Prop := ∀ x ∈ l, x < 256
theorem byt_nil : Byt [] := by intro x hx; cases hx
def cB (l : List Int) : List Value := l.map fun (x : Int) => .int .i64 x
theorem cB_len (l : List Int) : (cB l).length = l.length := by simp [cB]
theorem cB_one (l : List Int) : ∀ u ∈ cB l, u.oneCell' = true := by
  intro u hu
  obtain ⟨x, _, rfl⟩ := List.mem_map.1 hu
  rfl
theorem cB_get {l : List Int} {k : Nat} {x : Int} (h : l[k]? = some x) : (cB l)[k]? = some (.int .i64 (x : Int)) := by simp [cB, h]
theorem cB_inv {l : List Int} {k : Nat} {u : Value} (h : (cB l)[k]? = some u) : ∃ x, l[k]? = some x ∧ u = .int .i64 (x : Int) := by
  simp only [cB, List.getElem?_map, Option.map_eq_some_iff] at h
  obtain ⟨x, h1, h2⟩ := h
  exact ⟨x, h1, h2.symm⟩
/-- From there on these bytes lie. -/
def BAt (W : World) (b off : Nat) (l : List Int) : Prop := ∀ (k : Nat) (x : Int), l[k]? = some x → W.cell? ⟨b, off + k, none⟩ = some (.int .i64 (x : Int))
/-- A slice of these bytes. -/
def RdB (W : World) (ad : Option Addr) (l : List Int) : Prop := l ≠ [] → ∃ b off, ad = some ⟨b, off, none⟩ ∧ b < W.heap.size ∧ BAt W b off l
/-- A slice of these bytes, in a block of bytes. -/
def RdY (W : World) (ad : Option Addr) (l : List Int) : Prop := l ≠ [] → ∃ b off, ad = some ⟨b, off, none⟩ ∧ (∃ cur, W.heap[b]? = some (.cells cur 3 (0, 0))) ∧ BAt W b off l
theorem RdY.rd {W : World} {ad : Option Addr} {l : List Int} (h : RdY W ad l) : RdB W ad l := fun hl => by
  obtain ⟨b, off, h1, ⟨cur, h2⟩, h3⟩ := h hl
  exact ⟨b, off, h1, lt_at h2, h3⟩
theorem BAt.carry {W W' : World} {b off : Nat} {l : List Int} (h : BAt W b off l) (e : W'.heap[b]? = W.heap[b]?) : BAt W' b off l :=
  fun k x hk => (World.cell?_of_block (w := W) e).trans (h k x hk)
theorem RdB.carry {W W' : World} {ad : Option Addr} {l : List Int} (h : RdB W ad l) (hb : Below W.heap.size W W') : RdB W' ad l := by
  intro hl
  obtain ⟨b, off, h1, h2, h3⟩ := h hl
  exact ⟨b, off, h1, Nat.lt_of_lt_of_le h2 hb.size, h3.carry (hb.block b h2)⟩
theorem RdY.carry {W W' : World} {ad : Option Addr} {l : List Int} (h : RdY W ad l) (hb : Below W.heap.size W W') : RdY W' ad l := by
  intro hl
  obtain ⟨b, off, h1, ⟨cur, h2⟩, h3⟩ := h hl
  exact ⟨b, off, h1, ⟨cur, (hb.block b (lt_at h2)).trans h2⟩, h3.carry (hb.block b (lt_at h2))⟩
theorem b_own {W : World} {base g n cap : Nat} {l : List Int} (h : W.ownsRow base 3 1 (.slice (some ⟨g, 0, none⟩) n cap) n (cB l)) (hn : n = l.length) : BAt W g 0 l := by
  intro k x hk
  have hlt : k < l.length := (List.getElem?_eq_some_iff.1 hk).1
  rw [Nat.zero_add]
  exact (h.cellAt _ (by omega)).trans (cB_get hk)
theorem RdY.own {W : World} {base : Nat} {ad : Option Addr} {c : Nat} {l : List Int} (h : W.ownsRow base 3 1 (.slice ad l.length c) l.length (cB l)) : RdY W ad l := by
  rcases own_form h with ⟨e1, e⟩ | ⟨g, cap, e1, h1, h2, h3, h4, h5⟩
  · exact fun q => absurd (List.length_eq_zero_iff.1 e) q
  · cases e1
    exact fun _ => ⟨g, 0, rfl, h5, b_own h rfl⟩
theorem b_src {W : World} {b off : Nat} {l : List Int} (h : BAt W b off l) : ∀ j u, (cB l)[j]? = some u → W.cell? ((⟨b, off, none⟩ : Addr).add j) = some u := by
  intro j u hj
  obtain ⟨x, hx, rfl⟩ := cB_inv hj
  rw [add_pl]
  exact h j x hx
theorem cB_app (a b : List Int) : cB (a ++ b) = cB a ++ cB b := by simp [cB]
theorem info_parts {t : TypeId} {z : Option Value} {s b : Nat} (h : (Tryd.prog.info? t).map (fun i => (i.zero, i.size, i.bytes)) = some (z, s, b)) : ∃ i, Tryd.prog.info? t = some i ∧ i.zero = z ∧ i.size = s ∧ i.bytes = b := by
  cases hi : Tryd.prog.info? t with
  | none => rw [hi] at h; cases h
  | some i =>
    rw [hi] at h
    simp only [Option.map_some, Option.some.injEq, Prod.mk.injEq] at h
    exact ⟨i, rfl, h.1, h.2.1, h.2.2⟩
theorem own_some {W : World} {base : Nat} {e : TypeId} {size : Nat} {v : Value} {n : Nat} {xs : List Value} (h : W.ownsRow base e size v n xs) (hn : 0 < n) : ∃ g c, v = .slice (some ⟨g, 0, none⟩) n c := by
  rcases own_form h with ⟨_, e2⟩ | ⟨g, c, e1, _⟩
  · omega
  · exact ⟨g, c, e1⟩
theorem own_cap {W : World} {base g n c : Nat} {e : TypeId} {xs : List Value} (h : W.ownsRow base e 1 (.slice (some ⟨g, 0, none⟩) n c) n xs) : n ≤ c := by
  rcases h.2 with ⟨e1, _⟩ | ⟨g1, c1, cur, e1, _, _, h4, _⟩
  · cases e1
  · cases e1
    exact h4
theorem load_u8 {V : World} {B j : Nat} {x : Int} (h : V.cell? ⟨B, j, none⟩ = some (.int .i64 x)) : (Instr.loadAt 3 (.pointer (some ⟨B, j, none⟩))).run Tryd.prog V = .ok (.int .i64 x) V := by go_simp
theorem un_not (b : Bool) (W : World) : (Op.unary .not (.bool b)).run Tryd.prog W = .ok (.bool (!b)) W := by go_simp
theorem idx_bz (g off n cap k : Nat) (h : k < n) (w : World) : (Instr.indexAt 42 (.slice (some ⟨g, off, none⟩) n cap) (.int .i64 (k : Int))).run Tryd.prog w = .ok (.pointer (some ⟨g, off + k, none⟩)) w := by
  have h1 : (k : Int) < (n : Int) := by omega
  go_simp
set_option maxHeartbeats 1000000 in
set_option maxRecDepth 100000 in
theorem sameB_yes (ad ad' : Option Addr) (cap cap' : Nat) (l : List Int) (w : World) (h : RdB w ad l) (h' : RdB w ad' l) (hl : l.length ≤ 4611686018427387904) : Calls Tryd.prog 6 #[.slice ad l.length cap, .slice ad' l.length cap'] w fun e w' => e = .returned (.bool true) ∧ Below w.heap.size w w' := by
  have hmx : Tryd.prog.follows .mixedOrders = true := by kernel_rfl
  go_enter Tryd.func6, Tryd.ntmps6
  go_wp2
  go_loopw [5] (fun c wz => ∃ k : Nat, c = .int .i64 k ∧ k ≤ l.length ∧ Below w.heap.size w wz) (fun c _ => l.length - vnat c)
  case atStart => exact ⟨0, rfl, Nat.zero_le _, Below.refl _ _⟩
  case round =>
    obtain ⟨k, rfl, hk, hbw⟩ := hrel
    by_cases hkl : k < l.length
    · have hki : (k : Int) < (l.length : Int) := by omega
      have hne : l ≠ [] := fun e => by subst e; simp at hkl
      obtain ⟨g, off, rfl, hgl, hat⟩ := h hne
      obtain ⟨g', off', rfl, hgl', hat'⟩ := h' hne
      obtain ⟨x, hx⟩ : ∃ x, l[k]? = some x := ⟨_, List.getElem?_eq_getElem hkl⟩
      have c0 := hat k x hx
      have c0' := hat' k x hx
      go_wp2
      refine wp_region_any hmx ?_
      refine wpAny_pure (fun i__ => ([(.slice (some ⟨g, off, none⟩) l.length cap), (.int .i64 (k : Int)), (.pointer (some ⟨g, off + k, none⟩)), (.int .i64 (x : Int)), (.slice (some ⟨g', off', none⟩) l.length cap'), (.int .i64 (k : Int)), (.pointer (some ⟨g', off' + k, none⟩)), (.int .i64 (x : Int)), (.bool true), (.bool false)] : List Value).getD i__ undef) (fun W => Below w.heap.size w W) (by kernel_rfl) hbw.drew ?_ ?_
      · refine (stepsFrom_cons ?_ (stepsFrom_cons ?_ (stepsFrom_cons ?_ (stepsFrom_cons ?_ (stepsFrom_cons ?_ (stepsFrom_cons ?_ (stepsFrom_cons ?_ (stepsFrom_cons ?_ (stepsFrom_cons ?_ (stepsFrom_cons ?_ trivial))))))))))
        · exact step_move rfl trivial _ rfl (by kernel_rfl)
        · exact step_move rfl trivial _ rfl (by kernel_rfl)
        · exact step_indexAddr rfl trivial _ _ _ _ _ rfl rfl rfl (fun w hw => idx_bz g off _ _ k hkl w)
        · exact step_load rfl trivial _ _ _ rfl rfl (fun w hw => load_u8 ((hw.cell (p := ⟨g, off + k, none⟩) hgl).trans c0))
        · exact step_move rfl trivial _ rfl (by kernel_rfl)
        · exact step_move rfl trivial _ rfl (by kernel_rfl)
        · exact step_indexAddr rfl trivial _ _ _ _ _ rfl rfl rfl (fun w hw => idx_bz g' off' _ _ k hkl w)
        · exact step_load rfl trivial _ _ _ rfl rfl (fun w hw => load_u8 ((hw.cell (p := ⟨g', off' + k, none⟩) hgl').trans c0'))
        · exact step_binOp rfl trivial _ _ _ _ _ _ _ rfl rfl rfl (fun w hw => (bin_eql .i64 _ _).trans (by simp))
        · exact step_unOp rfl trivial _ _ _ _ rfl rfl (fun w hw => un_not true w)
      intro W hW
      first | refine hK _ _ ?_ | refine (‹∀ (a : Act) (w : World), Code.wp Tryd.prog _ _ a w → _›) _ _ ?_
      simp only [finL, List.getD_cons_zero, List.getD_cons_succ, Nat.zero_add, Nat.reduceAdd, List.setIfInBounds_toArray, List.set_cons_zero, List.set_cons_succ]
      go_wp2
      go_roundw
      case rel => exact ⟨k + 1, by simp, by omega, hW⟩
      case measure => simp [vnat]; omega
    · have hkk : k = l.length := by omega
      subst hkk
      have hki : ¬ ((l.length : Int) < (l.length : Int)) := by omega
      go_wp2
      go_ret
      exact ⟨rfl, hbw⟩
end Go.Proofs.YtoplegfibdmjeaaDoor
