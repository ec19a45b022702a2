/- Lists of words, and lists of such lists: read, held against each other. -/
import Derived.Test.YtngjjcmoekeciaaGreatDoorYwa
import Derived.Test.YtngjjcmoekeciaaGreatDoorBin
import Derived.Laws.CopyRow
import Derived.Laws.CopyOwn
namespace Go.Proofs.YtngjjcmoekeciaaGreatDoor
open Go.RowKit Go.Shelf

def vnatQ (v : Value) : Nat := match v with | .int _ n => n.toNat | _ => 0
abbrev Fq := Int × ByteArray × Int × Int
def tq (x : Fq) : Value := .agg #[.int .i64 x.1, .string x.2.1, .int .i64 x.2.2.1, .int .i64 x.2.2.2]
def cq1 (x : Fq) : List Value := [.int .i64 x.1, .string x.2.1, .int .i64 x.2.2.1, .int .i64 x.2.2.2]
def cq (l : List Fq) : List Value := l.flatMap cq1
theorem cq_cons (x : Fq) (l : List Fq) : cq (x :: l) = .int .i64 x.1 :: .string x.2.1 :: .int .i64 x.2.2.1 :: .int .i64 x.2.2.2 :: cq l := rfl
theorem cq_append (a b : List Fq) : cq (a ++ b) = cq a ++ cq b := by simp [cq]
theorem cq_len : ∀ l : List Fq, (cq l).length = l.length * 4
  | [] => rfl
  | x :: l => by rw [cq_cons]; simp only [List.length_cons, cq_len l]; omega
theorem cq_get : ∀ (l : List Fq) (k : Nat) (x : Fq), l[k]? = some x → (cq l)[k * 4]? = some (.int .i64 x.1) ∧ (cq l)[k * 4 + 1]? = some (.string x.2.1) ∧ (cq l)[k * 4 + 2]? = some (.int .i64 x.2.2.1) ∧ (cq l)[k * 4 + 3]? = some (.int .i64 x.2.2.2)
  | [], k, x, h => by simp at h
  | y :: l, 0, x, h => by
    simp at h
    subst h
    exact ⟨rfl, rfl, rfl, rfl⟩
  | y :: l, k + 1, x, h => by
    have ih := cq_get l k x (by simpa using h)
    rw [cq_cons, show (k + 1) * 4 = k * 4 + 4 by omega]
    exact ih
theorem cq_one (l : List Fq) : ∀ u ∈ cq l, u.oneCell' = true := by
  intro u hu
  simp only [cq, List.mem_flatMap, cq1] at hu
  obtain ⟨x, _, hx⟩ := hu
  simp at hx
  rcases hx with rfl | rfl | rfl | rfl <;> rfl
/-- From there on these words lie. -/
def TqAt (W : World) (b off : Nat) (l : List Fq) : Prop := ∀ k x, l[k]? = some x → W.cell? ⟨b, off + k * 4, none⟩ = some (.int .i64 x.1) ∧ W.cell? ⟨b, off + k * 4 + 1, none⟩ = some (.string x.2.1) ∧ W.cell? ⟨b, off + k * 4 + 2, none⟩ = some (.int .i64 x.2.2.1) ∧ W.cell? ⟨b, off + k * 4 + 3, none⟩ = some (.int .i64 x.2.2.2)
def RdQ (W : World) (ad : Option Addr) (l : List Fq) : Prop := l ≠ [] → ∃ b off, ad = some ⟨b, off, none⟩ ∧ b < W.heap.size ∧ TqAt W b off l
theorem TqAt.carry {W W' : World} {b off : Nat} {l : List Fq} (h : TqAt W b off l) (e : W'.heap[b]? = W.heap[b]?) : TqAt W' b off l := fun k x hk => by
  obtain ⟨c0, c1, c2, c3⟩ := h k x hk
  exact ⟨(World.cell?_of_block (a := ⟨b, _, none⟩) e).trans c0, (World.cell?_of_block (a := ⟨b, _, none⟩) e).trans c1, (World.cell?_of_block (a := ⟨b, _, none⟩) e).trans c2, (World.cell?_of_block (a := ⟨b, _, none⟩) e).trans c3⟩
theorem RdQ.carry {W W' : World} {ad : Option Addr} {l : List Fq} (h : RdQ W ad l) (hb : Below W.heap.size W W') : RdQ W' ad l := fun hl => by
  obtain ⟨b, off, e, h1, h2⟩ := h hl
  exact ⟨b, off, e, Nat.lt_of_lt_of_le h1 hb.size, h2.carry (hb.block _ h1)⟩
theorem TqAt.sub {W : World} {b off : Nat} {l : List Fq} (h : TqAt W b off l) (i n : Nat) : TqAt W b (off + i * 4) ((l.drop i).take n) := fun k x hk => by
  have h1 : l[i + k]? = some x := by
    rw [List.getElem?_take] at hk
    split at hk
    · simpa [List.getElem?_drop] using hk
    · cases hk
  have := h (i + k) x h1
  rw [show off + (i + k) * 4 = off + i * 4 + k * 4 by omega] at this
  exact this
theorem RdQ.own {W : World} {base c : Nat} {ad : Option Addr} {l : List Fq} (h : W.ownsRow base 50 4 (.slice ad l.length c) l.length (cq l)) : RdQ W ad l := fun hl => by
  rcases own_form h with ⟨_, e2⟩ | ⟨g, cap, e1, _, h3, _⟩
  · exact absurd (List.length_eq_zero_iff.1 e2) hl
  · simp only [Value.slice.injEq] at e1
    obtain ⟨rfl, _, rfl⟩ := e1
    refine ⟨g, 0, rfl, h3, fun k x hk => ?_⟩
    have hlt : k < l.length := (List.getElem?_eq_some_iff.1 hk).1
    obtain ⟨c0, c1, c2, c3⟩ := cq_get l k x hk
    rw [Nat.zero_add]
    exact ⟨(h.cellAt _ (by omega)).trans c0, (h.cellAt _ (by omega)).trans c1, (h.cellAt _ (by omega)).trans c2, (h.cellAt _ (by omega)).trans c3⟩
theorem idx_q (g off n cap k : Nat) (h : k < n) (w : World) : (Instr.indexAt 39 (.slice (some ⟨g, off, none⟩) n cap) (.int .i64 (k : Int))).run Tryz.prog w = .ok (.pointer (some ⟨g, off + k * 4, none⟩)) w := by
  have h1 : (k : Int) < (n : Int) := by omega
  go_simp
theorem load_q {W : World} {b off : Nat} {l : List Fq} (h : TqAt W b off l) {k : Nat} {x : Fq} (hk : l[k]? = some x) : (Instr.loadAt 50 (.pointer (some ⟨b, off + k * 4, none⟩))).run Tryz.prog W = .ok (tq x) W := by
  obtain ⟨c0, c1, c2, c3⟩ := h k x hk
  unfold tq
  go_simp
theorem un_notQ (b : Bool) (W : World) : (Op.unary .not (.bool b)).run Tryz.prog W = .ok (.bool (!b)) W := by go_simp
theorem eql_q {x y : Operand} (q : Fq) (w : World) : binRun Tryz.prog .eql 50 x y (tq q) (tq q) w = .ok (.bool true) w := by
  unfold binRun tq
  go_simp
set_option maxHeartbeats 1000000 in
set_option maxRecDepth 100000 in
theorem sameQ_yes (ad ad' : Option Addr) (cap cap' : Nat) (l : List Fq) (w : World) (h : RdQ w ad l) (h' : RdQ w ad' l) (hl : l.length ≤ 4611686018427387904) : Calls Tryz.prog 7 #[.slice ad l.length cap, .slice ad' l.length cap'] w fun e w' => e = .returned (.bool true) ∧ Below w.heap.size w w' := by
  have hmx : Tryz.prog.follows .mixedOrders = true := by kernel_rfl
  go_enter Tryz.func7, Tryz.ntmps7
  go_wp2
  go_loopw [5] (fun c wz => ∃ k : Nat, c = .int .i64 k ∧ k ≤ l.length ∧ Below w.heap.size w wz) (fun c _ => l.length - vnatQ c)
  case atStart => exact ⟨0, rfl, Nat.zero_le _, Below.refl _ _⟩
  case round =>
    obtain ⟨k, rfl, hk, hbw⟩ := hrel
    by_cases hkl : k < l.length
    · have hki : (k : Int) < (l.length : Int) := by omega
      have hne : l ≠ [] := fun e => by subst e; simp at hkl
      obtain ⟨b, off, rfl, hgl, hat⟩ := h hne
      obtain ⟨b', off', rfl, hgl', hat'⟩ := h' hne
      obtain ⟨x, hx⟩ : ∃ x, l[k]? = some x := ⟨_, List.getElem?_eq_getElem hkl⟩
      go_wp2
      refine wp_region_any hmx ?_
      refine wpAny_pure (fun i__ => ([(.slice (some ⟨b, off, none⟩) l.length cap), (.int .i64 (k : Int)), (.pointer (some ⟨b, off + k * 4, none⟩)), (tq x), (.slice (some ⟨b', off', none⟩) l.length cap'), (.int .i64 (k : Int)), (.pointer (some ⟨b', off' + k * 4, none⟩)), (tq x), (.bool true), (.bool false)] : List Value).getD i__ undef) (fun W => Below w.heap.size w W) (by kernel_rfl) hbw.drew ?_ ?_
      · refine (stepsFrom_cons ?_ (stepsFrom_cons ?_ (stepsFrom_cons ?_ (stepsFrom_cons ?_ (stepsFrom_cons ?_ (stepsFrom_cons ?_ (stepsFrom_cons ?_ (stepsFrom_cons ?_ (stepsFrom_cons ?_ (stepsFrom_cons ?_ trivial))))))))))
        · exact step_move rfl trivial _ rfl (by kernel_rfl)
        · exact step_move rfl trivial _ rfl (by kernel_rfl)
        · exact step_indexAddr rfl trivial _ _ _ _ _ rfl rfl rfl (fun w hw => idx_q b off _ _ k hkl w)
        · exact step_load rfl trivial _ _ _ rfl rfl (fun w hw => load_q (hat.carry (hw.block _ hgl)) hx)
        · exact step_move rfl trivial _ rfl (by kernel_rfl)
        · exact step_move rfl trivial _ rfl (by kernel_rfl)
        · exact step_indexAddr rfl trivial _ _ _ _ _ rfl rfl rfl (fun w hw => idx_q b' off' _ _ k hkl w)
        · exact step_load rfl trivial _ _ _ rfl rfl (fun w hw => load_q (hat'.carry (hw.block _ hgl')) hx)
        · exact step_binOp rfl trivial _ _ _ _ _ _ _ rfl rfl rfl (fun w hw => eql_q x w)
        · exact step_unOp rfl trivial _ _ _ _ rfl rfl (fun w hw => un_notQ true w)
      intro W hW
      first | refine hK _ _ ?_ | refine (‹∀ (a : Act) (w : World), Code.wp Tryz.prog _ _ a w → _›) _ _ ?_ | skip
      simp only [finL, List.getD_cons_zero, List.getD_cons_succ, Nat.zero_add, Nat.reduceAdd, List.setIfInBounds_toArray, List.set_cons_zero, List.set_cons_succ]
      go_wp2
      go_roundw
      case rel => exact ⟨k + 1, by simp, by omega, hW⟩
      case measure => simp [vnatQ]; omega
    · have hkk : k = l.length := by omega
      subst hkk
      have hki : ¬ ((l.length : Int) < (l.length : Int)) := by omega
      go_wp2
      go_ret
      exact ⟨rfl, hbw⟩
/-- A row of lists. -/
def RwQ (W : World) (x : List Value) (L : List (List Fq)) : Prop := x.length = L.length ∧ ∀ (i : Nat) (l : List Fq), L[i]? = some l → ∃ ad c, x[i]? = some (.slice ad l.length c) ∧ RdQ W ad l ∧ l.length ≤ 4611686018427387904
theorem RwQ.carry {W V : World} {x : List Value} {L : List (List Fq)} (h : RwQ W x L) (hb : Below W.heap.size W V) : RwQ V x L := ⟨h.1, fun i l hl => by
  obtain ⟨ad, c, h1, h2, h3⟩ := h.2 i l hl
  exact ⟨ad, c, h1, h2.carry hb, h3⟩⟩
theorem idx_qq (g n cap k : Nat) (h : k < n) (w : World) : (Instr.indexAt 27 (.slice (some ⟨g, 0, none⟩) n cap) (.int .i64 (k : Int))).run Tryz.prog w = .ok (.pointer (some ⟨g, k, none⟩)) w := by
  have h1 : (k : Int) < (n : Int) := by omega
  go_simp
theorem load_ql {V : World} {B j n c : Nat} {a : Option Addr} (h : V.cell? ⟨B, j, none⟩ = some (.slice a n c)) : (Instr.loadAt 39 (.pointer (some ⟨B, j, none⟩))).run Tryz.prog V = .ok (.slice a n c) V := by go_simp
set_option maxHeartbeats 1000000 in
set_option maxRecDepth 100000 in
theorem sameR_yes {base base' : Nat} (ad ad' : Option Addr) (cap cap' : Nat) (x y : List Value) (L : List (List Fq)) (w : World) (h : w.ownsRow base 39 1 (.slice ad L.length cap) L.length x) (h' : w.ownsRow base' 39 1 (.slice ad' L.length cap') L.length y) (hx : RwQ w x L) (hy : RwQ w y L) (hl : L.length ≤ 4611686018427387904) : Calls Tryz.prog 22 #[.slice ad L.length cap, .slice ad' L.length cap'] w fun e w' => e = .returned (.bool true) ∧ Below w.heap.size w w' := by
  have hmx : Tryz.prog.follows .mixedOrders = true := by kernel_rfl
  go_enter Tryz.func22, Tryz.ntmps22
  go_wp2
  go_loopw [5] (fun c wz => ∃ k : Nat, c = .int .i64 k ∧ k ≤ L.length ∧ Below w.heap.size w wz) (fun c _ => L.length - vnatQ c)
  case atStart => exact ⟨0, rfl, Nat.zero_le _, Below.refl _ _⟩
  case round =>
    obtain ⟨k, rfl, hk, hbw⟩ := hrel
    by_cases hkl : k < L.length
    · have hki : (k : Int) < (L.length : Int) := by omega
      obtain ⟨l, hll⟩ : ∃ l, L[k]? = some l := ⟨_, List.getElem?_eq_getElem hkl⟩
      obtain ⟨a1, c1, x1, r1, hl1⟩ := hx.2 k l hll
      obtain ⟨a2, c2, x2, r2, _⟩ := hy.2 k l hll
      obtain ⟨gx, cx, ex⟩ := own_some h (by omega)
      obtain ⟨gy, cy, ey⟩ := own_some h' (by omega)
      simp only [Value.slice.injEq] at ex ey
      obtain ⟨rfl, _, rfl⟩ := ex
      obtain ⟨rfl, _, rfl⟩ := ey
      have d1 : w.cell? ⟨gx, k, none⟩ = some (.slice a1 l.length c1) := (h.cellAt k (by omega)).trans x1
      have d2 : w.cell? ⟨gy, k, none⟩ = some (.slice a2 l.length c2) := (h'.cellAt k (by omega)).trans x2
      have b1 := (row_lt2 h gx rfl).2
      have b2 := (row_lt2 h' gy rfl).2
      go_wp2
      refine wp_region_any hmx ?_
      refine wpAny_pure (fun i__ => ([(.slice (some ⟨gx, 0, none⟩) L.length cap), (.int .i64 (k : Int)), (.pointer (some ⟨gx, k, none⟩)), (.slice a1 l.length c1), (.slice (some ⟨gy, 0, none⟩) L.length cap'), (.int .i64 (k : Int)), (.pointer (some ⟨gy, k, none⟩)), (.slice a2 l.length c2), (.bool true), (.bool false)] : List Value).getD i__ undef) (fun W => Below w.heap.size w W) (by kernel_rfl) hbw.drew ?_ ?_
      · refine (stepsFrom_cons ?_ (stepsFrom_cons ?_ (stepsFrom_cons ?_ (stepsFrom_cons ?_ (stepsFrom_cons ?_ (stepsFrom_cons ?_ (stepsFrom_cons ?_ (stepsFrom_cons ?_ (stepsFrom_cons ?_ (stepsFrom_cons ?_ trivial))))))))))
        · exact step_move rfl trivial _ rfl (by kernel_rfl)
        · exact step_move rfl trivial _ rfl (by kernel_rfl)
        · exact step_indexAddr rfl trivial _ _ _ _ _ rfl rfl rfl (fun w hw => idx_qq gx _ _ k hkl w)
        · exact step_load rfl trivial _ _ _ rfl rfl (fun w hw => load_ql ((World.cell?_of_block (a := ⟨gx, k, none⟩) (hw.block _ b1)).trans d1))
        · exact step_move rfl trivial _ rfl (by kernel_rfl)
        · exact step_move rfl trivial _ rfl (by kernel_rfl)
        · exact step_indexAddr rfl trivial _ _ _ _ _ rfl rfl rfl (fun w hw => idx_qq gy _ _ k hkl w)
        · exact step_load rfl trivial _ _ _ rfl rfl (fun w hw => load_ql ((World.cell?_of_block (a := ⟨gy, k, none⟩) (hw.block _ b2)).trans d2))
        · exact step_call rfl trivial 7 _ _ [(.slice a1 l.length c1), (.slice a2 l.length c2)] rfl (by kernel_rfl) (enters_of Tryz.func7 (by kernel_rfl) rfl) (fun v hw => (sameQ_yes a1 a2 c1 c2 l v (r1.carry hw) (r2.carry hw) hl1).mono (by rintro e w2 ⟨rfl, hb⟩; exact ⟨rfl, hw.trans (hb.mono hw.size)⟩))
        · exact step_unOp rfl trivial _ _ _ _ rfl rfl (fun w hw => un_notQ true w)
      intro W hW
      first | refine hK _ _ ?_ | refine (‹∀ (a : Act) (w : World), Code.wp Tryz.prog _ _ a w → _›) _ _ ?_ | skip
      simp only [finL, List.getD_cons_zero, List.getD_cons_succ, Nat.zero_add, Nat.reduceAdd, List.setIfInBounds_toArray, List.set_cons_zero, List.set_cons_succ]
      go_wp2
      go_roundw
      case rel => exact ⟨k + 1, by simp, by omega, hW⟩
      case measure => simp [vnatQ]; omega
    · have hkk : k = L.length := by omega
      subst hkk
      have hki : ¬ ((L.length : Int) < (L.length : Int)) := by omega
      go_wp2
      go_ret
      exact ⟨rfl, hbw⟩
/-- The lines: those that are done, and the one that goes on. -/
def lnF (s : List (List Fq) × List Fq) (x : Fq) : List (List Fq) × List Fq := if x.1 = 1 then (s.1 ++ [s.2], []) else (s.1, s.2 ++ [x])
def lns (l : List Fq) : List (List Fq) × List Fq := l.foldl lnF ([], [])
def outL (l : List Fq) : List (List Fq) := if (lns l).2 = [] then (lns l).1 else (lns l).1 ++ [(lns l).2]
theorem lns_succ (l : List Fq) (k : Nat) (x : Fq) (h : l[k]? = some x) : lns (l.take (k + 1)) = lnF (lns (l.take k)) x := by
  have e : l.take (k + 1) = l.take k ++ [x] := by rw [List.take_add_one, h]; rfl
  rw [e, lns, List.foldl_append]
  rfl
theorem lns_size (l : List Fq) : ∀ k, k ≤ l.length → (lns (l.take k)).2.length ≤ k ∧ (lns (l.take k)).1.length ≤ k ∧ (lns (l.take k)).2 = (l.take k).drop (k - (lns (l.take k)).2.length)
  | 0, _ => by simp [lns]
  | k + 1, hk => by
    obtain ⟨h1, h2, h3⟩ := lns_size l k (by omega)
    obtain ⟨x, hx⟩ : ∃ x, l[k]? = some x := ⟨_, List.getElem?_eq_getElem (by omega)⟩
    have hl : (l.take k).length = k := by simp; omega
    have e : l.take (k + 1) = l.take k ++ [x] := by rw [List.take_add_one, hx]; rfl
    rw [lns_succ l k x hx]
    unfold lnF
    split
    · refine ⟨by simp, by simp; omega, ?_⟩
      simp
    · refine ⟨by simp; omega, by simp; omega, ?_⟩
      simp only [List.length_append, List.length_cons, List.length_nil]
      rw [show k + 1 - ((lns (l.take k)).2.length + 1) = k - (lns (l.take k)).2.length by omega, e, List.drop_append_of_le_length (by omega), ← h3]
end Go.Proofs.YtngjjcmoekeciaaGreatDoor
