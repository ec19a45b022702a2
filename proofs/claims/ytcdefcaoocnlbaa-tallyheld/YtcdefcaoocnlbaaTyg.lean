/- Sets held against each other; replies read; Take in a drawn region. -/
import Derived.Test.YtcdefcaoocnlbaaTyf
import Derived.Test.YtcdefcaoocnlbaaOpp
import Derived.Test.YtcdefcaoocnlbaaStg
namespace Go.Proofs.Ytcdefcaoocnlbaa
open Go.RowKit Go.Shelf

/-- These sets lie there. -/
def SsAt (W : World) (b off : Nat) (l : List Nat) : Prop := ∀ (k x : Nat), l[k]? = some x → W.cell? ⟨b, off + k * 4, none⟩ = some (.int .u32 (wd x 0 : Nat)) ∧ W.cell? ⟨b, off + k * 4 + 1, none⟩ = some (.int .u32 (wd x 1 : Nat)) ∧ W.cell? ⟨b, off + k * 4 + 2, none⟩ = some (.int .u32 (wd x 2 : Nat)) ∧ W.cell? ⟨b, off + k * 4 + 3, none⟩ = some (.int .u32 (wd x 3 : Nat))
def RdS (W : World) (ad : Option Addr) (l : List Nat) : Prop := l ≠ [] → ∃ b off, ad = some ⟨b, off, none⟩ ∧ b < W.heap.size ∧ SsAt W b off l
theorem SsAt.carry {W W' : World} {b off : Nat} {l : List Nat} (h : SsAt W b off l) (e : W'.heap[b]? = W.heap[b]?) : SsAt W' b off l := fun k x hk => by
  obtain ⟨c0, c1, c2, c3⟩ := h k x hk
  exact ⟨(World.cell?_of_block (a := ⟨b, _, none⟩) e).trans c0, (World.cell?_of_block (a := ⟨b, _, none⟩) e).trans c1, (World.cell?_of_block (a := ⟨b, _, none⟩) e).trans c2, (World.cell?_of_block (a := ⟨b, _, none⟩) e).trans c3⟩
theorem RdS.carry {W W' : World} {ad : Option Addr} {l : List Nat} (h : RdS W ad l) (hb : Below W.heap.size W W') : RdS W' ad l := fun hl => by
  obtain ⟨b, off, e, h1, h2⟩ := h hl
  exact ⟨b, off, e, Nat.lt_of_lt_of_le h1 hb.size, h2.carry (hb.block _ h1)⟩
theorem RdS.own {W : World} {base c : Nat} {ad : Option Addr} {l : List Nat} (h : W.ownsRow base 24 4 (.slice ad l.length c) l.length (fs l)) : RdS W ad l := fun hl => by
  rcases own_form h with ⟨_, e2⟩ | ⟨g, cap, e1, _, h3, _⟩
  · exact absurd (List.length_eq_zero_iff.1 e2) hl
  · simp only [Value.slice.injEq] at e1
    obtain ⟨rfl, _, rfl⟩ := e1
    refine ⟨g, 0, rfl, h3, fun k x hk => ?_⟩
    have hlt : k < l.length := (List.getElem?_eq_some_iff.1 hk).1
    obtain ⟨c0, c1, c2, c3⟩ := fs_get l k x hk
    rw [Nat.zero_add]
    exact ⟨(h.cellAt _ (by omega)).trans c0, (h.cellAt _ (by omega)).trans c1, (h.cellAt _ (by omega)).trans c2, (h.cellAt _ (by omega)).trans c3⟩
theorem idx_s (g off n cap k : Nat) (h : k < n) (w : World) : (Instr.indexAt 31 (.slice (some ⟨g, off, none⟩) n cap) (.int .i64 (k : Int))).run Try.prog w = .ok (.pointer (some ⟨g, off + k * 4, none⟩)) w := by
  have h1 : (k : Int) < (n : Int) := by omega
  go_simp
theorem load_s {W : World} {b off N : Nat} (c0 : W.cell? ⟨b, off, none⟩ = some (.int .u32 (wd N 0 : Nat))) (c1 : W.cell? ⟨b, off + 1, none⟩ = some (.int .u32 (wd N 1 : Nat))) (c2 : W.cell? ⟨b, off + 2, none⟩ = some (.int .u32 (wd N 2 : Nat))) (c3 : W.cell? ⟨b, off + 3, none⟩ = some (.int .u32 (wd N 3 : Nat))) : (Instr.loadAt 24 (.pointer (some ⟨b, off, none⟩))).run Try.prog W = .ok (sv N) W := by
  unfold sv
  go_simp
theorem load_sk {W : World} {b off : Nat} {l : List Nat} (h : SsAt W b off l) {k x : Nat} (hk : l[k]? = some x) : (Instr.loadAt 24 (.pointer (some ⟨b, off + k * 4, none⟩))).run Try.prog W = .ok (sv x) W := by
  obtain ⟨c0, c1, c2, c3⟩ := h k x hk
  exact load_s c0 c1 c2 c3
set_option maxHeartbeats 1000000 in
set_option maxRecDepth 100000 in
theorem sets_yes (ad ad' : Option Addr) (cap cap' : Nat) (l : List Nat) (w : World) (h : RdS w ad l) (h' : RdS w ad' l) (hl : l.length ≤ 4611686018427387904) (hs : ∀ N ∈ l, N < S128) : Calls Try.prog 16 #[.slice ad l.length cap, .slice ad' l.length cap'] w fun e w' => e = .returned (.bool true) ∧ Below w.heap.size w w' := by
  have hmx : Try.prog.follows .mixedOrders = true := by kernel_rfl
  go_enter Try.func16, Try.ntmps16
  go_wp2
  go_loopw [5] (fun c wz => ∃ k : Nat, c = .int .i64 k ∧ k ≤ l.length ∧ Below w.heap.size w wz) (fun c _ => l.length - vnat c)
  case atStart => exact ⟨0, rfl, Nat.zero_le _, Below.refl _ _⟩
  case round =>
    obtain ⟨k, rfl, hk, hbw⟩ := hrel
    by_cases hkl : k < l.length
    · have hki : (k : Int) < (l.length : Int) := by omega
      have hne : l ≠ [] := fun e => by subst e; simp at hkl
      obtain ⟨b, off, rfl, hgl, hat⟩ := h hne
      obtain ⟨b', off', rfl, hgl', hat'⟩ := h' hne
      obtain ⟨x, hx⟩ : ∃ x, l[k]? = some x := ⟨_, List.getElem?_eq_getElem hkl⟩
      have hx8 := hs x (List.mem_of_getElem? hx)
      go_wp2
      refine wp_region_any hmx ?_
      refine wpAny_pure (fun i__ => ([(.slice (some ⟨b, off, none⟩) l.length cap), (.int .i64 (k : Int)), (.pointer (some ⟨b, off + k * 4, none⟩)), (sv x), (.slice (some ⟨b', off', none⟩) l.length cap'), (.int .i64 (k : Int)), (.pointer (some ⟨b', off' + k * 4, none⟩)), (sv x), (.bool false)] : List Value).getD i__ undef) (fun W => Below w.heap.size w W) (by kernel_rfl) hbw.drew ?_ ?_
      · refine (stepsFrom_cons ?_ (stepsFrom_cons ?_ (stepsFrom_cons ?_ (stepsFrom_cons ?_ (stepsFrom_cons ?_ (stepsFrom_cons ?_ (stepsFrom_cons ?_ (stepsFrom_cons ?_ (stepsFrom_cons ?_ trivial)))))))))
        · exact step_move rfl trivial _ rfl (by kernel_rfl)
        · exact step_move rfl trivial _ rfl (by kernel_rfl)
        · exact step_indexAddr rfl trivial _ _ _ _ _ rfl rfl rfl (fun w hw => idx_s b off _ _ k hkl w)
        · exact step_load rfl trivial _ _ _ rfl rfl (fun w hw => load_sk (hat.carry (hw.block _ hgl)) hx)
        · exact step_move rfl trivial _ rfl (by kernel_rfl)
        · exact step_move rfl trivial _ rfl (by kernel_rfl)
        · exact step_indexAddr rfl trivial _ _ _ _ _ rfl rfl rfl (fun w hw => idx_s b' off' _ _ k hkl w)
        · exact step_load rfl trivial _ _ _ rfl rfl (fun w hw => load_sk (hat'.carry (hw.block _ hgl')) hx)
        · exact step_binOp rfl trivial _ _ _ _ _ _ _ rfl rfl rfl (fun w hw => neqs rfl hx8 w)
      intro W hW
      first | refine hK _ _ ?_ | refine (‹∀ (a : Act) (w : World), Code.wp Try.prog _ _ a w → _›) _ _ ?_
      simp only [finL, List.getD_cons_zero, List.getD_cons_succ, Nat.zero_add, Nat.reduceAdd, List.setIfInBounds_toArray, List.set_cons_zero, List.set_cons_succ]
      go_wp2
      go_roundw
      case rel => exact ⟨k + 1, by simp, by omega, hW⟩
      case measure => simp [vnat]; omega
    · have hkk : k = l.length := by omega
      subst hkk
      have hki : ¬ ((l.length : Int) < (l.length : Int)) := by omega
      go_wp2
      go_ret
      exact ⟨rfl, hbw⟩
theorem idx_rp (b off n cap m : Nat) (h : m < n) (W : World) : (Instr.indexAt 25 (.slice (some ⟨b, off, none⟩) n cap) (.int .i64 (m : Int))).run Try.prog W = .ok (.pointer (some ⟨b, off + m * 6, none⟩)) W := by
  have h1 : (m : Int) < (n : Int) := by omega
  go_simp
theorem field_rp0 (W : World) (b off : Nat) : (Instr.fieldAt 36 (.pointer (some ⟨b, off, none⟩)) 0).run Try.prog W = .ok (.pointer (some ⟨b, off, none⟩)) W := by go_simp
theorem field_rp1 (W : World) (b off : Nat) : (Instr.fieldAt 36 (.pointer (some ⟨b, off, none⟩)) 1).run Try.prog W = .ok (.pointer (some ⟨b, off + 1, none⟩)) W := by go_simp
theorem field_rp2 (W : World) (b off : Nat) : (Instr.fieldAt 36 (.pointer (some ⟨b, off, none⟩)) 2).run Try.prog W = .ok (.pointer (some ⟨b, off + 2, none⟩)) W := by go_simp
section
variable {W V : World} {b off : Nat} {o : Rp}
theorem RpAt.f0 (h : RpAt W b off o) : (Instr.loadAt 3 (.pointer (some ⟨b, off, none⟩))).run Try.prog W = .ok (.int .i64 o.f) W := load_i64 h.1
theorem RpAt.f1 (h : RpAt W b off o) : (Instr.loadAt 3 (.pointer (some ⟨b, off + 1, none⟩))).run Try.prog W = .ok (.int .i64 o.r) W := load_i64 h.2.1
theorem RpAt.f2 (h : RpAt W b off o) : (Instr.loadAt 24 (.pointer (some ⟨b, off + 2, none⟩))).run Try.prog W = .ok (sv o.N) W := load_s h.2.2.1 h.2.2.2.1 h.2.2.2.2.1 h.2.2.2.2.2
end
theorem ext2_0 (a b : Value) (w : World) : (Instr.extract (.tuple #[a, b]) 0).run Try.prog w = .ok a w := by kernel_rfl
theorem ext2_1 (a b : Value) (w : World) : (Instr.extract (.tuple #[a, b]) 1).run Try.prog w = .ok b w := by kernel_rfl
/-- A reply is taken. -/
def tko (t : Tl) (o : Rp) : Tl := tk t o.f o.r o.N
def fto (t : Tl) (o : Rp) : Nat := fate t o.f o.r o.N
/-- Replies are taken, one behind the other. -/
def run (t : Tl) (l : List Rp) : Tl := l.foldl tko t
theorem run_succ (t : Tl) (l : List Rp) (k : Nat) (o : Rp) (h : l[k]? = some o) : run t (l.take (k + 1)) = tko (run t (l.take k)) o := by
  have e : l.take (k + 1) = l.take k ++ [o] := by rw [List.take_add_one, h]; rfl
  rw [e, run, List.foldl_append]
  rfl
theorem Tv.run {t : Tl} (h : Tv t) : ∀ (l : List Rp), (∀ o ∈ l, o.N < S128) → Tv (run t l) := by
  intro l
  induction l generalizing t with
  | nil => exact fun _ => h
  | cons o l ih => exact fun hl => ih (h.tk (hl o (by simp))) (fun x hx => hl x (by simp [hx]))
/-- Ahead of a Take, and behind it. -/
def Jt (w : World) (base q : Nat) (ad : Option Addr) (cap : Nat) (t : Tl) (o : Rp) (d : Bool) (V : World) : Prop := match d with
  | false => Below w.heap.size w V
  | true => ∃ ad' cap', Ta V base q ad' cap' (tko t o) ∧ Tn q (ob ad) (ob ad') w V ∧ (fto t o ≠ 5 → ad' = ad ∧ cap' = cap ∧ Below w.heap.size w V)
theorem Jt.go {w V : World} {base q cap : Nat} {ad : Option Addr} {t : Tl} {o : Rp} (h : Jt w base q ad cap t o false V) (hT : Ta w base q ad cap t) (hv : Tv t) (hb : base ≤ w.heap.size) (hN : o.N < S128) : Calls Try.prog 11 #[.pointer (some ⟨q, 0, none⟩), .int .i64 o.f, .int .i64 o.r, sv o.N] V fun e w' => e = .returned (.tuple #[.int .i64 (kd (fto t o)), .int .i64 (ke (fto t o))]) ∧ Jt w base q ad cap t o true w' := by
  have h' : Below w.heap.size w V := h
  refine (take_any (hT.carry h') hv (Nat.le_trans hb h'.size) o.f o.r o.N hN).mono ?_
  rintro e w' ⟨rfl, ad', cap', h1, h2, h3⟩
  exact ⟨rfl, ad', cap', h1, (Tn.of q _ h').trans h2, fun e => by obtain ⟨e1, e2, e3⟩ := h3 e; exact ⟨e1, e2, bel2 h' e3⟩⟩
/-- While all is looked at: the list that Heards tells. -/
def Jh (w : World) (l : List Nat) (g : Option Addr × Nat) (d : Bool) (V : World) : Prop := Below w.heap.size w V ∧ (d = true → RdS V g.1 l)
theorem Jh.carry {w V V' : World} {l : List Nat} {g : Option Addr × Nat} {d : Bool} (h : Jh w l g d V) (hb : Below V.heap.size V V') : Jh w l g d V' := ⟨bel2 h.1 hb, fun e => (h.2 e).carry hb⟩
end Go.Proofs.Ytcdefcaoocnlbaa
