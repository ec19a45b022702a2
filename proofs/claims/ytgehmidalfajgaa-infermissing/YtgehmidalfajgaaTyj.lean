/- In a round of TallyCut. -/
import Derived.Test.YtgehmidalfajgaaTyi
namespace Go.Proofs.Ytgehmidalfajgaa
open Go.RowKit Go.Shelf

/-- Who was counted, with which sets, beside the tally. -/
def Lw (w : World) (B q : Nat) (t : Tl) (c h : Value) (V : World) : Prop := ∃ ad cap aw cw ah ch wh, c = .slice aw t.hs.length cw ∧ h = .slice ah t.hs.length ch ∧ Ta V B q ad cap t ∧ Below w.heap.size w V ∧ V.ownsRow w.heap.size 24 4 (.slice aw t.hs.length cw) t.hs.length (fs t.hs) ∧ (∀ b, ob ad = some b → ob aw ≠ some b) ∧ V.ownsRow w.heap.size 3 1 (.slice ah t.hs.length ch) t.hs.length (inV wh) ∧ wh.length = t.hs.length ∧ Cw t wh
section
variable {w W V : World} {B q cap cw ch nn : Nat} {ad ad' aw ah : Option Addr} {t : Tl} {hs : List Nat} {wh : List Int} {xs : List Value}
theorem Lw.of (h0 : t.hs = hs) (h1 : hs.length = nn) (hT : Ta V B q ad cap t) (hB : Below w.heap.size w V) (hr : V.ownsRow w.heap.size 24 4 (.slice aw nn cw) nn (fs hs)) (hap : ∀ b, ob ad = some b → ob aw ≠ some b) (hi : V.ownsRow w.heap.size 3 1 (.slice ah nn ch) nn (inV wh)) (hn : wh.length = nn) (hc : Cw t wh) : Lw w B q t (.slice aw nn cw) (.slice ah nn ch) V := by
  subst h0 h1
  exact ⟨ad, cap, aw, cw, ah, ch, wh, rfl, rfl, hT, hB, hr, hap, hi, hn, hc⟩
theorem tn_row {base n : Nat} (hT : Ta W B q ad cap t) (hn : Tn q (ob ad) (ob ad') W V) (hr : W.ownsRow base 24 4 (.slice aw n cw) n xs) (hap : ∀ b, ob ad = some b → ob aw ≠ some b) : V.ownsRow base 24 4 (.slice aw n cw) n xs ∧ (∀ b, ob ad' = some b → ob aw ≠ some b) := by
  refine ⟨row_moved hr (fun b e => ?_), fun b e e2 => ?_⟩
  · rw [ob_eq] at e
    refine hn.block b (row_lt2 hr b (by rw [ob_eq]; exact e)).2 (fun h => ?_) (fun h => hap b h.symm e)
    subst h
    exact row_type hr hT.obj (by decide) (by rw [ob_eq]; exact e)
  · rcases hn.own with h | h
    · exact hap b (h.symm.trans e) e2
    · have h1 := h b e
      have h2 := (row_lt2 hr b (by rw [ob_eq]; exact e2)).2
      omega
theorem tn_rowI {base n : Nat} (hT : Ta W B q ad cap t) (hn : Tn q (ob ad) (ob ad') W V) (hr : W.ownsRow base 3 1 (.slice ah n ch) n xs) : V.ownsRow base 3 1 (.slice ah n ch) n xs := by
  refine row_moved hr (fun b e => ?_)
  obtain ⟨_, cur, h3⟩ := rowBlk hr b e
  exact (hT.stays hn h3 (by decide) (by decide)).trans h3.symm
theorem Lw.start {u : World} {N : Nat} {self : Int} (hT : Ta u B q ad cap t) (hb : Below w.heap.size w u) (hc : Cw t [self]) (hh : t.hs = [N]) : Lw w B q t (.slice (some ⟨u.heap.size, 0, none⟩) 1 1) (.slice (some ⟨u.heap.size + 1, 0, none⟩) 1 1) ((u.alloc (.cells #[.int .u32 (wd N 0 : Nat), .int .u32 (wd N 1 : Nat), .int .u32 (wd N 2 : Nat), .int .u32 (wd N 3 : Nat)] 24)).alloc (.cells #[.int .i64 self] 3)) := by
  have ha := al1' u (.cells #[.int .u32 (wd N 0 : Nat), .int .u32 (wd N 1 : Nat), .int .u32 (wd N 2 : Nat), .int .u32 (wd N 3 : Nat)] 24)
  have ha2 := al1' (u.alloc (.cells #[.int .u32 (wd N 0 : Nat), .int .u32 (wd N 1 : Nat), .int .u32 (wd N 2 : Nat), .int .u32 (wd N 3 : Nat)] 24)) (.cells #[.int .i64 self] 3)
  refine Lw.of hh rfl ((hT.carry ha).carry ha2) (bel2 (bel2 hb ha) ha2) (row_below (World.ownsRow_lit (base := w.heap.size) (e := 24) (size := 4) u _ 1 hb.size (by unfold maxLen; omega) (by simp)) ha2) (fun b e e2 => ?_) ?_ rfl hc
  · have h2 := (row_lt2 hT.row b (by rw [ob_eq]; exact e)).2
    simp [ob] at e2
    omega
  · have := World.ownsRow_lit (base := w.heap.size) (e := 3) (size := 1) (u.alloc (.cells #[.int .u32 (wd N 0 : Nat), .int .u32 (wd N 1 : Nat), .int .u32 (wd N 2 : Nat), .int .u32 (wd N 3 : Nat)] 24)) #[.int .i64 self] 1 (bel2 hb ha).size (by unfold maxLen; omega) (by simp)
    have e : (u.alloc (.cells #[.int .u32 (wd N 0 : Nat), .int .u32 (wd N 1 : Nat), .int .u32 (wd N 2 : Nat), .int .u32 (wd N 3 : Nat)] 24)).heap.size = u.heap.size + 1 := by simp
    rw [e] at this
    exact this
end
theorem eqB_t (x y : Operand) (w : World) (b : Bool) : binRun Try.prog .eql 4 x y (.bool b) (.bool b) w = .ok (.bool true) w := by cases b <;> kernel_rfl
theorem fto_4 {t : Tl} {o : Rp} (h : fto t o = 4) : rdy t = true := by
  unfold fto fate at h
  split at h
  · omega
  split at h
  · omega
  split at h
  · omega
  split at h
  · omega
  split at h
  · next e => exact e
  · omega
end Go.Proofs.Ytgehmidalfajgaa
