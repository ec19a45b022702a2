/- The play, looked at each time: what it answers. -/
import Derived.Test.YtjleggnkacmbbaaPyi
namespace Go.Proofs.Ytjleggnkacmbbaa
open Go.RowKit Go.Shelf Go.Lib

set_option maxHeartbeats 40000000 in
set_option maxRecDepth 100000 in
theorem play_tF (w : World) (first : Rec) (seq : Int) (ad : Option Addr) (cap : Nat) (l : List Ob) (w1 : RdH w w.heap.size ad l) (hl : l.length ≤ 100) (hfit : Fit first seq) : Calls Try.prog 17 #[rV first, .int .i64 seq, .slice ad l.length cap, .bool true] w fun e w' => e = .returned (.bool true) ∧ Below w.heap.size w w' := by
  have hmx : Try.prog.follows .mixedOrders = true := by kernel_rfl
  have hal := alive_any
  have hli : ¬ (100 : Int) < (l.length : Int) := by omega
  have hen := fun V => rEnc_any first seq V
  unfold rV at hen ⊢
  obtain ⟨wA, hwA⟩ : ∃ wA, w.alloc (.cells #[.int .i64 first.li, .int .i64 first.ro, .int .i64 first.ta] 36) = wA := ⟨_, rfl⟩
  have hbA : Below w.heap.size w wA := by rw [← hwA]; exact al1' _ _
  have hrec : wA.heap[w.heap.size]? = some (.cells #[.int .i64 first.li, .int .i64 first.ro, .int .i64 first.ta] 36 (0, 0)) := by rw [← hwA]; exact new_at rfl
  have hrn := rnew_any wA
  unfold rdV at hrn
  have hfz : Fz (dOf (img first seq)) := fun e => by cases e
  have hwz : (dOf (img first seq)).writes = 0 := rfl
  have hpo0 := fun Y p (hY : Dk Y p (dOf (img first seq))) => open_any hY hfz (by rw [hwz]; decide) (by rw [hwz]; decide)
  have hro0 := fun Y lb (r : Nat) (hY : RfD Y lb 0 w.heap.size r 256 (dOf (img first seq))) => rOpen_any hY hfz (by rw [hwz]; decide) (by rw [hwz]; decide)
  obtain ⟨i1, i2, i3, i4⟩ := Iv.open (M := 0) hfz (by rw [hwz]; decide) (by rw [hwz]; decide)
  obtain ⟨E, hE⟩ : ∃ E, (dOp (dOf (img first seq))).e = E := ⟨_, rfl⟩
  obtain ⟨dI, hdI⟩ : ∃ dI, (dOp (dOf (img first seq))).d = dI := ⟨_, rfl⟩
  obtain ⟨bI, hbI⟩ : ∃ bI, (dOp (dOf (img first seq))).b = bI := ⟨_, rfl⟩
  simp only [hE, hdI, hbI] at hpo0 hro0 i1 i2 i3 i4
  clear hE hdI hbI
  by_cases hz : E = 0
  case neg =>
    have hpo : ∀ Y p, Dk Y p (dOf (img first seq)) → Calls Try.prog 12 #[.pointer (some ⟨p, 0, none⟩)] Y fun e w' => e = .returned (.tuple #[.pointer none, .int .i64 E]) ∧ Dk w' p dI ∧ Tp p Y w' := fun Y p hY => (hpo0 Y p hY).mono (by rintro e w' ⟨_, h2, h3, h4⟩; exact ⟨h2 hz, h3, h4⟩)
    have hro : ∀ Y lb, ∀ {r : Nat}, RfD Y lb 0 w.heap.size r 256 (dOf (img first seq)) → Calls Try.prog 33 #[.pointer (some ⟨lb, 0, none⟩)] Y fun e w' => e = .returned (.tuple #[.agg #[.int .i64 0, .int .i64 0, .int .i64 0, .int .i64 0, .int .i64 0, .int .i64 0], .int .i64 E]) ∧ RfD w' lb 0 w.heap.size r 256 dI ∧ Tf lb 0 r Y w' := fun Y lb {r} hY => (hro0 Y lb r hY).mono (by rintro e w' ⟨_, h2, h3, h4⟩; exact ⟨h2 hz, h3, h4⟩)
    clear hpo0 hro0
    go_enter Try.func17, Try.ntmps17
    go_wp2_with (first | (go_at_call 30; (with_reducible refine hrn.mono ?_); rintro e vb ⟨r, rfl, hrg, hrow, hBb⟩; obtain ⟨vz, hvz⟩ : ∃ vz, vb.alloc (.cells #[.slice none 0 0, .bool false, .int .i64 0, .int .i64 0] 64) = vz := ⟨_, rfl⟩; have hgz : vz.heap[vb.heap.size]? = some (.cells #[.slice none 0 0, .bool false, .int .i64 0, .int .i64 0] 64 (0, 0)) := (by rw [← hvz]; exact new_at rfl); have hbz : Below vb.heap.size vb vz := (by rw [← hvz]; exact al1' _ _)) | (refine wpList_store_row rfl 64 (.tmp 9) (.tmp 24) rfl vb.heap.size #[.slice (some ⟨r, 0, none⟩) 256 256, .bool false, .int .i64 (-1), .int .i64 0] rfl rfl 64 _ hgz info_rd rfl (by simp [Value.oneCell']) ?_; obtain ⟨vc, hvc⟩ : ∃ vc, vz.setRow vb.heap.size #[.slice (some ⟨r, 0, none⟩) 256 256, .bool false, .int .i64 (-1), .int .i64 0] = vc := ⟨_, rfl⟩; have hgl : vc.heap[vb.heap.size]? = some (.cells #[.slice (some ⟨r, 0, none⟩) 256 256, .bool false, .int .i64 (-1), .int .i64 0] 64 (0, 0)) := (by rw [← hvc]; exact setRow_heap _ _ _ _ _ _ hgz); have hbc : Below vb.heap.size vb vc := (by rw [← hvc]; exact below_setRow hbz (Nat.le_refl _) _); have hBc := bel2 hBb hbc; have hrc := (hBc.block _ (lt_at hrec)).trans hrec; have hrw := (hbc.block _ (row_lt0 hrow)).trans (own_list hrow); have hen1 := hen vc; rw [hvc]) | (refine wpList_load_row rfl 36 (.tmp 4) rfl w.heap.size rfl 36 _ (0, 0) _ hrc undR rfl infoR ?_) | (go_at_call 31; (with_reducible refine hen1.mono ?_); rintro e vd ⟨hyes, -, hbd⟩; obtain ⟨ge, rfl, hge, hI1⟩ := hyes hfit; have hgl2 := (hbd.block _ (lt_at hgl)).trans hgl; have hrw2 := (hbd.block _ (lt_at hrw)).trans hrw; have cl0 := cell_at hgl2 0; simp at cl0) | (refine wpList_copy_own rfl _ _ _ _ rfl 5 Try.underlying62 infoB1 r 0 256 256 ⟨ge, 0, none⟩ 64 64 rfl rfl (cB d0.l).toArray 5 hrw2 (cB (slB first seq)) (by rw [cB_len, slB_len]; rfl) (b_src (im_at hI1)) (by rw [cz_s, cz_d]; omega) (cB_one _) ?_; rw [cpy_img]; obtain ⟨ve, hve⟩ : ∃ ve, vd.setRow r (cB (img first seq)).toArray = ve := ⟨_, rfl⟩; have hgl3 : ve.heap[vb.heap.size]? = some (.cells #[.slice (some ⟨r, 0, none⟩) 256 256, .bool false, .int .i64 (-1), .int .i64 0] 64 (0, 0)) := (by rw [← hve]; exact (setRow_other _ _ _ _ (show vb.heap.size ≠ r by have := row_lt0 hrow; omega)).trans hgl2); have hrw3 : ve.heap[r]? = some (.cells (cB (img first seq)).toArray 5 (0, 0)) := (by rw [← hve]; exact setRow_heap _ _ _ _ _ _ hrw2); have hBe : Below wA.heap.size wA ve := (by rw [← hve]; exact below_setRow (bel2 hBc hbd) hrg _); have cl1 := cell_at hgl3 0; simp at cl1; have hRe : RfD ve vb.heap.size 0 w.heap.size r 256 (dOf (img first seq)) := ⟨cell_at hgl3 0, cell_at hgl3 1, cell_at hgl3 2, cell_at hgl3 3, list_own hrw3 (img_len first seq) (Nat.le_trans hbA.size hrg), ⟨_, hgl3⟩, (img_len first seq), (img_byt first seq)⟩; have hof := of_ok r 0 256 (img first seq) ve (lt_at hrw3) (b_own (list_own (base := 0) hrw3 (img_len first seq) (Nat.zero_le _)) (Eq.symm (img_len first seq))) (img_len first seq) (img_byt first seq) (Nat.le_refl _); rw [hve]) | (go_at_call 32; (with_reducible refine hof.mono ?_); rintro e vf ⟨rfl, hDf, hltf, hBf⟩; have hRf := hRe.carry hBf; have hpv := hpo _ _ hDf) | (go_at_call 12; (with_reducible refine hpv.mono ?_); rintro e vg ⟨rfl, hDg, hTg⟩; have hne1 : vb.heap.size ≠ ve.heap.size := (fun e => by have := lt_at hgl3; omega); have hne2 : r ≠ ve.heap.size := (fun e => by have := lt_at hrw3; omega); have hRg := hRf.same (hTg.block _ hRf.lt.1 hne1) (hTg.block _ hRf.lt.2 hne2); have hrv := hro _ _ hRg) | (go_at_call 33; (with_reducible refine hrv.mono ?_); rintro e vh ⟨rfl, hRh, hTh⟩; obtain ⟨vi, hvi⟩ : ∃ vi, vh.alloc (.cells #[.int .i64 0, .int .i64 0, .int .i64 0, .int .i64 0, .int .i64 0, .int .i64 0] 71) = vi := ⟨_, rfl⟩; have hgi : vi.heap[vh.heap.size]? = some (.cells #[.int .i64 0, .int .i64 0, .int .i64 0, .int .i64 0, .int .i64 0, .int .i64 0] 71 (0, 0)) := (by rw [← hvi]; exact new_at rfl); have hbi : Below vh.heap.size vh vi := (by rw [← hvi]; exact al1' _ _)) | (refine wpList_store_row rfl 71 (.tmp 16) (.tmp 52) rfl vh.heap.size #[.int .i64 0, .int .i64 0, .int .i64 0, .int .i64 0, .int .i64 0, .int .i64 0] rfl rfl 71 _ hgi infoRB rfl (by simp [Value.oneCell']) ?_; obtain ⟨vj, hvj⟩ : ∃ vj, vi.setRow vh.heap.size #[.int .i64 0, .int .i64 0, .int .i64 0, .int .i64 0, .int .i64 0, .int .i64 0] = vj := ⟨_, rfl⟩; have hbj : Below vh.heap.size vh vj := (by rw [← hvj]; exact below_setRow hbi (Nat.le_refl _) _); rw [hvj]) | (go_at_call 9; (with_reducible refine (hal _).mono ?_); rintro e vl ⟨rfl, hbl⟩))
    go_ret
    refine ⟨rfl, ?_⟩
    have s0 := hbA.size
    have s1 := hBe.size
    have s2 := hBf.size
    have s3 := hTg.size
    have s4 := hTh.size
    have s6 := hBb.size
    have hbw : Below w.heap.size w vh := ((hbA.trans (hBe.mono s0)).trans ((hBf.mono (by omega)).trans (hTg.below (by omega) (by omega)))).trans (hTh.below (by omega) (by omega) (by omega))
    exact hbw.trans ((bel2 hbj hbl).mono hbw.size)
  subst hz
  have hIv : Iv dI bI (2 + 200 * ((0 : Nat) : Int)) := ⟨i1, i4 rfl, i2, by omega⟩
  have hpo : ∀ Y p, Dk Y p (dOf (img first seq)) → Calls Try.prog 12 #[.pointer (some ⟨p, 0, none⟩)] Y fun e w' => ∃ q, e = .returned (.tuple #[.pointer (some ⟨q, 0, none⟩), .int .i64 0]) ∧ Y.heap.size ≤ q ∧ Bt w' q (some ⟨p, 0, none⟩) bI ∧ Dk w' p dI ∧ Tp p Y w' := fun Y p hY => (hpo0 Y p hY).mono (by rintro e w' ⟨h1, _, h3, h4⟩; obtain ⟨q, rfl, hq, hb⟩ := h1 rfl; exact ⟨q, rfl, hq, hb, h3, h4⟩)
  have hro : ∀ Y lb, ∀ {r : Nat}, RfD Y lb 0 w.heap.size r 256 (dOf (img first seq)) → Calls Try.prog 33 #[.pointer (some ⟨lb, 0, none⟩)] Y fun e w' => e = .returned (.tuple #[.agg #[.int .i64 bI.r.li, .int .i64 bI.r.ro, .int .i64 bI.r.ta, .int .i64 bI.r.li, .int .i64 bI.ro, .int .i64 bI.ta], .int .i64 0]) ∧ RfD w' lb 0 w.heap.size r 256 dI ∧ Tf lb 0 r Y w' := fun Y lb {r} hY => (hro0 Y lb r hY).mono (by rintro e w' ⟨h1, _, h3, h4⟩; exact ⟨h1 rfl, h3, h4⟩)
  clear hpo0 hro0 i1 i2 i3 i4
  go_enter Try.func17, Try.ntmps17
  go_wp2_with (first | (go_at_call 30; (with_reducible refine hrn.mono ?_); rintro e vb ⟨r, rfl, hrg, hrow, hBb⟩; obtain ⟨vz, hvz⟩ : ∃ vz, vb.alloc (.cells #[.slice none 0 0, .bool false, .int .i64 0, .int .i64 0] 64) = vz := ⟨_, rfl⟩; have hgz : vz.heap[vb.heap.size]? = some (.cells #[.slice none 0 0, .bool false, .int .i64 0, .int .i64 0] 64 (0, 0)) := (by rw [← hvz]; exact new_at rfl); have hbz : Below vb.heap.size vb vz := (by rw [← hvz]; exact al1' _ _)) | (refine wpList_store_row rfl 64 (.tmp 9) (.tmp 24) rfl vb.heap.size #[.slice (some ⟨r, 0, none⟩) 256 256, .bool false, .int .i64 (-1), .int .i64 0] rfl rfl 64 _ hgz info_rd rfl (by simp [Value.oneCell']) ?_; obtain ⟨vc, hvc⟩ : ∃ vc, vz.setRow vb.heap.size #[.slice (some ⟨r, 0, none⟩) 256 256, .bool false, .int .i64 (-1), .int .i64 0] = vc := ⟨_, rfl⟩; have hgl : vc.heap[vb.heap.size]? = some (.cells #[.slice (some ⟨r, 0, none⟩) 256 256, .bool false, .int .i64 (-1), .int .i64 0] 64 (0, 0)) := (by rw [← hvc]; exact setRow_heap _ _ _ _ _ _ hgz); have hbc : Below vb.heap.size vb vc := (by rw [← hvc]; exact below_setRow hbz (Nat.le_refl _) _); have hBc := bel2 hBb hbc; have hrc := (hBc.block _ (lt_at hrec)).trans hrec; have hrw := (hbc.block _ (row_lt0 hrow)).trans (own_list hrow); have hen1 := hen vc; rw [hvc]) | (refine wpList_load_row rfl 36 (.tmp 4) rfl w.heap.size rfl 36 _ (0, 0) _ hrc undR rfl infoR ?_) | (go_at_call 31; (with_reducible refine hen1.mono ?_); rintro e vd ⟨hyes, -, hbd⟩; obtain ⟨ge, rfl, hge, hI1⟩ := hyes hfit; have hgl2 := (hbd.block _ (lt_at hgl)).trans hgl; have hrw2 := (hbd.block _ (lt_at hrw)).trans hrw; have cl0 := cell_at hgl2 0; simp at cl0) | (refine wpList_copy_own rfl _ _ _ _ rfl 5 Try.underlying62 infoB1 r 0 256 256 ⟨ge, 0, none⟩ 64 64 rfl rfl (cB d0.l).toArray 5 hrw2 (cB (slB first seq)) (by rw [cB_len, slB_len]; rfl) (b_src (im_at hI1)) (by rw [cz_s, cz_d]; omega) (cB_one _) ?_; rw [cpy_img]; obtain ⟨ve, hve⟩ : ∃ ve, vd.setRow r (cB (img first seq)).toArray = ve := ⟨_, rfl⟩; have hgl3 : ve.heap[vb.heap.size]? = some (.cells #[.slice (some ⟨r, 0, none⟩) 256 256, .bool false, .int .i64 (-1), .int .i64 0] 64 (0, 0)) := (by rw [← hve]; exact (setRow_other _ _ _ _ (show vb.heap.size ≠ r by have := row_lt0 hrow; omega)).trans hgl2); have hrw3 : ve.heap[r]? = some (.cells (cB (img first seq)).toArray 5 (0, 0)) := (by rw [← hve]; exact setRow_heap _ _ _ _ _ _ hrw2); have hBe : Below wA.heap.size wA ve := (by rw [← hve]; exact below_setRow (bel2 hBc hbd) hrg _); have cl1 := cell_at hgl3 0; simp at cl1; have hRe : RfD ve vb.heap.size 0 w.heap.size r 256 (dOf (img first seq)) := ⟨cell_at hgl3 0, cell_at hgl3 1, cell_at hgl3 2, cell_at hgl3 3, list_own hrw3 (img_len first seq) (Nat.le_trans hbA.size hrg), ⟨_, hgl3⟩, (img_len first seq), (img_byt first seq)⟩; have hof := of_ok r 0 256 (img first seq) ve (lt_at hrw3) (b_own (list_own (base := 0) hrw3 (img_len first seq) (Nat.zero_le _)) (Eq.symm (img_len first seq))) (img_len first seq) (img_byt first seq) (Nat.le_refl _); rw [hve]) | (go_at_call 32; (with_reducible refine hof.mono ?_); rintro e vf ⟨rfl, hDf, hltf, hBf⟩; have hRf := hRe.carry hBf; have hpv := hpo _ _ hDf) | (go_at_call 12; (with_reducible refine hpv.mono ?_); rintro e vg ⟨qI, rfl, hqI, hBg, hDg, hTg⟩; have hne1 : vb.heap.size ≠ ve.heap.size := (fun e => by have := lt_at hgl3; omega); have hne2 : r ≠ ve.heap.size := (fun e => by have := lt_at hrw3; omega); have hRg := hRf.same (hTg.block _ hRf.lt.1 hne1) (hTg.block _ hRf.lt.2 hne2); have hrv := hro _ _ hRg) | (go_at_call 33; (with_reducible refine hrv.mono ?_); rintro e vh ⟨rfl, hRh, hTh⟩; obtain ⟨vi, hvi⟩ : ∃ vi, vh.alloc (.cells #[.int .i64 0, .int .i64 0, .int .i64 0, .int .i64 0, .int .i64 0, .int .i64 0] 71) = vi := ⟨_, rfl⟩; have hgi : vi.heap[vh.heap.size]? = some (.cells #[.int .i64 0, .int .i64 0, .int .i64 0, .int .i64 0, .int .i64 0, .int .i64 0] 71 (0, 0)) := (by rw [← hvi]; exact new_at rfl); have hbi : Below vh.heap.size vh vi := (by rw [← hvi]; exact al1' _ _)) | (refine wpList_store_row rfl 71 (.tmp 16) (.tmp 52) rfl vh.heap.size #[.int .i64 bI.r.li, .int .i64 bI.r.ro, .int .i64 bI.r.ta, .int .i64 bI.r.li, .int .i64 bI.ro, .int .i64 bI.ta] rfl rfl 71 _ hgi infoRB rfl (by simp [Value.oneCell']) ?_; obtain ⟨vj, hvj⟩ : ∃ vj, vi.setRow vh.heap.size #[.int .i64 bI.r.li, .int .i64 bI.r.ro, .int .i64 bI.r.ta, .int .i64 bI.r.li, .int .i64 bI.ro, .int .i64 bI.ta] = vj := ⟨_, rfl⟩; have hbj : Below vh.heap.size vh vj := (by rw [← hvj]; exact below_setRow hbi (Nat.le_refl _) _); have hrj : vj.heap[vh.heap.size]? = some (.cells #[.int .i64 bI.r.li, .int .i64 bI.r.ro, .int .i64 bI.r.ta, .int .i64 bI.r.li, .int .i64 bI.ro, .int .i64 bI.ta] 71 (0, 0)) := (by rw [← hvj]; exact setRow_heap _ _ _ _ _ _ hgi); obtain ⟨vk, hvk⟩ : ∃ vk, vj.alloc (.cells #[.pointer (some ⟨qI, 0, none⟩), .pointer (some ⟨ve.heap.size, 0, none⟩), .int .i64 bI.r.li, .int .i64 bI.r.ro, .int .i64 bI.r.ta, .int .i64 bI.r.li, .int .i64 bI.ro, .int .i64 bI.ta, .pointer (some ⟨vb.heap.size, 0, none⟩)] 77) = vk := ⟨_, rfl⟩; have hbk : Below vj.heap.size vj vk := (by rw [← hvk]; exact al1' _ _); have hBB : BB vk vj.heap.size qI ve.heap.size vb.heap.size bI := (by rw [← hvk]; exact new_at rfl); have s0 := hbA.size; have s1 := hBe.size; have s2 := hBf.size; have s3 := hTg.size; have s4 := hTh.size; have s5 := hbj.size; have s6 := hBb.size; have hlr := row_lt0 hrow; have hle3 := lt_at hgl3; have hrr3 := lt_at hrw3; have hBh : Bt vh qI (some ⟨ve.heap.size, 0, none⟩) bI := (hTh.block _ (lt_at hBg) (by omega) (by omega)).trans hBg; have hDh : Dk vh ve.heap.size dI := ⟨(hTh.block _ hDg.lt (Ne.symm hne1) (Ne.symm hne2)).trans hDg.obj, hDg.len, hDg.byt⟩; have hjk := bel2 hbj hbk; have hbw : Below w.heap.size w vh := ((hbA.trans (hBe.mono s0)).trans ((hBf.mono (by omega)).trans (hTg.below (by omega) (by omega)))).trans (hTh.below (by omega) (by omega) (by omega)); have hPI : P2 w vj.heap.size qI ve.heap.size vb.heap.size r 256 bI dI bI dI vk := ⟨hBB, hBh.carry hjk, hDh.carry hjk, hRh.carry hjk, hbw.trans (hjk.mono hbw.size), by omega, by omega, by omega, by omega⟩; rw [hvj]) | (refine wpList_load_row rfl 71 (.tmp 16) rfl vh.heap.size rfl 71 _ (0, 0) _ hrj undRB rfl infoRB ?_))
  go_loopw [19] (fun i wz => ∃ (m : Nat) (b : Bo) (d : Dst), i = .int .i64 (m : Int) ∧ m ≤ l.length ∧ Iv d b (2 + 200 * (m : Int)) ∧ ∃ q, P2 w vj.heap.size q ve.heap.size vb.heap.size r 256 b d b d wz) (fun i _ => l.length - vnat i)
  case atStart => exact ⟨0, bI, dI, rfl, Nat.zero_le _, hIv, qI, hPI⟩
  case round =>
    clear hPI
    obtain ⟨m, b0, d0, rfl, hm, hI, q, hP⟩ := hrel
    by_cases hml : m < l.length
    case neg =>
      have hmi : ¬ (m : Int) < (l.length : Int) := by omega
      have hlo := fun Y (hb : Below wr.heap.size wr Y) => looks_any (hP.carry hb)
      go_wp2_with (first | (go_at_call 9; (with_reducible refine (hal _).mono ?_); rintro e vz ⟨rfl, hbz⟩; have hl2 := hlo _ hbz) | (go_at_call 35; (with_reducible refine hl2.mono ?_); rintro e vy ⟨rfl, hby⟩))
      go_ret
      exact ⟨rfl, hP.bl.trans ((bel2 hbz hby).mono hP.bl.size)⟩
    have hmi : (m : Int) < (l.length : Int) := by omega
    obtain ⟨o, hx⟩ : ∃ o, l[m]? = some o := ⟨_, List.getElem?_eq_getElem hml⟩
    obtain ⟨bo, offo, e1, hbl, hop, hwf, hwf2⟩ := w1 m o hx
    subst e1
    obtain ⟨ok, oa⟩ := o
    have hoa := bounds_hi2 hwf2
    dsimp only at hoa
    have HOP : Hid (ObAt w bo (offo + m * 2) ⟨ok, oa⟩) := hop
    have hIM : 2 + 200 * (m : Int) ≤ 1000000 := by omega
    have hI1 := (hI.st ⟨ok, oa⟩ hoa).up (show 2 + 200 * (m : Int) + 200 ≤ 2 + 200 * ((m + 1 : Nat) : Int) by omega)
    obtain ⟨b1, hb1e⟩ : ∃ b1, (dSt ⟨ok, oa⟩ d0 b0).2 = b1 := ⟨_, rfl⟩
    obtain ⟨d1, hd1e⟩ : ∃ d1, (dSt ⟨ok, oa⟩ d0 b0).1 = d1 := ⟨_, rfl⟩
    have HB1 : Hid ((dSt ⟨ok, oa⟩ d0 b0).2 = b1) := hb1e
    have HD1 : Hid ((dSt ⟨ok, oa⟩ d0 b0).1 = d1) := hd1e
    rw [hb1e, hd1e] at hI1
    clear hb1e hd1e hop hx hwf hwf2
    go_wp2
    rename_i hK
    refine wp_region_any hmx ?_
    refine wpAny_tabG (G := (Nat × Nat)) (fun g i__ => ([(.pointer (some ⟨vj.heap.size, 0, none⟩)), (.slice (some ⟨bo, offo, none⟩) l.length cap), (.int .i64 (m : Int)), (.pointer (some ⟨bo, offo + m * 2, none⟩)), (.agg #[.int .i64 ok, .int .i64 oa]), (.bool true), (.bool false), (.bool false), (.bool true), (.bool true), (.pointer (some ⟨vj.heap.size, 0, none⟩)), (.bool true), (.bool false), (.bool false), (.bool false), (.bool false), (.pointer (some ⟨ve.heap.size, 0, none⟩)), (.slice (some ⟨g.1, 0, none⟩) 256 g.2), (.pointer (some ⟨vb.heap.size, 0, none⟩)), (.slice (some ⟨r, 0, none⟩) 256 256), (.bool true), (.bool false), (.bool false), (.bool false), (.pointer (some ⟨ve.heap.size, 0, none⟩)), (.int .i64 d1.writes), (.pointer (some ⟨vb.heap.size, 3, none⟩)), (.int .i64 d1.writes), (.bool false), (.bool false), (.bool false), (.pointer (some ⟨ve.heap.size, 0, none⟩)), (.bool (!d1.off)), (.pointer (some ⟨vb.heap.size, 1, none⟩)), (.bool d1.off), (.bool false), (.bool false)] : List Value).getD i__ undef) (fun y f V => JL w vj.heap.size ve.heap.size vb.heap.size r b0 b1 d0 d1 y (f 5) (f 17) V) (by kernel_rfl) ((0, 0)) (show JL w vj.heap.size ve.heap.size vb.heap.size r b0 b1 d0 d1 (0, 0) false false _ from JL.carry ⟨⟨q, hP⟩, fun e => (by cases e)⟩ (Below.refl _ _).drew) ?step1 ?fin1
    case step1 =>
      intro i o ho
      have hi : i < 37 := getElem?_lt ho
      match i, hi, ho with
      | 0, _, ho =>
        cases ho
        refine stepG_ofC (fun g d hun hdep hcl => ?_)
        exact step_move rfl trivial _ rfl (by kernel_rfl)
      | 1, _, ho =>
        cases ho
        refine stepG_ofC (fun g d hun hdep hcl => ?_)
        exact step_move rfl trivial _ rfl (by kernel_rfl)
      | 2, _, ho =>
        cases ho
        refine stepG_ofC (fun g d hun hdep hcl => ?_)
        exact step_move rfl trivial _ rfl (by kernel_rfl)
      | 3, _, ho =>
        cases ho
        refine stepG_ofC (fun g d hun hdep hcl => ?_)
        exact step_indexAddr rfl trivial _ _ _ _ _ rfl rfl rfl (fun v hw => idx_ob hml)
      | 4, _, ho =>
        cases ho
        refine stepG_ofC (fun g d hun hdep hcl => ?_)
        exact step_load rfl trivial _ _ _ rfl rfl (fun v hw => load_ob (HOP.out.carry hw.bl hbl))
      | 5, _, ho =>
        cases ho
        refine stepG_ofC (fun g d hun hdep hcl => ?_)
        exact step_call rfl trivial 34 _ _ [(.pointer (some ⟨vj.heap.size, 0, none⟩)), (.agg #[.int .i64 ok, .int .i64 oa])] rfl (by kernel_rfl) (enters_of Try.func34 (by kernel_rfl) rfl) (fun v hw => by have h17 : d 17 = false := (by cases h : d 17 with | false => rfl | true => exact absurd ((hcl 7 _ rfl (hcl 14 _ rfl (hcl 15 _ rfl (hcl 17 _ rfl h 15 (by kernel_rfl)) 14 (by kernel_rfl)) 7 (by kernel_rfl)) 5 (by kernel_rfl))) (by rw [hun]; simp)); have hw2 := hw; rw [hun, h17] at hw2; obtain ⟨⟨q, hP'⟩, _⟩ := hw2; have hP2 : P2 w vj.heap.size q ve.heap.size vb.heap.size r 256 b0 d0 b0 d0 v := hP'; exact (step_any hP2 ⟨ok, oa⟩ hI hIM).mono (by rintro e w' ⟨rfl, q', h2⟩; refine ⟨rfl, ?_⟩; show JL w vj.heap.size ve.heap.size vb.heap.size r b0 b1 d0 d1 g true (d 17) w'; rw [h17]; rw [HB1.out, HD1.out] at h2; exact ⟨⟨q', h2⟩, fun e => (by cases e)⟩))
      | 6, _, ho =>
        cases ho
        refine stepG_ofC (fun g d hun hdep hcl => ?_)
        exact step_unOp rfl trivial _ _ _ _ rfl rfl (fun v hw => un_not true v)
      | 7, _, ho =>
        cases ho
        refine stepG_ofC (fun g d hun hdep hcl => ?_)
        exact step_move rfl trivial _ rfl (by kernel_rfl)
      | 8, _, ho =>
        cases ho
        refine stepG_ofC (fun g d hun hdep hcl => ?_)
        exact step_move rfl (by exact ⟨_, rfl, by kernel_rfl⟩) _ rfl (by kernel_rfl)
      | 9, _, ho =>
        cases ho
        refine stepG_ofC (fun g d hun hdep hcl => ?_)
        exact step_move rfl (by exact ⟨_, rfl, by kernel_rfl⟩) _ rfl (by kernel_rfl)
      | 10, _, ho =>
        cases ho
        refine stepG_ofC (fun g d hun hdep hcl => ?_)
        exact step_move rfl (by exact ⟨_, rfl, by kernel_rfl⟩) _ rfl (by kernel_rfl)
      | 11, _, ho =>
        cases ho
        refine stepG_ofC (fun g d hun hdep hcl => ?_)
        exact step_call rfl (by exact ⟨_, rfl, by kernel_rfl⟩) 35 _ _ [(.pointer (some ⟨vj.heap.size, 0, none⟩))] rfl (by kernel_rfl) (enters_of Try.func35 (by kernel_rfl) rfl) (fun v hw => by have h5 : d 5 = true := (hcl 7 _ rfl (hcl 9 _ rfl (hdep 9 (by kernel_rfl)) 7 (by kernel_rfl)) 5 (by kernel_rfl)); have hw2 := hw; rw [h5] at hw2; obtain ⟨q, hP⟩ := hw2.on; exact (looks_any hP).mono (by rintro e w' ⟨rfl, hb⟩; exact ⟨rfl, hw.carry hb⟩))
      | 12, _, ho =>
        cases ho
        refine stepG_ofC (fun g d hun hdep hcl => ?_)
        exact step_unOp rfl (by exact ⟨_, rfl, by kernel_rfl⟩) _ _ _ _ rfl rfl (fun v hw => un_not true v)
      | 13, _, ho =>
        cases ho
        refine stepG_ofC (fun g d hun hdep hcl => ?_)
        exact step_pick rfl (by exact ⟨_, rfl, by kernel_rfl⟩) _ _ _ true rfl (by kernel_rfl) (by kernel_rfl)
      | 14, _, ho =>
        cases ho
        refine stepG_ofC (fun g d hun hdep hcl => ?_)
        exact step_pick rfl trivial _ _ _ false rfl (by kernel_rfl) (by kernel_rfl)
      | 15, _, ho =>
        cases ho
        refine stepG_ofC (fun g d hun hdep hcl => ?_)
        exact step_move rfl trivial _ rfl (by kernel_rfl)
      | 16, _, ho =>
        cases ho
        refine stepG_ofC (fun g d hun hdep hcl => ?_)
        exact step_move rfl (by exact ⟨_, rfl, by kernel_rfl⟩) _ rfl (by kernel_rfl)
      | 17, _, ho =>
        cases ho
        exact stepG_call rfl (fun _ => (by exact ⟨_, rfl, by kernel_rfl⟩)) 37 _ _ (fun _ => [.pointer (some ⟨ve.heap.size, 0, none⟩)]) rfl (fun g => by kernel_rfl) (enters_of Try.func37 (by kernel_rfl) rfl) (fun g d V hJ hun hdep hcl => by have h5 : d 5 = true := (hcl 7 _ rfl (hcl 14 _ rfl (hcl 15 _ rfl (hdep 15 (by kernel_rfl)) 14 (by kernel_rfl)) 7 (by kernel_rfl)) 5 (by kernel_rfl)); have hJ2 := hJ; rw [h5] at hJ2; obtain ⟨q, hP'⟩ := hJ2.on; exact (image_any hP'.dk).mono (by rintro e V' ⟨g2, c2, rfl, ho, hb⟩; refine ⟨(g2, c2), rfl, (fun j hj => match j, hj with | 17, hj => (by rw [hj] at hun; cases hun)  | 0, _ => rfl | 1, _ => rfl | 2, _ => rfl | 3, _ => rfl | 4, _ => rfl | 5, _ => rfl | 6, _ => rfl | 7, _ => rfl | 8, _ => rfl | 9, _ => rfl | 10, _ => rfl | 11, _ => rfl | 12, _ => rfl | 13, _ => rfl | 14, _ => rfl | 15, _ => rfl | 16, _ => rfl | 18, _ => rfl | 19, _ => rfl | 20, _ => rfl | 21, _ => rfl | 22, _ => rfl | 23, _ => rfl | 24, _ => rfl | 25, _ => rfl | 26, _ => rfl | 27, _ => rfl | 28, _ => rfl | 29, _ => rfl | 30, _ => rfl | 31, _ => rfl | 32, _ => rfl | 33, _ => rfl | 34, _ => rfl | 35, _ => rfl | 36, _ => rfl | _ + 37, _ => rfl), ?_⟩; show JL w vj.heap.size ve.heap.size vb.heap.size r b0 b1 d0 d1 (g2, c2) (d 5) true V'; rw [h5]; exact ⟨⟨q, hP'.carry hb⟩, fun _ => ⟨b_own ho hP'.dk.len.symm, row_lt0 ho⟩⟩))
      | 18, _, ho =>
        cases ho
        refine stepG_ofC (fun g d hun hdep hcl => ?_)
        exact step_fieldAddr rfl (by exact ⟨_, rfl, by kernel_rfl⟩) _ _ _ _ rfl rfl (fun v hw => field_rd0 v _ _)
      | 19, _, ho =>
        cases ho
        refine stepG_ofC (fun g d hun hdep hcl => ?_)
        exact step_load rfl (by exact ⟨_, rfl, by kernel_rfl⟩) _ _ _ rfl rfl (fun v hw => load_sl hw.slc)
      | 20, _, ho =>
        cases ho
        refine stepG_ofC (fun g d hun hdep hcl => ?_)
        exact step_call rfl (by exact ⟨_, rfl, by kernel_rfl⟩) 36 _ _ [(.slice (some ⟨g.1, 0, none⟩) 256 g.2), (.slice (some ⟨r, 0, none⟩) 256 256)] rfl (by kernel_rfl) (enters_of Try.func36 (by kernel_rfl) rfl) (fun v hw => by have h5 : d 5 = true := (hcl 7 _ rfl (hcl 14 _ rfl (hcl 15 _ rfl (hdep 15 (by kernel_rfl)) 14 (by kernel_rfl)) 7 (by kernel_rfl)) 5 (by kernel_rfl)); have h17 : d 17 = true := hdep 17 (by kernel_rfl); have hw2 := hw; rw [h5, h17] at hw2; exact hw2.same.mono (by rintro e w' ⟨rfl, hb⟩; exact ⟨rfl, hw.carry hb⟩))
      | 21, _, ho =>
        cases ho
        refine stepG_ofC (fun g d hun hdep hcl => ?_)
        exact step_unOp rfl (by exact ⟨_, rfl, by kernel_rfl⟩) _ _ _ _ rfl rfl (fun v hw => un_not true v)
      | 22, _, ho =>
        cases ho
        refine stepG_ofC (fun g d hun hdep hcl => ?_)
        exact step_pick rfl trivial _ _ _ false rfl (by kernel_rfl) (by kernel_rfl)
      | 23, _, ho =>
        cases ho
        refine stepG_ofC (fun g d hun hdep hcl => ?_)
        exact step_move rfl trivial _ rfl (by kernel_rfl)
      | 24, _, ho =>
        cases ho
        refine stepG_ofC (fun g d hun hdep hcl => ?_)
        exact step_move rfl (by exact ⟨_, rfl, by kernel_rfl⟩) _ rfl (by kernel_rfl)
      | 25, _, ho =>
        cases ho
        refine stepG_ofC (fun g d hun hdep hcl => ?_)
        exact step_call rfl (by exact ⟨_, rfl, by kernel_rfl⟩) 14 _ _ [(.pointer (some ⟨ve.heap.size, 0, none⟩))] rfl (by kernel_rfl) (enters_of Try.func14 (by kernel_rfl) rfl) (fun v hw => by have h5 : d 5 = true := (hcl 7 _ rfl (hcl 14 _ rfl (hcl 15 _ rfl (hcl 22 _ rfl (hcl 23 _ rfl (hdep 23 (by kernel_rfl)) 22 (by kernel_rfl)) 15 (by kernel_rfl)) 14 (by kernel_rfl)) 7 (by kernel_rfl)) 5 (by kernel_rfl)); have hw2 := hw; rw [h5] at hw2; obtain ⟨q, hP'⟩ := hw2.on; exact (writes_any hP'.dk).mono (by rintro e w' ⟨rfl, rfl⟩; exact ⟨rfl, hw⟩))
      | 26, _, ho =>
        cases ho
        refine stepG_ofC (fun g d hun hdep hcl => ?_)
        exact step_fieldAddr rfl (by exact ⟨_, rfl, by kernel_rfl⟩) _ _ _ _ rfl rfl (fun v hw => field_rd3 v _)
      | 27, _, ho =>
        cases ho
        refine stepG_ofC (fun g d hun hdep hcl => ?_)
        exact step_load rfl (by exact ⟨_, rfl, by kernel_rfl⟩) _ _ _ rfl rfl (fun v hw => by have h5 : d 5 = true := (hcl 7 _ rfl (hcl 14 _ rfl (hcl 15 _ rfl (hcl 22 _ rfl (hcl 23 _ rfl (hdep 23 (by kernel_rfl)) 22 (by kernel_rfl)) 15 (by kernel_rfl)) 14 (by kernel_rfl)) 7 (by kernel_rfl)) 5 (by kernel_rfl)); have hw2 := hw; rw [h5] at hw2; obtain ⟨q, hP'⟩ := hw2.on; exact load_i64 hP'.rf.n)
      | 28, _, ho =>
        cases ho
        refine stepG_ofC (fun g d hun hdep hcl => ?_)
        exact step_binOp rfl (by exact ⟨_, rfl, by kernel_rfl⟩) _ _ _ _ _ _ _ rfl rfl rfl (fun v hw => neqK_f _ _)
      | 29, _, ho =>
        cases ho
        refine stepG_ofC (fun g d hun hdep hcl => ?_)
        exact step_pick rfl trivial _ _ _ false rfl (by kernel_rfl) (by kernel_rfl)
      | 30, _, ho =>
        cases ho
        refine stepG_ofC (fun g d hun hdep hcl => ?_)
        exact step_move rfl trivial _ rfl (by kernel_rfl)
      | 31, _, ho =>
        cases ho
        refine stepG_ofC (fun g d hun hdep hcl => ?_)
        exact step_move rfl (by exact ⟨_, rfl, by kernel_rfl⟩) _ rfl (by kernel_rfl)
      | 32, _, ho =>
        cases ho
        refine stepG_ofC (fun g d hun hdep hcl => ?_)
        exact step_call rfl (by exact ⟨_, rfl, by kernel_rfl⟩) 38 _ _ [(.pointer (some ⟨ve.heap.size, 0, none⟩))] rfl (by kernel_rfl) (enters_of Try.func38 (by kernel_rfl) rfl) (fun v hw => by have h5 : d 5 = true := (hcl 7 _ rfl (hcl 14 _ rfl (hcl 15 _ rfl (hcl 22 _ rfl (hcl 23 _ rfl (hcl 29 _ rfl (hcl 30 _ rfl (hdep 30 (by kernel_rfl)) 29 (by kernel_rfl)) 23 (by kernel_rfl)) 22 (by kernel_rfl)) 15 (by kernel_rfl)) 14 (by kernel_rfl)) 7 (by kernel_rfl)) 5 (by kernel_rfl)); have hw2 := hw; rw [h5] at hw2; obtain ⟨q, hP'⟩ := hw2.on; exact (on_any hP'.dk).mono (by rintro e w' ⟨rfl, rfl⟩; exact ⟨rfl, hw⟩))
      | 33, _, ho =>
        cases ho
        refine stepG_ofC (fun g d hun hdep hcl => ?_)
        exact step_fieldAddr rfl (by exact ⟨_, rfl, by kernel_rfl⟩) _ _ _ _ rfl rfl (fun v hw => field_rd1 v _)
      | 34, _, ho =>
        cases ho
        refine stepG_ofC (fun g d hun hdep hcl => ?_)
        exact step_load rfl (by exact ⟨_, rfl, by kernel_rfl⟩) _ _ _ rfl rfl (fun v hw => by have h5 : d 5 = true := (hcl 7 _ rfl (hcl 14 _ rfl (hcl 15 _ rfl (hcl 22 _ rfl (hcl 23 _ rfl (hcl 29 _ rfl (hcl 30 _ rfl (hdep 30 (by kernel_rfl)) 29 (by kernel_rfl)) 23 (by kernel_rfl)) 22 (by kernel_rfl)) 15 (by kernel_rfl)) 14 (by kernel_rfl)) 7 (by kernel_rfl)) 5 (by kernel_rfl)); have hw2 := hw; rw [h5] at hw2; obtain ⟨q, hP'⟩ := hw2.on; exact load_bo hP'.rf.f)
      | 35, _, ho =>
        cases ho
        refine stepG_ofC (fun g d hun hdep hcl => ?_)
        exact step_binOp rfl (by exact ⟨_, rfl, by kernel_rfl⟩) _ _ _ _ _ _ _ rfl rfl rfl (fun v hw => eqB_f _ _ _ _)
      | 36, _, ho =>
        cases ho
        refine stepG_ofC (fun g d hun hdep hcl => ?_)
        exact step_pick rfl trivial _ _ _ false rfl (by kernel_rfl) (by kernel_rfl)
    intro g d W hall hW
    first | refine hK _ _ ?_ | refine (‹∀ (a : Act) (w : World), Code.wp Try.prog _ _ a w → _›) _ _ ?_ | skip
    simp only [finL, List.getD_cons_zero, List.getD_cons_succ, Nat.zero_add, Nat.reduceAdd, List.setIfInBounds_toArray, List.set_cons_zero, List.set_cons_succ]
    rw [hall 5 (by decide)] at hW
    obtain ⟨q9, hP9⟩ := hW.on
    clear hK hW hall
    go_wp2
    go_roundw
    case rel => exact ⟨m + 1, b1, d1, by simp, by omega, hI1, q9, hP9⟩
    case measure => simp [vnat]; omega
set_option maxHeartbeats 40000000 in
set_option maxRecDepth 100000 in
theorem play_tN (w : World) (first : Rec) (seq : Int) (ad : Option Addr) (cap : Nat) (l : List Ob) (w1 : RdH w w.heap.size ad l) (hl : l.length ≤ 100) (hfit : ¬ Fit first seq) : Calls Try.prog 17 #[rV first, .int .i64 seq, .slice ad l.length cap, .bool true] w fun e w' => e = .returned (.bool true) ∧ Below w.heap.size w w' := by
  have hmx : Try.prog.follows .mixedOrders = true := by kernel_rfl
  have hal := alive_any
  have hli : ¬ (100 : Int) < (l.length : Int) := by omega
  have hen := fun V => rEnc_any first seq V
  unfold rV at hen ⊢
  obtain ⟨wA, hwA⟩ : ∃ wA, w.alloc (.cells #[.int .i64 first.li, .int .i64 first.ro, .int .i64 first.ta] 36) = wA := ⟨_, rfl⟩
  have hbA : Below w.heap.size w wA := by rw [← hwA]; exact al1' _ _
  have hrec : wA.heap[w.heap.size]? = some (.cells #[.int .i64 first.li, .int .i64 first.ro, .int .i64 first.ta] 36 (0, 0)) := by rw [← hwA]; exact new_at rfl
  have hrn := rnew_any wA
  unfold rdV at hrn
  have hfz : Fz (dOf (d0.l)) := fun e => by cases e
  have hwz : (dOf (d0.l)).writes = 0 := rfl
  have hpo0 := fun Y p (hY : Dk Y p (dOf (d0.l))) => open_any hY hfz (by rw [hwz]; decide) (by rw [hwz]; decide)
  have hro0 := fun Y lb (r : Nat) (hY : RfD Y lb 0 w.heap.size r 256 (dOf (d0.l))) => rOpen_any hY hfz (by rw [hwz]; decide) (by rw [hwz]; decide)
  obtain ⟨i1, i2, i3, i4⟩ := Iv.open (M := 0) hfz (by rw [hwz]; decide) (by rw [hwz]; decide)
  obtain ⟨E, hE⟩ : ∃ E, (dOp (dOf (d0.l))).e = E := ⟨_, rfl⟩
  obtain ⟨dI, hdI⟩ : ∃ dI, (dOp (dOf (d0.l))).d = dI := ⟨_, rfl⟩
  obtain ⟨bI, hbI⟩ : ∃ bI, (dOp (dOf (d0.l))).b = bI := ⟨_, rfl⟩
  simp only [hE, hdI, hbI] at hpo0 hro0 i1 i2 i3 i4
  clear hE hdI hbI
  by_cases hz : E = 0
  case neg =>
    have hpo : ∀ Y p, Dk Y p (dOf (d0.l)) → Calls Try.prog 12 #[.pointer (some ⟨p, 0, none⟩)] Y fun e w' => e = .returned (.tuple #[.pointer none, .int .i64 E]) ∧ Dk w' p dI ∧ Tp p Y w' := fun Y p hY => (hpo0 Y p hY).mono (by rintro e w' ⟨_, h2, h3, h4⟩; exact ⟨h2 hz, h3, h4⟩)
    have hro : ∀ Y lb, ∀ {r : Nat}, RfD Y lb 0 w.heap.size r 256 (dOf (d0.l)) → Calls Try.prog 33 #[.pointer (some ⟨lb, 0, none⟩)] Y fun e w' => e = .returned (.tuple #[.agg #[.int .i64 0, .int .i64 0, .int .i64 0, .int .i64 0, .int .i64 0, .int .i64 0], .int .i64 E]) ∧ RfD w' lb 0 w.heap.size r 256 dI ∧ Tf lb 0 r Y w' := fun Y lb {r} hY => (hro0 Y lb r hY).mono (by rintro e w' ⟨_, h2, h3, h4⟩; exact ⟨h2 hz, h3, h4⟩)
    clear hpo0 hro0
    go_enter Try.func17, Try.ntmps17
    go_wp2_with (first | (go_at_call 30; (with_reducible refine hrn.mono ?_); rintro e vb ⟨r, rfl, hrg, hrow, hBb⟩; obtain ⟨vz, hvz⟩ : ∃ vz, vb.alloc (.cells #[.slice none 0 0, .bool false, .int .i64 0, .int .i64 0] 64) = vz := ⟨_, rfl⟩; have hgz : vz.heap[vb.heap.size]? = some (.cells #[.slice none 0 0, .bool false, .int .i64 0, .int .i64 0] 64 (0, 0)) := (by rw [← hvz]; exact new_at rfl); have hbz : Below vb.heap.size vb vz := (by rw [← hvz]; exact al1' _ _)) | (refine wpList_store_row rfl 64 (.tmp 9) (.tmp 24) rfl vb.heap.size #[.slice (some ⟨r, 0, none⟩) 256 256, .bool false, .int .i64 (-1), .int .i64 0] rfl rfl 64 _ hgz info_rd rfl (by simp [Value.oneCell']) ?_; obtain ⟨vc, hvc⟩ : ∃ vc, vz.setRow vb.heap.size #[.slice (some ⟨r, 0, none⟩) 256 256, .bool false, .int .i64 (-1), .int .i64 0] = vc := ⟨_, rfl⟩; have hgl : vc.heap[vb.heap.size]? = some (.cells #[.slice (some ⟨r, 0, none⟩) 256 256, .bool false, .int .i64 (-1), .int .i64 0] 64 (0, 0)) := (by rw [← hvc]; exact setRow_heap _ _ _ _ _ _ hgz); have hbc : Below vb.heap.size vb vc := (by rw [← hvc]; exact below_setRow hbz (Nat.le_refl _) _); have hBc := bel2 hBb hbc; have hrc := (hBc.block _ (lt_at hrec)).trans hrec; have hrw := (hbc.block _ (row_lt0 hrow)).trans (own_list hrow); have hen1 := hen vc; rw [hvc]) | (refine wpList_load_row rfl 36 (.tmp 4) rfl w.heap.size rfl 36 _ (0, 0) _ hrc undR rfl infoR ?_) | (go_at_call 31; (with_reducible refine hen1.mono ?_); rintro e ve ⟨-, hno, hbe⟩; obtain rfl := hno hfit; have hgl3 := (hbe.block _ (lt_at hgl)).trans hgl; have hrw3 := (hbe.block _ (lt_at hrw)).trans hrw; have cl0 := cell_at hgl3 0; simp at cl0; have hBe := bel2 hBc hbe; have hRe : RfD ve vb.heap.size 0 w.heap.size r 256 (dOf (d0.l)) := ⟨cell_at hgl3 0, cell_at hgl3 1, cell_at hgl3 2, cell_at hgl3 3, list_own hrw3 d0_len (Nat.le_trans hbA.size hrg), ⟨_, hgl3⟩, d0_len, (byt_zero 256)⟩; have hof := of_ok r 0 256 (d0.l) ve (lt_at hrw3) (b_own (list_own (base := 0) hrw3 d0_len (Nat.zero_le _)) (Eq.symm d0_len)) d0_len (byt_zero 256) (Nat.le_refl _)) | (go_at_call 32; (with_reducible refine hof.mono ?_); rintro e vf ⟨rfl, hDf, hltf, hBf⟩; have hRf := hRe.carry hBf; have hpv := hpo _ _ hDf) | (go_at_call 12; (with_reducible refine hpv.mono ?_); rintro e vg ⟨rfl, hDg, hTg⟩; have hne1 : vb.heap.size ≠ ve.heap.size := (fun e => by have := lt_at hgl3; omega); have hne2 : r ≠ ve.heap.size := (fun e => by have := lt_at hrw3; omega); have hRg := hRf.same (hTg.block _ hRf.lt.1 hne1) (hTg.block _ hRf.lt.2 hne2); have hrv := hro _ _ hRg) | (go_at_call 33; (with_reducible refine hrv.mono ?_); rintro e vh ⟨rfl, hRh, hTh⟩; obtain ⟨vi, hvi⟩ : ∃ vi, vh.alloc (.cells #[.int .i64 0, .int .i64 0, .int .i64 0, .int .i64 0, .int .i64 0, .int .i64 0] 71) = vi := ⟨_, rfl⟩; have hgi : vi.heap[vh.heap.size]? = some (.cells #[.int .i64 0, .int .i64 0, .int .i64 0, .int .i64 0, .int .i64 0, .int .i64 0] 71 (0, 0)) := (by rw [← hvi]; exact new_at rfl); have hbi : Below vh.heap.size vh vi := (by rw [← hvi]; exact al1' _ _)) | (refine wpList_store_row rfl 71 (.tmp 16) (.tmp 52) rfl vh.heap.size #[.int .i64 0, .int .i64 0, .int .i64 0, .int .i64 0, .int .i64 0, .int .i64 0] rfl rfl 71 _ hgi infoRB rfl (by simp [Value.oneCell']) ?_; obtain ⟨vj, hvj⟩ : ∃ vj, vi.setRow vh.heap.size #[.int .i64 0, .int .i64 0, .int .i64 0, .int .i64 0, .int .i64 0, .int .i64 0] = vj := ⟨_, rfl⟩; have hbj : Below vh.heap.size vh vj := (by rw [← hvj]; exact below_setRow hbi (Nat.le_refl _) _); rw [hvj]) | (go_at_call 9; (with_reducible refine (hal _).mono ?_); rintro e vl ⟨rfl, hbl⟩))
    go_ret
    refine ⟨rfl, ?_⟩
    have s0 := hbA.size
    have s1 := hBe.size
    have s2 := hBf.size
    have s3 := hTg.size
    have s4 := hTh.size
    have s6 := hBb.size
    have hbw : Below w.heap.size w vh := ((hbA.trans (hBe.mono s0)).trans ((hBf.mono (by omega)).trans (hTg.below (by omega) (by omega)))).trans (hTh.below (by omega) (by omega) (by omega))
    exact hbw.trans ((bel2 hbj hbl).mono hbw.size)
  subst hz
  have hIv : Iv dI bI (2 + 200 * ((0 : Nat) : Int)) := ⟨i1, i4 rfl, i2, by omega⟩
  have hpo : ∀ Y p, Dk Y p (dOf (d0.l)) → Calls Try.prog 12 #[.pointer (some ⟨p, 0, none⟩)] Y fun e w' => ∃ q, e = .returned (.tuple #[.pointer (some ⟨q, 0, none⟩), .int .i64 0]) ∧ Y.heap.size ≤ q ∧ Bt w' q (some ⟨p, 0, none⟩) bI ∧ Dk w' p dI ∧ Tp p Y w' := fun Y p hY => (hpo0 Y p hY).mono (by rintro e w' ⟨h1, _, h3, h4⟩; obtain ⟨q, rfl, hq, hb⟩ := h1 rfl; exact ⟨q, rfl, hq, hb, h3, h4⟩)
  have hro : ∀ Y lb, ∀ {r : Nat}, RfD Y lb 0 w.heap.size r 256 (dOf (d0.l)) → Calls Try.prog 33 #[.pointer (some ⟨lb, 0, none⟩)] Y fun e w' => e = .returned (.tuple #[.agg #[.int .i64 bI.r.li, .int .i64 bI.r.ro, .int .i64 bI.r.ta, .int .i64 bI.r.li, .int .i64 bI.ro, .int .i64 bI.ta], .int .i64 0]) ∧ RfD w' lb 0 w.heap.size r 256 dI ∧ Tf lb 0 r Y w' := fun Y lb {r} hY => (hro0 Y lb r hY).mono (by rintro e w' ⟨h1, _, h3, h4⟩; exact ⟨h1 rfl, h3, h4⟩)
  clear hpo0 hro0 i1 i2 i3 i4
  go_enter Try.func17, Try.ntmps17
  go_wp2_with (first | (go_at_call 30; (with_reducible refine hrn.mono ?_); rintro e vb ⟨r, rfl, hrg, hrow, hBb⟩; obtain ⟨vz, hvz⟩ : ∃ vz, vb.alloc (.cells #[.slice none 0 0, .bool false, .int .i64 0, .int .i64 0] 64) = vz := ⟨_, rfl⟩; have hgz : vz.heap[vb.heap.size]? = some (.cells #[.slice none 0 0, .bool false, .int .i64 0, .int .i64 0] 64 (0, 0)) := (by rw [← hvz]; exact new_at rfl); have hbz : Below vb.heap.size vb vz := (by rw [← hvz]; exact al1' _ _)) | (refine wpList_store_row rfl 64 (.tmp 9) (.tmp 24) rfl vb.heap.size #[.slice (some ⟨r, 0, none⟩) 256 256, .bool false, .int .i64 (-1), .int .i64 0] rfl rfl 64 _ hgz info_rd rfl (by simp [Value.oneCell']) ?_; obtain ⟨vc, hvc⟩ : ∃ vc, vz.setRow vb.heap.size #[.slice (some ⟨r, 0, none⟩) 256 256, .bool false, .int .i64 (-1), .int .i64 0] = vc := ⟨_, rfl⟩; have hgl : vc.heap[vb.heap.size]? = some (.cells #[.slice (some ⟨r, 0, none⟩) 256 256, .bool false, .int .i64 (-1), .int .i64 0] 64 (0, 0)) := (by rw [← hvc]; exact setRow_heap _ _ _ _ _ _ hgz); have hbc : Below vb.heap.size vb vc := (by rw [← hvc]; exact below_setRow hbz (Nat.le_refl _) _); have hBc := bel2 hBb hbc; have hrc := (hBc.block _ (lt_at hrec)).trans hrec; have hrw := (hbc.block _ (row_lt0 hrow)).trans (own_list hrow); have hen1 := hen vc; rw [hvc]) | (refine wpList_load_row rfl 36 (.tmp 4) rfl w.heap.size rfl 36 _ (0, 0) _ hrc undR rfl infoR ?_) | (go_at_call 31; (with_reducible refine hen1.mono ?_); rintro e ve ⟨-, hno, hbe⟩; obtain rfl := hno hfit; have hgl3 := (hbe.block _ (lt_at hgl)).trans hgl; have hrw3 := (hbe.block _ (lt_at hrw)).trans hrw; have cl0 := cell_at hgl3 0; simp at cl0; have hBe := bel2 hBc hbe; have hRe : RfD ve vb.heap.size 0 w.heap.size r 256 (dOf (d0.l)) := ⟨cell_at hgl3 0, cell_at hgl3 1, cell_at hgl3 2, cell_at hgl3 3, list_own hrw3 d0_len (Nat.le_trans hbA.size hrg), ⟨_, hgl3⟩, d0_len, (byt_zero 256)⟩; have hof := of_ok r 0 256 (d0.l) ve (lt_at hrw3) (b_own (list_own (base := 0) hrw3 d0_len (Nat.zero_le _)) (Eq.symm d0_len)) d0_len (byt_zero 256) (Nat.le_refl _)) | (go_at_call 32; (with_reducible refine hof.mono ?_); rintro e vf ⟨rfl, hDf, hltf, hBf⟩; have hRf := hRe.carry hBf; have hpv := hpo _ _ hDf) | (go_at_call 12; (with_reducible refine hpv.mono ?_); rintro e vg ⟨qI, rfl, hqI, hBg, hDg, hTg⟩; have hne1 : vb.heap.size ≠ ve.heap.size := (fun e => by have := lt_at hgl3; omega); have hne2 : r ≠ ve.heap.size := (fun e => by have := lt_at hrw3; omega); have hRg := hRf.same (hTg.block _ hRf.lt.1 hne1) (hTg.block _ hRf.lt.2 hne2); have hrv := hro _ _ hRg) | (go_at_call 33; (with_reducible refine hrv.mono ?_); rintro e vh ⟨rfl, hRh, hTh⟩; obtain ⟨vi, hvi⟩ : ∃ vi, vh.alloc (.cells #[.int .i64 0, .int .i64 0, .int .i64 0, .int .i64 0, .int .i64 0, .int .i64 0] 71) = vi := ⟨_, rfl⟩; have hgi : vi.heap[vh.heap.size]? = some (.cells #[.int .i64 0, .int .i64 0, .int .i64 0, .int .i64 0, .int .i64 0, .int .i64 0] 71 (0, 0)) := (by rw [← hvi]; exact new_at rfl); have hbi : Below vh.heap.size vh vi := (by rw [← hvi]; exact al1' _ _)) | (refine wpList_store_row rfl 71 (.tmp 16) (.tmp 52) rfl vh.heap.size #[.int .i64 bI.r.li, .int .i64 bI.r.ro, .int .i64 bI.r.ta, .int .i64 bI.r.li, .int .i64 bI.ro, .int .i64 bI.ta] rfl rfl 71 _ hgi infoRB rfl (by simp [Value.oneCell']) ?_; obtain ⟨vj, hvj⟩ : ∃ vj, vi.setRow vh.heap.size #[.int .i64 bI.r.li, .int .i64 bI.r.ro, .int .i64 bI.r.ta, .int .i64 bI.r.li, .int .i64 bI.ro, .int .i64 bI.ta] = vj := ⟨_, rfl⟩; have hbj : Below vh.heap.size vh vj := (by rw [← hvj]; exact below_setRow hbi (Nat.le_refl _) _); have hrj : vj.heap[vh.heap.size]? = some (.cells #[.int .i64 bI.r.li, .int .i64 bI.r.ro, .int .i64 bI.r.ta, .int .i64 bI.r.li, .int .i64 bI.ro, .int .i64 bI.ta] 71 (0, 0)) := (by rw [← hvj]; exact setRow_heap _ _ _ _ _ _ hgi); obtain ⟨vk, hvk⟩ : ∃ vk, vj.alloc (.cells #[.pointer (some ⟨qI, 0, none⟩), .pointer (some ⟨ve.heap.size, 0, none⟩), .int .i64 bI.r.li, .int .i64 bI.r.ro, .int .i64 bI.r.ta, .int .i64 bI.r.li, .int .i64 bI.ro, .int .i64 bI.ta, .pointer (some ⟨vb.heap.size, 0, none⟩)] 77) = vk := ⟨_, rfl⟩; have hbk : Below vj.heap.size vj vk := (by rw [← hvk]; exact al1' _ _); have hBB : BB vk vj.heap.size qI ve.heap.size vb.heap.size bI := (by rw [← hvk]; exact new_at rfl); have s0 := hbA.size; have s1 := hBe.size; have s2 := hBf.size; have s3 := hTg.size; have s4 := hTh.size; have s5 := hbj.size; have s6 := hBb.size; have hlr := row_lt0 hrow; have hle3 := lt_at hgl3; have hrr3 := lt_at hrw3; have hBh : Bt vh qI (some ⟨ve.heap.size, 0, none⟩) bI := (hTh.block _ (lt_at hBg) (by omega) (by omega)).trans hBg; have hDh : Dk vh ve.heap.size dI := ⟨(hTh.block _ hDg.lt (Ne.symm hne1) (Ne.symm hne2)).trans hDg.obj, hDg.len, hDg.byt⟩; have hjk := bel2 hbj hbk; have hbw : Below w.heap.size w vh := ((hbA.trans (hBe.mono s0)).trans ((hBf.mono (by omega)).trans (hTg.below (by omega) (by omega)))).trans (hTh.below (by omega) (by omega) (by omega)); have hPI : P2 w vj.heap.size qI ve.heap.size vb.heap.size r 256 bI dI bI dI vk := ⟨hBB, hBh.carry hjk, hDh.carry hjk, hRh.carry hjk, hbw.trans (hjk.mono hbw.size), by omega, by omega, by omega, by omega⟩; rw [hvj]) | (refine wpList_load_row rfl 71 (.tmp 16) rfl vh.heap.size rfl 71 _ (0, 0) _ hrj undRB rfl infoRB ?_))
  go_loopw [19] (fun i wz => ∃ (m : Nat) (b : Bo) (d : Dst), i = .int .i64 (m : Int) ∧ m ≤ l.length ∧ Iv d b (2 + 200 * (m : Int)) ∧ ∃ q, P2 w vj.heap.size q ve.heap.size vb.heap.size r 256 b d b d wz) (fun i _ => l.length - vnat i)
  case atStart => exact ⟨0, bI, dI, rfl, Nat.zero_le _, hIv, qI, hPI⟩
  case round =>
    clear hPI
    obtain ⟨m, b0, d0, rfl, hm, hI, q, hP⟩ := hrel
    by_cases hml : m < l.length
    case neg =>
      have hmi : ¬ (m : Int) < (l.length : Int) := by omega
      have hlo := fun Y (hb : Below wr.heap.size wr Y) => looks_any (hP.carry hb)
      go_wp2_with (first | (go_at_call 9; (with_reducible refine (hal _).mono ?_); rintro e vz ⟨rfl, hbz⟩; have hl2 := hlo _ hbz) | (go_at_call 35; (with_reducible refine hl2.mono ?_); rintro e vy ⟨rfl, hby⟩))
      go_ret
      exact ⟨rfl, hP.bl.trans ((bel2 hbz hby).mono hP.bl.size)⟩
    have hmi : (m : Int) < (l.length : Int) := by omega
    obtain ⟨o, hx⟩ : ∃ o, l[m]? = some o := ⟨_, List.getElem?_eq_getElem hml⟩
    obtain ⟨bo, offo, e1, hbl, hop, hwf, hwf2⟩ := w1 m o hx
    subst e1
    obtain ⟨ok, oa⟩ := o
    have hoa := bounds_hi2 hwf2
    dsimp only at hoa
    have HOP : Hid (ObAt w bo (offo + m * 2) ⟨ok, oa⟩) := hop
    have hIM : 2 + 200 * (m : Int) ≤ 1000000 := by omega
    have hI1 := (hI.st ⟨ok, oa⟩ hoa).up (show 2 + 200 * (m : Int) + 200 ≤ 2 + 200 * ((m + 1 : Nat) : Int) by omega)
    obtain ⟨b1, hb1e⟩ : ∃ b1, (dSt ⟨ok, oa⟩ d0 b0).2 = b1 := ⟨_, rfl⟩
    obtain ⟨d1, hd1e⟩ : ∃ d1, (dSt ⟨ok, oa⟩ d0 b0).1 = d1 := ⟨_, rfl⟩
    have HB1 : Hid ((dSt ⟨ok, oa⟩ d0 b0).2 = b1) := hb1e
    have HD1 : Hid ((dSt ⟨ok, oa⟩ d0 b0).1 = d1) := hd1e
    rw [hb1e, hd1e] at hI1
    clear hb1e hd1e hop hx hwf hwf2
    go_wp2
    rename_i hK
    refine wp_region_any hmx ?_
    refine wpAny_tabG (G := (Nat × Nat)) (fun g i__ => ([(.pointer (some ⟨vj.heap.size, 0, none⟩)), (.slice (some ⟨bo, offo, none⟩) l.length cap), (.int .i64 (m : Int)), (.pointer (some ⟨bo, offo + m * 2, none⟩)), (.agg #[.int .i64 ok, .int .i64 oa]), (.bool true), (.bool false), (.bool false), (.bool true), (.bool true), (.pointer (some ⟨vj.heap.size, 0, none⟩)), (.bool true), (.bool false), (.bool false), (.bool false), (.bool false), (.pointer (some ⟨ve.heap.size, 0, none⟩)), (.slice (some ⟨g.1, 0, none⟩) 256 g.2), (.pointer (some ⟨vb.heap.size, 0, none⟩)), (.slice (some ⟨r, 0, none⟩) 256 256), (.bool true), (.bool false), (.bool false), (.bool false), (.pointer (some ⟨ve.heap.size, 0, none⟩)), (.int .i64 d1.writes), (.pointer (some ⟨vb.heap.size, 3, none⟩)), (.int .i64 d1.writes), (.bool false), (.bool false), (.bool false), (.pointer (some ⟨ve.heap.size, 0, none⟩)), (.bool (!d1.off)), (.pointer (some ⟨vb.heap.size, 1, none⟩)), (.bool d1.off), (.bool false), (.bool false)] : List Value).getD i__ undef) (fun y f V => JL w vj.heap.size ve.heap.size vb.heap.size r b0 b1 d0 d1 y (f 5) (f 17) V) (by kernel_rfl) ((0, 0)) (show JL w vj.heap.size ve.heap.size vb.heap.size r b0 b1 d0 d1 (0, 0) false false _ from JL.carry ⟨⟨q, hP⟩, fun e => (by cases e)⟩ (Below.refl _ _).drew) ?step2 ?fin2
    case step2 =>
      intro i o ho
      have hi : i < 37 := getElem?_lt ho
      match i, hi, ho with
      | 0, _, ho =>
        cases ho
        refine stepG_ofC (fun g d hun hdep hcl => ?_)
        exact step_move rfl trivial _ rfl (by kernel_rfl)
      | 1, _, ho =>
        cases ho
        refine stepG_ofC (fun g d hun hdep hcl => ?_)
        exact step_move rfl trivial _ rfl (by kernel_rfl)
      | 2, _, ho =>
        cases ho
        refine stepG_ofC (fun g d hun hdep hcl => ?_)
        exact step_move rfl trivial _ rfl (by kernel_rfl)
      | 3, _, ho =>
        cases ho
        refine stepG_ofC (fun g d hun hdep hcl => ?_)
        exact step_indexAddr rfl trivial _ _ _ _ _ rfl rfl rfl (fun v hw => idx_ob hml)
      | 4, _, ho =>
        cases ho
        refine stepG_ofC (fun g d hun hdep hcl => ?_)
        exact step_load rfl trivial _ _ _ rfl rfl (fun v hw => load_ob (HOP.out.carry hw.bl hbl))
      | 5, _, ho =>
        cases ho
        refine stepG_ofC (fun g d hun hdep hcl => ?_)
        exact step_call rfl trivial 34 _ _ [(.pointer (some ⟨vj.heap.size, 0, none⟩)), (.agg #[.int .i64 ok, .int .i64 oa])] rfl (by kernel_rfl) (enters_of Try.func34 (by kernel_rfl) rfl) (fun v hw => by have h17 : d 17 = false := (by cases h : d 17 with | false => rfl | true => exact absurd ((hcl 7 _ rfl (hcl 14 _ rfl (hcl 15 _ rfl (hcl 17 _ rfl h 15 (by kernel_rfl)) 14 (by kernel_rfl)) 7 (by kernel_rfl)) 5 (by kernel_rfl))) (by rw [hun]; simp)); have hw2 := hw; rw [hun, h17] at hw2; obtain ⟨⟨q, hP'⟩, _⟩ := hw2; have hP2 : P2 w vj.heap.size q ve.heap.size vb.heap.size r 256 b0 d0 b0 d0 v := hP'; exact (step_any hP2 ⟨ok, oa⟩ hI hIM).mono (by rintro e w' ⟨rfl, q', h2⟩; refine ⟨rfl, ?_⟩; show JL w vj.heap.size ve.heap.size vb.heap.size r b0 b1 d0 d1 g true (d 17) w'; rw [h17]; rw [HB1.out, HD1.out] at h2; exact ⟨⟨q', h2⟩, fun e => (by cases e)⟩))
      | 6, _, ho =>
        cases ho
        refine stepG_ofC (fun g d hun hdep hcl => ?_)
        exact step_unOp rfl trivial _ _ _ _ rfl rfl (fun v hw => un_not true v)
      | 7, _, ho =>
        cases ho
        refine stepG_ofC (fun g d hun hdep hcl => ?_)
        exact step_move rfl trivial _ rfl (by kernel_rfl)
      | 8, _, ho =>
        cases ho
        refine stepG_ofC (fun g d hun hdep hcl => ?_)
        exact step_move rfl (by exact ⟨_, rfl, by kernel_rfl⟩) _ rfl (by kernel_rfl)
      | 9, _, ho =>
        cases ho
        refine stepG_ofC (fun g d hun hdep hcl => ?_)
        exact step_move rfl (by exact ⟨_, rfl, by kernel_rfl⟩) _ rfl (by kernel_rfl)
      | 10, _, ho =>
        cases ho
        refine stepG_ofC (fun g d hun hdep hcl => ?_)
        exact step_move rfl (by exact ⟨_, rfl, by kernel_rfl⟩) _ rfl (by kernel_rfl)
      | 11, _, ho =>
        cases ho
        refine stepG_ofC (fun g d hun hdep hcl => ?_)
        exact step_call rfl (by exact ⟨_, rfl, by kernel_rfl⟩) 35 _ _ [(.pointer (some ⟨vj.heap.size, 0, none⟩))] rfl (by kernel_rfl) (enters_of Try.func35 (by kernel_rfl) rfl) (fun v hw => by have h5 : d 5 = true := (hcl 7 _ rfl (hcl 9 _ rfl (hdep 9 (by kernel_rfl)) 7 (by kernel_rfl)) 5 (by kernel_rfl)); have hw2 := hw; rw [h5] at hw2; obtain ⟨q, hP⟩ := hw2.on; exact (looks_any hP).mono (by rintro e w' ⟨rfl, hb⟩; exact ⟨rfl, hw.carry hb⟩))
      | 12, _, ho =>
        cases ho
        refine stepG_ofC (fun g d hun hdep hcl => ?_)
        exact step_unOp rfl (by exact ⟨_, rfl, by kernel_rfl⟩) _ _ _ _ rfl rfl (fun v hw => un_not true v)
      | 13, _, ho =>
        cases ho
        refine stepG_ofC (fun g d hun hdep hcl => ?_)
        exact step_pick rfl (by exact ⟨_, rfl, by kernel_rfl⟩) _ _ _ true rfl (by kernel_rfl) (by kernel_rfl)
      | 14, _, ho =>
        cases ho
        refine stepG_ofC (fun g d hun hdep hcl => ?_)
        exact step_pick rfl trivial _ _ _ false rfl (by kernel_rfl) (by kernel_rfl)
      | 15, _, ho =>
        cases ho
        refine stepG_ofC (fun g d hun hdep hcl => ?_)
        exact step_move rfl trivial _ rfl (by kernel_rfl)
      | 16, _, ho =>
        cases ho
        refine stepG_ofC (fun g d hun hdep hcl => ?_)
        exact step_move rfl (by exact ⟨_, rfl, by kernel_rfl⟩) _ rfl (by kernel_rfl)
      | 17, _, ho =>
        cases ho
        exact stepG_call rfl (fun _ => (by exact ⟨_, rfl, by kernel_rfl⟩)) 37 _ _ (fun _ => [.pointer (some ⟨ve.heap.size, 0, none⟩)]) rfl (fun g => by kernel_rfl) (enters_of Try.func37 (by kernel_rfl) rfl) (fun g d V hJ hun hdep hcl => by have h5 : d 5 = true := (hcl 7 _ rfl (hcl 14 _ rfl (hcl 15 _ rfl (hdep 15 (by kernel_rfl)) 14 (by kernel_rfl)) 7 (by kernel_rfl)) 5 (by kernel_rfl)); have hJ2 := hJ; rw [h5] at hJ2; obtain ⟨q, hP'⟩ := hJ2.on; exact (image_any hP'.dk).mono (by rintro e V' ⟨g2, c2, rfl, ho, hb⟩; refine ⟨(g2, c2), rfl, (fun j hj => match j, hj with | 17, hj => (by rw [hj] at hun; cases hun)  | 0, _ => rfl | 1, _ => rfl | 2, _ => rfl | 3, _ => rfl | 4, _ => rfl | 5, _ => rfl | 6, _ => rfl | 7, _ => rfl | 8, _ => rfl | 9, _ => rfl | 10, _ => rfl | 11, _ => rfl | 12, _ => rfl | 13, _ => rfl | 14, _ => rfl | 15, _ => rfl | 16, _ => rfl | 18, _ => rfl | 19, _ => rfl | 20, _ => rfl | 21, _ => rfl | 22, _ => rfl | 23, _ => rfl | 24, _ => rfl | 25, _ => rfl | 26, _ => rfl | 27, _ => rfl | 28, _ => rfl | 29, _ => rfl | 30, _ => rfl | 31, _ => rfl | 32, _ => rfl | 33, _ => rfl | 34, _ => rfl | 35, _ => rfl | 36, _ => rfl | _ + 37, _ => rfl), ?_⟩; show JL w vj.heap.size ve.heap.size vb.heap.size r b0 b1 d0 d1 (g2, c2) (d 5) true V'; rw [h5]; exact ⟨⟨q, hP'.carry hb⟩, fun _ => ⟨b_own ho hP'.dk.len.symm, row_lt0 ho⟩⟩))
      | 18, _, ho =>
        cases ho
        refine stepG_ofC (fun g d hun hdep hcl => ?_)
        exact step_fieldAddr rfl (by exact ⟨_, rfl, by kernel_rfl⟩) _ _ _ _ rfl rfl (fun v hw => field_rd0 v _ _)
      | 19, _, ho =>
        cases ho
        refine stepG_ofC (fun g d hun hdep hcl => ?_)
        exact step_load rfl (by exact ⟨_, rfl, by kernel_rfl⟩) _ _ _ rfl rfl (fun v hw => load_sl hw.slc)
      | 20, _, ho =>
        cases ho
        refine stepG_ofC (fun g d hun hdep hcl => ?_)
        exact step_call rfl (by exact ⟨_, rfl, by kernel_rfl⟩) 36 _ _ [(.slice (some ⟨g.1, 0, none⟩) 256 g.2), (.slice (some ⟨r, 0, none⟩) 256 256)] rfl (by kernel_rfl) (enters_of Try.func36 (by kernel_rfl) rfl) (fun v hw => by have h5 : d 5 = true := (hcl 7 _ rfl (hcl 14 _ rfl (hcl 15 _ rfl (hdep 15 (by kernel_rfl)) 14 (by kernel_rfl)) 7 (by kernel_rfl)) 5 (by kernel_rfl)); have h17 : d 17 = true := hdep 17 (by kernel_rfl); have hw2 := hw; rw [h5, h17] at hw2; exact hw2.same.mono (by rintro e w' ⟨rfl, hb⟩; exact ⟨rfl, hw.carry hb⟩))
      | 21, _, ho =>
        cases ho
        refine stepG_ofC (fun g d hun hdep hcl => ?_)
        exact step_unOp rfl (by exact ⟨_, rfl, by kernel_rfl⟩) _ _ _ _ rfl rfl (fun v hw => un_not true v)
      | 22, _, ho =>
        cases ho
        refine stepG_ofC (fun g d hun hdep hcl => ?_)
        exact step_pick rfl trivial _ _ _ false rfl (by kernel_rfl) (by kernel_rfl)
      | 23, _, ho =>
        cases ho
        refine stepG_ofC (fun g d hun hdep hcl => ?_)
        exact step_move rfl trivial _ rfl (by kernel_rfl)
      | 24, _, ho =>
        cases ho
        refine stepG_ofC (fun g d hun hdep hcl => ?_)
        exact step_move rfl (by exact ⟨_, rfl, by kernel_rfl⟩) _ rfl (by kernel_rfl)
      | 25, _, ho =>
        cases ho
        refine stepG_ofC (fun g d hun hdep hcl => ?_)
        exact step_call rfl (by exact ⟨_, rfl, by kernel_rfl⟩) 14 _ _ [(.pointer (some ⟨ve.heap.size, 0, none⟩))] rfl (by kernel_rfl) (enters_of Try.func14 (by kernel_rfl) rfl) (fun v hw => by have h5 : d 5 = true := (hcl 7 _ rfl (hcl 14 _ rfl (hcl 15 _ rfl (hcl 22 _ rfl (hcl 23 _ rfl (hdep 23 (by kernel_rfl)) 22 (by kernel_rfl)) 15 (by kernel_rfl)) 14 (by kernel_rfl)) 7 (by kernel_rfl)) 5 (by kernel_rfl)); have hw2 := hw; rw [h5] at hw2; obtain ⟨q, hP'⟩ := hw2.on; exact (writes_any hP'.dk).mono (by rintro e w' ⟨rfl, rfl⟩; exact ⟨rfl, hw⟩))
      | 26, _, ho =>
        cases ho
        refine stepG_ofC (fun g d hun hdep hcl => ?_)
        exact step_fieldAddr rfl (by exact ⟨_, rfl, by kernel_rfl⟩) _ _ _ _ rfl rfl (fun v hw => field_rd3 v _)
      | 27, _, ho =>
        cases ho
        refine stepG_ofC (fun g d hun hdep hcl => ?_)
        exact step_load rfl (by exact ⟨_, rfl, by kernel_rfl⟩) _ _ _ rfl rfl (fun v hw => by have h5 : d 5 = true := (hcl 7 _ rfl (hcl 14 _ rfl (hcl 15 _ rfl (hcl 22 _ rfl (hcl 23 _ rfl (hdep 23 (by kernel_rfl)) 22 (by kernel_rfl)) 15 (by kernel_rfl)) 14 (by kernel_rfl)) 7 (by kernel_rfl)) 5 (by kernel_rfl)); have hw2 := hw; rw [h5] at hw2; obtain ⟨q, hP'⟩ := hw2.on; exact load_i64 hP'.rf.n)
      | 28, _, ho =>
        cases ho
        refine stepG_ofC (fun g d hun hdep hcl => ?_)
        exact step_binOp rfl (by exact ⟨_, rfl, by kernel_rfl⟩) _ _ _ _ _ _ _ rfl rfl rfl (fun v hw => neqK_f _ _)
      | 29, _, ho =>
        cases ho
        refine stepG_ofC (fun g d hun hdep hcl => ?_)
        exact step_pick rfl trivial _ _ _ false rfl (by kernel_rfl) (by kernel_rfl)
      | 30, _, ho =>
        cases ho
        refine stepG_ofC (fun g d hun hdep hcl => ?_)
        exact step_move rfl trivial _ rfl (by kernel_rfl)
      | 31, _, ho =>
        cases ho
        refine stepG_ofC (fun g d hun hdep hcl => ?_)
        exact step_move rfl (by exact ⟨_, rfl, by kernel_rfl⟩) _ rfl (by kernel_rfl)
      | 32, _, ho =>
        cases ho
        refine stepG_ofC (fun g d hun hdep hcl => ?_)
        exact step_call rfl (by exact ⟨_, rfl, by kernel_rfl⟩) 38 _ _ [(.pointer (some ⟨ve.heap.size, 0, none⟩))] rfl (by kernel_rfl) (enters_of Try.func38 (by kernel_rfl) rfl) (fun v hw => by have h5 : d 5 = true := (hcl 7 _ rfl (hcl 14 _ rfl (hcl 15 _ rfl (hcl 22 _ rfl (hcl 23 _ rfl (hcl 29 _ rfl (hcl 30 _ rfl (hdep 30 (by kernel_rfl)) 29 (by kernel_rfl)) 23 (by kernel_rfl)) 22 (by kernel_rfl)) 15 (by kernel_rfl)) 14 (by kernel_rfl)) 7 (by kernel_rfl)) 5 (by kernel_rfl)); have hw2 := hw; rw [h5] at hw2; obtain ⟨q, hP'⟩ := hw2.on; exact (on_any hP'.dk).mono (by rintro e w' ⟨rfl, rfl⟩; exact ⟨rfl, hw⟩))
      | 33, _, ho =>
        cases ho
        refine stepG_ofC (fun g d hun hdep hcl => ?_)
        exact step_fieldAddr rfl (by exact ⟨_, rfl, by kernel_rfl⟩) _ _ _ _ rfl rfl (fun v hw => field_rd1 v _)
      | 34, _, ho =>
        cases ho
        refine stepG_ofC (fun g d hun hdep hcl => ?_)
        exact step_load rfl (by exact ⟨_, rfl, by kernel_rfl⟩) _ _ _ rfl rfl (fun v hw => by have h5 : d 5 = true := (hcl 7 _ rfl (hcl 14 _ rfl (hcl 15 _ rfl (hcl 22 _ rfl (hcl 23 _ rfl (hcl 29 _ rfl (hcl 30 _ rfl (hdep 30 (by kernel_rfl)) 29 (by kernel_rfl)) 23 (by kernel_rfl)) 22 (by kernel_rfl)) 15 (by kernel_rfl)) 14 (by kernel_rfl)) 7 (by kernel_rfl)) 5 (by kernel_rfl)); have hw2 := hw; rw [h5] at hw2; obtain ⟨q, hP'⟩ := hw2.on; exact load_bo hP'.rf.f)
      | 35, _, ho =>
        cases ho
        refine stepG_ofC (fun g d hun hdep hcl => ?_)
        exact step_binOp rfl (by exact ⟨_, rfl, by kernel_rfl⟩) _ _ _ _ _ _ _ rfl rfl rfl (fun v hw => eqB_f _ _ _ _)
      | 36, _, ho =>
        cases ho
        refine stepG_ofC (fun g d hun hdep hcl => ?_)
        exact step_pick rfl trivial _ _ _ false rfl (by kernel_rfl) (by kernel_rfl)
    intro g d W hall hW
    first | refine hK _ _ ?_ | refine (‹∀ (a : Act) (w : World), Code.wp Try.prog _ _ a w → _›) _ _ ?_ | skip
    simp only [finL, List.getD_cons_zero, List.getD_cons_succ, Nat.zero_add, Nat.reduceAdd, List.setIfInBounds_toArray, List.set_cons_zero, List.set_cons_succ]
    rw [hall 5 (by decide)] at hW
    obtain ⟨q9, hP9⟩ := hW.on
    clear hK hW hall
    go_wp2
    go_roundw
    case rel => exact ⟨m + 1, b1, d1, by simp, by omega, hI1, q9, hP9⟩
    case measure => simp [vnat]; omega
end Go.Proofs.Ytjleggnkacmbbaa
