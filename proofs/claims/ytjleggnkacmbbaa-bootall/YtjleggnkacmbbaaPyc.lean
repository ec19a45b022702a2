/- The document's Open: what it answers. -/
import Derived.Test.YtjleggnkacmbbaaPyb
namespace Go.Proofs.Ytjleggnkacmbbaa
open Go.RowKit Go.Shelf Go.Lib

section
variable {W V : World} {lb base r c : Nat} {d : Dst}
theorem nwT_40 (d : Dst) (h : (nwT d).e = 40) : (nwT d).r = rec0 := by
  unfold nwT at h ⊢
  split at h
  · exact absurd h (by decide)
  · rename_i ho
    rw [if_neg ho]
    cases hn : nw d.l with
    | none => rfl
    | some x => rw [hn] at h; exact absurd (show (0 : Int) = 40 from h) (by decide)
def kA (k : List Value) (L R T : Int) : Array Value := (k ++ ([.int .i64 L, .int .i64 R, .int .i64 T] : List Value)).toArray
def z3L : List Value := [.int .i64 0, .int .i64 0, .int .i64 0]
theorem store_kA {W : World} {X : Nat} {L R T : Int} {k : List Value} (x : Rec) (hk : k.length = 3) (h : W.heap[X]? = some (.cells (kA k L R T) 71 (0, 0))) : (Instr.storeAt 36 (.pointer (some ⟨X, 0, none⟩)) (.agg #[.int .i64 x.li, .int .i64 x.ro, .int .i64 x.ta])).run Try.prog W = .ok () (W.setRow X (kA (r3 x) L R T)) := by
  have h1 := run_store_in (P := Try.prog) W X 0 71 36 (kA k L R T).toList (r3 x) (by simpa using h) infoR (by unfold kA r3; simp) (by simp [r3, Value.oneCell'])
  have e : (splice (kA k L R T).toList 0 (r3 x)).toArray = kA (r3 x) L R T := by
    match k, hk with
    | [a, b, c], _ => rfl
  rw [e] at h1
  exact h1
theorem kA_get {k : List Value} {L R T : Int} (hk : k.length = 3) : (kA k L R T)[3]? = some (.int .i64 L) ∧ (kA k L R T)[4]? = some (.int .i64 R) ∧ (kA k L R T)[5]? = some (.int .i64 T) := by
  match k, hk with
  | [a, b, c], _ => exact ⟨rfl, rfl, rfl⟩
theorem if_len {b : Bool} {x : Rec} : (if b = true then r3 x else z3L).length = 3 := by split <;> rfl
set_option maxHeartbeats 16000000 in
set_option maxRecDepth 100000 in
theorem rOpen_any {Wi : World} (hd : RfD Wi lb 0 base r c d) (hf : Fz d) (hw0 : 0 ≤ d.writes) (hw : d.writes ≤ 4611686018427387903) : Calls Try.prog 33 #[.pointer (some ⟨lb, 0, none⟩)] Wi fun e w' => ((dOp d).e = 0 → e = .returned (.tuple #[.agg (rbA (dOp d).b), .int .i64 0])) ∧ ((dOp d).e ≠ 0 → e = .returned (.tuple #[.agg z6A, .int .i64 (dOp d).e])) ∧ RfD w' lb 0 base r c (dOp d).d ∧ Tf lb 0 r Wi w' := by
  have hmx : Try.prog.follows .mixedOrders = true := by kernel_rfl
  obtain ⟨w1, hw1⟩ : ∃ w1, Wi.alloc (.cells #[.int .i64 0, .int .i64 0, .int .i64 0, .int .i64 0, .int .i64 0, .int .i64 0] 71) = w1 := ⟨_, rfl⟩
  have hb1 : Below Wi.heap.size Wi w1 := by rw [← hw1]; exact al1' _ _
  have hg1 : w1.heap[Wi.heap.size]? = some (.cells z6A 71 (0, 0)) := by rw [← hw1]; exact new_at rfl
  have hd1 := hd.carry hb1
  have hlt := hd.lt
  have hld := rLoad_any hd1
  have hr := nwT_r d
  have he2 := nwT_e2 d
  have hoe := nwT_e d
  have h40 := nwT_40 d
  unfold dOp
  obtain ⟨t, ht⟩ : ∃ t, nwT d = t := ⟨_, rfl⟩
  rw [ht] at hld hr he2 hoe h40 ⊢
  clear ht
  obtain ⟨⟨l, ro, a⟩, s, k, e⟩ := t
  unfold ldV rV at hld
  dsimp only at hld hr he2 hoe h40 ⊢
  by_cases ho : d.off = true
  case pos =>
    obtain rfl := hoe.2 ho
    rw [if_pos ho]
    clear he2 hoe h40
    go_enter Try.func33, Try.ntmps33
    go_wp2_with (first | (go_at_call 47; (with_reducible refine hld.mono ?_); rintro e u1 ⟨rfl, hu1⟩; obtain ⟨u2, hu2⟩ : ∃ u2, u1.alloc (.cells #[.int .i64 l, .int .i64 ro, .int .i64 a] 36) = u2 := ⟨_, rfl⟩; have hb2 : Below w1.heap.size w1 u2 := (by rw [← hu2]; exact bel2 hu1 (al1' _ _)); have hz2 := (hb2.block _ (lt_at hg1)).trans hg1; have ht2 := Tf.of lb 0 r (bel2 hb1 hb2)) | (refine wpList_store_row rfl 71 (.tmp 2) (.tmp 16) rfl Wi.heap.size z6A rfl rfl 71 _ hz2 infoRB rfl (by simp [z6A, Value.oneCell']) ?_; obtain ⟨v, hv⟩ : ∃ v, u2.setRow Wi.heap.size z6A = v := ⟨_, rfl⟩; have HV : Hid (v.heap[Wi.heap.size]? = some (.cells z6A 71 (0, 0))) := (by rw [← hv]; exact setRow_heap _ _ _ _ _ _ hz2); have HT : Hid (Tf lb 0 r Wi v) := (by rw [← hv]; exact ht2.row (Nat.le_refl _) hlt.1 _); have HD : Hid (RfD v lb 0 base r c d) := (by rw [← hv]; exact (hd1.carry hb2).same ((Tp.row _ u2 _).block _ (hd1.carry hb2).lt.1 (by omega)) ((Tp.row _ u2 _).block _ (hd1.carry hb2).lt.2 (by omega))); rw [hv]))
    (try simp only [Exit.inBlock, Exit.then])
    exact retC2 rfl rfl rfl rfl HV.out undRB infoRB ⟨fun h => absurd (show (100 : Int) = 0 from h) (by decide), fun _ => rfl, HD.out, HT.out⟩
  rw [if_neg ho]
  have he := he2 ho
  clear he2 hoe
  by_cases hl : l = 1073741824
  case pos =>
    rw [if_pos hl]
    subst hl
    obtain rfl : e = 0 := by
      rcases he with q | q
      · exact q
      · have := h40 q
        simp only [rec0, Rec.mk.injEq] at this
        exact absurd this.1 (by decide)
    clear h40
    go_enter Try.func33, Try.ntmps33
    go_wp2_with (first | (go_at_call 47; (with_reducible refine hld.mono ?_); rintro e u1 ⟨rfl, hu1⟩; obtain ⟨u2, hu2⟩ : ∃ u2, u1.alloc (.cells #[.int .i64 1073741824, .int .i64 ro, .int .i64 a] 36) = u2 := ⟨_, rfl⟩; have hb2 : Below w1.heap.size w1 u2 := (by rw [← hu2]; exact bel2 hu1 (al1' _ _)); have hz2 := (hb2.block _ (lt_at hg1)).trans hg1; have hrec2 : u2.heap[u1.heap.size]? = some (.cells #[.int .i64 1073741824, .int .i64 ro, .int .i64 a] 36 (0, 0)) := (by rw [← hu2]; exact new_at rfl); obtain ⟨u3, hu3⟩ : ∃ u3, u2.alloc (.cells #[.int .i64 0, .int .i64 0, .int .i64 0, .int .i64 0, .int .i64 0, .int .i64 0] 71) = u3 := ⟨_, rfl⟩; have hb3 : Below u2.heap.size u2 u3 := (by rw [← hu3]; exact al1' _ _); have hx3 : u3.heap[u2.heap.size]? = some (.cells z6A 71 (0, 0)) := (by rw [← hu3]; exact new_at rfl); have hJ3 : JWo Wi u2.heap.size lb base r c z6A d u3 := ⟨(hb3.block _ (lt_at hz2)).trans hz2, hx3, (hd1.carry hb2).carry hb3, Tf.of lb 0 r (bel2 (bel2 hb1 hb2) hb3), Nat.lt_of_lt_of_le (lt_at hg1) hb2.size⟩; have hrec3 := (hb3.block _ (lt_at hrec2)).trans hrec2; have hne3 := lt_at hrec2) | (refine wpList_store_row rfl 71 (.tmp 7) (.tmp 18) rfl u2.heap.size (kA z3L 1 0 0) rfl rfl 71 _ hJ3.x infoRB rfl (by simp [kA, z3L, Value.oneCell']) ?_; obtain ⟨u4, hu4⟩ : ∃ u4, u3.setRow u2.heap.size (kA z3L 1 0 0) = u4 := ⟨_, rfl⟩; have hJ4 : JWo Wi u2.heap.size lb base r c (kA z3L 1 0 0) d u4 := (by rw [← hu4]; exact hJ3.put hlt.1 hlt.2 _); have hrec4 : u4.heap[u1.heap.size]? = some (.cells #[.int .i64 1073741824, .int .i64 ro, .int .i64 a] 36 (0, 0)) := (by rw [← hu4]; exact (setRow_other _ _ _ _ (by omega)).trans hrec3); have c0 := cell_at hrec4 0; simp at c0; rw [hu4]) | (refine wpList_store_row rfl 71 (.tmp 2) (.tmp 24) rfl Wi.heap.size z6A rfl rfl 71 _ hJ4.z infoRB rfl (by simp [z6A, Value.oneCell']) ?_; obtain ⟨v, hv⟩ : ∃ v, u4.setRow Wi.heap.size z6A = v := ⟨_, rfl⟩; have HV : Hid (v.heap[Wi.heap.size]? = some (.cells z6A 71 (0, 0))) := (by rw [← hv]; exact setRow_heap _ _ _ _ _ _ hJ4.z); have HT : Hid (Tf lb 0 r Wi v) := (by rw [← hv]; exact hJ4.t.row (Nat.le_refl _) hlt.1 _); have HD : Hid (RfD v lb 0 base r c d) := (by rw [← hv]; exact hJ4.d.same ((Tp.row _ u4 _).block _ hJ4.d.lt.1 (by omega)) ((Tp.row _ u4 _).block _ hJ4.d.lt.2 (by omega))); rw [hv]))
    (try simp only [Exit.inBlock, Exit.then])
    exact retC2 rfl rfl rfl rfl HV.out undRB infoRB ⟨fun h => absurd (show (120 : Int) = 0 from h) (by decide), fun _ => rfl, HD.out, HT.out⟩
  rw [if_neg hl]
  obtain ⟨E, hE⟩ : ∃ E, (dSv d (nxL ⟨l, ro, a⟩)).1 = E := ⟨_, rfl⟩
  obtain ⟨D1, hD1⟩ : ∃ D1, (dSv d (nxL ⟨l, ro, a⟩)).2 = D1 := ⟨_, rfl⟩
  have HE : Hid ((dSv d (nxL ⟨l, ro, a⟩)).1 = E) := hE
  have HD1 : Hid ((dSv d (nxL ⟨l, ro, a⟩)).2 = D1) := hD1
  rw [hE, hD1]
  clear hE hD1
  have hwl := i64_id (l + 1) (by omega) (by omega)
  have hw16 := i64_id (ro + 16) (by omega) (by omega)
  have hw4 := i64_id (a + 4) (by omega) (by omega)
  rcases he with rfl | rfl
  · clear h40
    go_enter Try.func33, Try.ntmps33
    go_wp2_with (first | (go_at_call 47; (with_reducible refine hld.mono ?_); rintro e u1 ⟨rfl, hu1⟩; obtain ⟨u2, hu2⟩ : ∃ u2, u1.alloc (.cells #[.int .i64 l, .int .i64 ro, .int .i64 a] 36) = u2 := ⟨_, rfl⟩; have hb2 : Below w1.heap.size w1 u2 := (by rw [← hu2]; exact bel2 hu1 (al1' _ _)); have hz2 := (hb2.block _ (lt_at hg1)).trans hg1; have hrec2 : u2.heap[u1.heap.size]? = some (.cells #[.int .i64 l, .int .i64 ro, .int .i64 a] 36 (0, 0)) := (by rw [← hu2]; exact new_at rfl); obtain ⟨u3, hu3⟩ : ∃ u3, u2.alloc (.cells #[.int .i64 0, .int .i64 0, .int .i64 0, .int .i64 0, .int .i64 0, .int .i64 0] 71) = u3 := ⟨_, rfl⟩; have hb3 : Below u2.heap.size u2 u3 := (by rw [← hu3]; exact al1' _ _); have hx3 : u3.heap[u2.heap.size]? = some (.cells z6A 71 (0, 0)) := (by rw [← hu3]; exact new_at rfl); have hJ3 : JWo Wi u2.heap.size lb base r c z6A d u3 := ⟨(hb3.block _ (lt_at hz2)).trans hz2, hx3, (hd1.carry hb2).carry hb3, Tf.of lb 0 r (bel2 (bel2 hb1 hb2) hb3), Nat.lt_of_lt_of_le (lt_at hg1) hb2.size⟩; have hrec3 := (hb3.block _ (lt_at hrec2)).trans hrec2; have hne3 := lt_at hrec2) | (refine wpList_store_row rfl 71 (.tmp 7) (.tmp 18) rfl u2.heap.size (kA z3L 1 0 0) rfl rfl 71 _ hJ3.x infoRB rfl (by simp [kA, z3L, Value.oneCell']) ?_; obtain ⟨u4, hu4⟩ : ∃ u4, u3.setRow u2.heap.size (kA z3L 1 0 0) = u4 := ⟨_, rfl⟩; have hJ4 : JWo Wi u2.heap.size lb base r c (kA z3L 1 0 0) d u4 := (by rw [← hu4]; exact hJ3.put hlt.1 hlt.2 _); have hrec4 : u4.heap[u1.heap.size]? = some (.cells #[.int .i64 l, .int .i64 ro, .int .i64 a] 36 (0, 0)) := (by rw [← hu4]; exact (setRow_other _ _ _ _ (by omega)).trans hrec3); have c0 := cell_at hrec4 0; have c1 := cell_at hrec4 1; have c2 := cell_at hrec4 2; simp at c0 c1 c2; rw [hu4]) | (refine wpList_store_row rfl 71 (.tmp 7) (.tmp 32) rfl u2.heap.size (kA z3L (l + 1) ro a) rfl rfl 71 _ hJ4.x infoRB rfl (by simp [kA, z3L, Value.oneCell']) ?_; obtain ⟨u5, hu5⟩ : ∃ u5, u4.setRow u2.heap.size (kA z3L (l + 1) ro a) = u5 := ⟨_, rfl⟩; have hJ5 : JWo Wi u2.heap.size lb base r c (kA z3L (l + 1) ro a) d u5 := (by rw [← hu5]; exact hJ4.put hlt.1 hlt.2 _); rw [hu5]))
    rename_i hK
    refine wp_region_any hmx ?_
    refine wpAny_tabG (G := Unit) (fun g i__ => ([(.pointer (some ⟨u2.heap.size, 3, none⟩)), (.int .i64 (l + 1)), (.pointer (some ⟨u2.heap.size, 4, none⟩)), (.int .i64 ro), (.int .i64 (ro + 16)), (.int .i64 (bR ro)), (.pointer (some ⟨u2.heap.size, 5, none⟩)), (.int .i64 a), (.int .i64 (a + 4)), (.int .i64 (bT a)), (.agg #[.int .i64 ((l + 1)), .int .i64 (bR ro), .int .i64 (bT a)]), (.pointer (some ⟨u2.heap.size, 0, none⟩)), undef] : List Value).getD i__ undef) (fun g f V => JWo Wi u2.heap.size lb base r c (kA (if f 12 = true then r3 ⟨(l + 1), bR ro, bT a⟩ else z3L) (l + 1) ro a) d V) (by kernel_rfl) (()) (show JWo Wi u2.heap.size lb base r c (kA z3L (l + 1) ro a) d _ from hJ5.carry (Below.refl _ _).drew) ?step1 ?fin1
    case step1 =>
      intro i o ho
      have hi : i < 13 := getElem?_lt ho
      match i, hi, ho with
      | 0, _, ho =>
        cases ho
        refine stepG_of (fun g d hdep => ?_)
        exact step_fieldAddr rfl trivial _ _ _ _ rfl rfl (fun v hw => (field_rb v _ 0).2.1)
      | 1, _, ho =>
        cases ho
        refine stepG_of (fun g d hdep => ?_)
        exact step_load rfl trivial _ _ _ rfl rfl (fun v hw => load_i64' hw.x (kA_get if_len).1)
      | 2, _, ho =>
        cases ho
        refine stepG_of (fun g d hdep => ?_)
        exact step_fieldAddr rfl trivial _ _ _ _ rfl rfl (fun v hw => (field_rb v _ 0).2.2.1)
      | 3, _, ho =>
        cases ho
        refine stepG_of (fun g d hdep => ?_)
        exact step_load rfl trivial _ _ _ rfl rfl (fun v hw => load_i64' hw.x (kA_get if_len).2.1)
      | 4, _, ho =>
        cases ho
        refine stepG_of (fun g d hdep => ?_)
        exact step_binOp rfl trivial _ _ _ _ _ _ _ rfl rfl rfl (fun v hw => bin_add64 _ _ _ hw16)
      | 5, _, ho =>
        cases ho
        refine stepG_of (fun g d hdep => ?_)
        exact step_call rfl trivial 48 _ _ [(.int .i64 (ro + 16)), (Go.Value.int Go.IntKind.i64 1099511627775)] rfl (by kernel_rfl) (enters_of Try.func48 (by kernel_rfl) rfl) (fun v hw => (least_any (ro + 16) 1099511627775 v).mono (by rintro e w' ⟨rfl, rfl⟩; exact ⟨rfl, hw⟩))
      | 6, _, ho =>
        cases ho
        refine stepG_of (fun g d hdep => ?_)
        exact step_fieldAddr rfl trivial _ _ _ _ rfl rfl (fun v hw => (field_rb v _ 0).2.2.2)
      | 7, _, ho =>
        cases ho
        refine stepG_of (fun g d hdep => ?_)
        exact step_load rfl trivial _ _ _ rfl rfl (fun v hw => load_i64' hw.x (kA_get if_len).2.2)
      | 8, _, ho =>
        cases ho
        refine stepG_of (fun g d hdep => ?_)
        exact step_binOp rfl trivial _ _ _ _ _ _ _ rfl rfl rfl (fun v hw => bin_add64 _ _ _ hw4)
      | 9, _, ho =>
        cases ho
        refine stepG_of (fun g d hdep => ?_)
        exact step_call rfl trivial 48 _ _ [(.int .i64 (a + 4)), (Go.Value.int Go.IntKind.i64 1048576)] rfl (by kernel_rfl) (enters_of Try.func48 (by kernel_rfl) rfl) (fun v hw => (least_any (a + 4) 1048576 v).mono (by rintro e w' ⟨rfl, rfl⟩; exact ⟨rfl, hw⟩))
      | 10, _, ho =>
        cases ho
        exact stepG_struct3 rfl rfl _ _ _ _ (fun g => .int .i64 ((l + 1))) (fun g => .int .i64 (bR ro)) (fun g => .int .i64 (bT a)) rfl (fun g => ⟨rfl, rfl, rfl⟩) (fun g d V hJ hun => ⟨build_R _ _ _ V, hJ⟩)
      | 11, _, ho =>
        cases ho
        refine stepG_of (fun g d hdep => ?_)
        exact step_fieldAddr rfl trivial _ _ _ _ rfl rfl (fun v hw => (field_rb v _ 0).1)
      | 12, _, ho =>
        cases ho
        refine stepG_of (fun g d hdep => ?_)
        exact step_store rfl trivial rfl _ _ _ _ _ rfl rfl rfl (fun v hw => ⟨_, store_kA ⟨(l + 1), bR ro, bT a⟩ if_len hw.x, hw.put hlt.1 hlt.2 _⟩)
    intro g d W hall hW
    first | refine hK _ _ ?_ | refine (‹∀ (a : Act) (w : World), Code.wp Try.prog _ _ a w → _›) _ _ ?_ | skip
    simp only [finL, List.getD_cons_zero, List.getD_cons_succ, Nat.zero_add, Nat.reduceAdd, List.setIfInBounds_toArray, List.set_cons_zero, List.set_cons_succ]
    simp only [hall 12 (by decide), if_true] at hW
    clear hK
    have c0 := cell_at hW.x 0
    have c1 := cell_at hW.x 1
    have c2 := cell_at hW.x 2
    unfold kA r3 at c0 c1 c2
    simp at c0 c1 c2
    have hsv := rSave_any hW.d ⟨(l + 1), bR ro, bT a⟩ hf hw0 hw
    have hdef : nxL ⟨l, ro, a⟩ = ⟨(l + 1), bR ro, bT a⟩ := rfl
    rw [← hdef] at hsv
    rw [HE.out, HD1.out, hdef] at hsv
    unfold rV at hsv
    dsimp only at hsv
    have hzW := lt_at hW.z
    have hnx := hW.n
    by_cases hz : E = 0
    case neg =>
      go_wp2_with (first | (go_at_call 49; (with_reducible refine hsv.mono ?_); rintro e v1 ⟨rfl, hv1, hv2⟩; have hz6 := (hv2.block _ hzW (by omega) (by omega)).trans hW.z; have ht6 := hW.t.trans hv2) | (refine wpList_store_row rfl 71 (.tmp 2) (.tmp 51) rfl Wi.heap.size z6A rfl rfl 71 _ hz6 infoRB rfl (by simp [z6A, Value.oneCell']) ?_; obtain ⟨v, hv⟩ : ∃ v, v1.setRow Wi.heap.size z6A = v := ⟨_, rfl⟩; have HV : Hid (v.heap[Wi.heap.size]? = some (.cells z6A 71 (0, 0))) := (by rw [← hv]; exact setRow_heap _ _ _ _ _ _ hz6); have HT : Hid (Tf lb 0 r Wi v) := (by rw [← hv]; exact ht6.row (Nat.le_refl _) hlt.1 _); have HD : Hid (RfD v lb 0 base r c D1) := (by rw [← hv]; exact hv1.same ((Tp.row _ v1 _).block _ hv1.lt.1 (by omega)) ((Tp.row _ v1 _).block _ hv1.lt.2 (by omega))); rw [hv]))
      (try simp only [Exit.inBlock, Exit.then])
      exact retC2 rfl rfl rfl rfl HV.out undRB infoRB ⟨fun h => absurd h hz, fun _ => rfl, HD.out, HT.out⟩
    subst hz
    go_wp2_with (first | (go_at_call 49; (with_reducible refine hsv.mono ?_); rintro e v1 ⟨rfl, hv1, hv2⟩; have hz6 := (hv2.block _ hzW (by omega) (by omega)).trans hW.z; have ht6 := hW.t.trans hv2; have hx6 := (hv2.block _ (lt_at hW.x) (by omega) (by omega)).trans hW.x) | (refine wpList_load_row rfl 71 (.tmp 7) rfl u2.heap.size rfl 71 _ (0, 0) _ hx6 undRB rfl infoRB ?_) | (refine wpList_store_row rfl 71 (.tmp 2) (.tmp 53) rfl Wi.heap.size (kA (r3 ⟨(l + 1), bR ro, bT a⟩) (l + 1) ro a) rfl rfl 71 _ hz6 infoRB rfl (by simp [kA, r3, Value.oneCell']) ?_; obtain ⟨v, hv⟩ : ∃ v, v1.setRow Wi.heap.size (kA (r3 ⟨(l + 1), bR ro, bT a⟩) (l + 1) ro a) = v := ⟨_, rfl⟩; have HV : Hid (v.heap[Wi.heap.size]? = some (.cells (kA (r3 ⟨(l + 1), bR ro, bT a⟩) (l + 1) ro a) 71 (0, 0))) := (by rw [← hv]; exact setRow_heap _ _ _ _ _ _ hz6); have HT : Hid (Tf lb 0 r Wi v) := (by rw [← hv]; exact ht6.row (Nat.le_refl _) hlt.1 _); have HD : Hid (RfD v lb 0 base r c D1) := (by rw [← hv]; exact hv1.same ((Tp.row _ v1 _).block _ hv1.lt.1 (by omega)) ((Tp.row _ v1 _).block _ hv1.lt.2 (by omega))); rw [hv]))
    (try simp only [Exit.inBlock, Exit.then])
    exact retC2 rfl rfl rfl rfl HV.out undRB infoRB ⟨rfl, HD.out, HT.out⟩
  · have h4 := h40 rfl
    simp only [rec0, Rec.mk.injEq] at h4
    obtain ⟨rfl, rfl, rfl⟩ := h4
    clear h40
    go_enter Try.func33, Try.ntmps33
    go_wp2_with (first | (go_at_call 47; (with_reducible refine hld.mono ?_); rintro e u1 ⟨rfl, hu1⟩; obtain ⟨ua, hua⟩ : ∃ ua, u1.alloc (.cells #[.int .i64 0, .int .i64 0, .int .i64 0] 36) = ua := ⟨_, rfl⟩; have hba : Below w1.heap.size w1 ua := (by rw [← hua]; exact bel2 hu1 (al1' _ _)); have hga : ua.heap[u1.heap.size]? = some (.cells #[.int .i64 0, .int .i64 0, .int .i64 0] 36 (0, 0)) := (by rw [← hua]; exact new_at rfl)) | (refine wpList_store_row rfl 36 (.tmp 4) (.tmp 11) rfl u1.heap.size #[.int .i64 0, .int .i64 0, .int .i64 0] rfl rfl 36 _ hga infoR rfl (by simp [Value.oneCell']) ?_; obtain ⟨u2, hu2⟩ : ∃ u2, ua.setRow u1.heap.size #[.int .i64 0, .int .i64 0, .int .i64 0] = u2 := ⟨_, rfl⟩; have hb2 : Below w1.heap.size w1 u2 := (by rw [← hu2]; exact below_setRow hba hu1.size _); have hz2 := (hb2.block _ (lt_at hg1)).trans hg1; have hrec2 : u2.heap[u1.heap.size]? = some (.cells #[.int .i64 0, .int .i64 0, .int .i64 0] 36 (0, 0)) := (by rw [← hu2]; exact setRow_heap _ _ _ _ _ _ hga); obtain ⟨u3, hu3⟩ : ∃ u3, u2.alloc (.cells #[.int .i64 0, .int .i64 0, .int .i64 0, .int .i64 0, .int .i64 0, .int .i64 0] 71) = u3 := ⟨_, rfl⟩; have hb3 : Below u2.heap.size u2 u3 := (by rw [← hu3]; exact al1' _ _); have hx3 : u3.heap[u2.heap.size]? = some (.cells z6A 71 (0, 0)) := (by rw [← hu3]; exact new_at rfl); have hJ3 : JWo Wi u2.heap.size lb base r c z6A d u3 := ⟨(hb3.block _ (lt_at hz2)).trans hz2, hx3, (hd1.carry hb2).carry hb3, Tf.of lb 0 r (bel2 (bel2 hb1 hb2) hb3), Nat.lt_of_lt_of_le (lt_at hg1) hb2.size⟩; have hrec3 := (hb3.block _ (lt_at hrec2)).trans hrec2; have hne3 := lt_at hrec2; rw [hu2]) | (refine wpList_store_row rfl 71 (.tmp 7) (.tmp 18) rfl u2.heap.size (kA z3L 1 0 0) rfl rfl 71 _ hJ3.x infoRB rfl (by simp [kA, z3L, Value.oneCell']) ?_; obtain ⟨u4, hu4⟩ : ∃ u4, u3.setRow u2.heap.size (kA z3L 1 0 0) = u4 := ⟨_, rfl⟩; have hJ4 : JWo Wi u2.heap.size lb base r c (kA z3L 1 0 0) d u4 := (by rw [← hu4]; exact hJ3.put hlt.1 hlt.2 _); have hrec4 : u4.heap[u1.heap.size]? = some (.cells #[.int .i64 0, .int .i64 0, .int .i64 0] 36 (0, 0)) := (by rw [← hu4]; exact (setRow_other _ _ _ _ (by omega)).trans hrec3); have c0 := cell_at hrec4 0; have c1 := cell_at hrec4 1; have c2 := cell_at hrec4 2; simp at c0 c1 c2; rw [hu4]))
    rename_i hK
    refine wp_region_any hmx ?_
    refine wpAny_tabG (G := Unit) (fun g i__ => ([(.pointer (some ⟨u2.heap.size, 3, none⟩)), (.int .i64 1), (.pointer (some ⟨u2.heap.size, 4, none⟩)), (.int .i64 0), (.int .i64 (0 + 16)), (.int .i64 (bR 0)), (.pointer (some ⟨u2.heap.size, 5, none⟩)), (.int .i64 0), (.int .i64 (0 + 4)), (.int .i64 (bT 0)), (.agg #[.int .i64 (1), .int .i64 (bR 0), .int .i64 (bT 0)]), (.pointer (some ⟨u2.heap.size, 0, none⟩)), undef] : List Value).getD i__ undef) (fun g f V => JWo Wi u2.heap.size lb base r c (kA (if f 12 = true then r3 ⟨1, bR 0, bT 0⟩ else z3L) 1 0 0) d V) (by kernel_rfl) (()) (show JWo Wi u2.heap.size lb base r c (kA z3L 1 0 0) d _ from hJ4.carry (Below.refl _ _).drew) ?step2 ?fin2
    case step2 =>
      intro i o ho
      have hi : i < 13 := getElem?_lt ho
      match i, hi, ho with
      | 0, _, ho =>
        cases ho
        refine stepG_of (fun g d hdep => ?_)
        exact step_fieldAddr rfl trivial _ _ _ _ rfl rfl (fun v hw => (field_rb v _ 0).2.1)
      | 1, _, ho =>
        cases ho
        refine stepG_of (fun g d hdep => ?_)
        exact step_load rfl trivial _ _ _ rfl rfl (fun v hw => load_i64' hw.x (kA_get if_len).1)
      | 2, _, ho =>
        cases ho
        refine stepG_of (fun g d hdep => ?_)
        exact step_fieldAddr rfl trivial _ _ _ _ rfl rfl (fun v hw => (field_rb v _ 0).2.2.1)
      | 3, _, ho =>
        cases ho
        refine stepG_of (fun g d hdep => ?_)
        exact step_load rfl trivial _ _ _ rfl rfl (fun v hw => load_i64' hw.x (kA_get if_len).2.1)
      | 4, _, ho =>
        cases ho
        refine stepG_of (fun g d hdep => ?_)
        exact step_binOp rfl trivial _ _ _ _ _ _ _ rfl rfl rfl (fun v hw => bin_add64 _ _ _ hw16)
      | 5, _, ho =>
        cases ho
        refine stepG_of (fun g d hdep => ?_)
        exact step_call rfl trivial 48 _ _ [(.int .i64 (0 + 16)), (Go.Value.int Go.IntKind.i64 1099511627775)] rfl (by kernel_rfl) (enters_of Try.func48 (by kernel_rfl) rfl) (fun v hw => (least_any (0 + 16) 1099511627775 v).mono (by rintro e w' ⟨rfl, rfl⟩; exact ⟨rfl, hw⟩))
      | 6, _, ho =>
        cases ho
        refine stepG_of (fun g d hdep => ?_)
        exact step_fieldAddr rfl trivial _ _ _ _ rfl rfl (fun v hw => (field_rb v _ 0).2.2.2)
      | 7, _, ho =>
        cases ho
        refine stepG_of (fun g d hdep => ?_)
        exact step_load rfl trivial _ _ _ rfl rfl (fun v hw => load_i64' hw.x (kA_get if_len).2.2)
      | 8, _, ho =>
        cases ho
        refine stepG_of (fun g d hdep => ?_)
        exact step_binOp rfl trivial _ _ _ _ _ _ _ rfl rfl rfl (fun v hw => bin_add64 _ _ _ hw4)
      | 9, _, ho =>
        cases ho
        refine stepG_of (fun g d hdep => ?_)
        exact step_call rfl trivial 48 _ _ [(.int .i64 (0 + 4)), (Go.Value.int Go.IntKind.i64 1048576)] rfl (by kernel_rfl) (enters_of Try.func48 (by kernel_rfl) rfl) (fun v hw => (least_any (0 + 4) 1048576 v).mono (by rintro e w' ⟨rfl, rfl⟩; exact ⟨rfl, hw⟩))
      | 10, _, ho =>
        cases ho
        exact stepG_struct3 rfl rfl _ _ _ _ (fun g => .int .i64 (1)) (fun g => .int .i64 (bR 0)) (fun g => .int .i64 (bT 0)) rfl (fun g => ⟨rfl, rfl, rfl⟩) (fun g d V hJ hun => ⟨build_R _ _ _ V, hJ⟩)
      | 11, _, ho =>
        cases ho
        refine stepG_of (fun g d hdep => ?_)
        exact step_fieldAddr rfl trivial _ _ _ _ rfl rfl (fun v hw => (field_rb v _ 0).1)
      | 12, _, ho =>
        cases ho
        refine stepG_of (fun g d hdep => ?_)
        exact step_store rfl trivial rfl _ _ _ _ _ rfl rfl rfl (fun v hw => ⟨_, store_kA ⟨1, bR 0, bT 0⟩ if_len hw.x, hw.put hlt.1 hlt.2 _⟩)
    intro g d W hall hW
    first | refine hK _ _ ?_ | refine (‹∀ (a : Act) (w : World), Code.wp Try.prog _ _ a w → _›) _ _ ?_ | skip
    simp only [finL, List.getD_cons_zero, List.getD_cons_succ, Nat.zero_add, Nat.reduceAdd, List.setIfInBounds_toArray, List.set_cons_zero, List.set_cons_succ]
    simp only [hall 12 (by decide), if_true] at hW
    clear hK
    have c0 := cell_at hW.x 0
    have c1 := cell_at hW.x 1
    have c2 := cell_at hW.x 2
    unfold kA r3 at c0 c1 c2
    simp at c0 c1 c2
    have hsv := rSave_any hW.d ⟨1, bR 0, bT 0⟩ hf hw0 hw
    have hdef : nxL ⟨0, 0, 0⟩ = ⟨1, bR 0, bT 0⟩ := rfl
    rw [← hdef] at hsv
    rw [HE.out, HD1.out, hdef] at hsv
    unfold rV at hsv
    dsimp only at hsv
    have hzW := lt_at hW.z
    have hnx := hW.n
    by_cases hz : E = 0
    case neg =>
      go_wp2_with (first | (go_at_call 49; (with_reducible refine hsv.mono ?_); rintro e v1 ⟨rfl, hv1, hv2⟩; have hz6 := (hv2.block _ hzW (by omega) (by omega)).trans hW.z; have ht6 := hW.t.trans hv2) | (refine wpList_store_row rfl 71 (.tmp 2) (.tmp 51) rfl Wi.heap.size z6A rfl rfl 71 _ hz6 infoRB rfl (by simp [z6A, Value.oneCell']) ?_; obtain ⟨v, hv⟩ : ∃ v, v1.setRow Wi.heap.size z6A = v := ⟨_, rfl⟩; have HV : Hid (v.heap[Wi.heap.size]? = some (.cells z6A 71 (0, 0))) := (by rw [← hv]; exact setRow_heap _ _ _ _ _ _ hz6); have HT : Hid (Tf lb 0 r Wi v) := (by rw [← hv]; exact ht6.row (Nat.le_refl _) hlt.1 _); have HD : Hid (RfD v lb 0 base r c D1) := (by rw [← hv]; exact hv1.same ((Tp.row _ v1 _).block _ hv1.lt.1 (by omega)) ((Tp.row _ v1 _).block _ hv1.lt.2 (by omega))); rw [hv]))
      (try simp only [Exit.inBlock, Exit.then])
      exact retC2 rfl rfl rfl rfl HV.out undRB infoRB ⟨fun h => absurd h hz, fun _ => rfl, HD.out, HT.out⟩
    subst hz
    go_wp2_with (first | (go_at_call 49; (with_reducible refine hsv.mono ?_); rintro e v1 ⟨rfl, hv1, hv2⟩; have hz6 := (hv2.block _ hzW (by omega) (by omega)).trans hW.z; have ht6 := hW.t.trans hv2; have hx6 := (hv2.block _ (lt_at hW.x) (by omega) (by omega)).trans hW.x) | (refine wpList_load_row rfl 71 (.tmp 7) rfl u2.heap.size rfl 71 _ (0, 0) _ hx6 undRB rfl infoRB ?_) | (refine wpList_store_row rfl 71 (.tmp 2) (.tmp 53) rfl Wi.heap.size (kA (r3 ⟨1, bR 0, bT 0⟩) 1 0 0) rfl rfl 71 _ hz6 infoRB rfl (by simp [kA, r3, Value.oneCell']) ?_; obtain ⟨v, hv⟩ : ∃ v, v1.setRow Wi.heap.size (kA (r3 ⟨1, bR 0, bT 0⟩) 1 0 0) = v := ⟨_, rfl⟩; have HV : Hid (v.heap[Wi.heap.size]? = some (.cells (kA (r3 ⟨1, bR 0, bT 0⟩) 1 0 0) 71 (0, 0))) := (by rw [← hv]; exact setRow_heap _ _ _ _ _ _ hz6); have HT : Hid (Tf lb 0 r Wi v) := (by rw [← hv]; exact ht6.row (Nat.le_refl _) hlt.1 _); have HD : Hid (RfD v lb 0 base r c D1) := (by rw [← hv]; exact hv1.same ((Tp.row _ v1 _).block _ hv1.lt.1 (by omega)) ((Tp.row _ v1 _).block _ hv1.lt.2 (by omega))); rw [hv]))
    (try simp only [Exit.inBlock, Exit.then])
    exact retC2 rfl rfl rfl rfl HV.out undRB infoRB ⟨rfl, HD.out, HT.out⟩
end
end Go.Proofs.Ytjleggnkacmbbaa
