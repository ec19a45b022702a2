/- The document's Raise: what it answers. -/
import Derived.Test.YtklnfbanfgdgcaaGreatDoorJnJ39
import Derived.Test.YtklnfbanfgdgcaaGreatDoorJnJ13
import Derived.Test.YtklnfbanfgdgcaaGreatDoorJnJ37
import Derived.Test.YtklnfbanfgdgcaaGreatDoorJnJ33
set_option maxHeartbeats 40000000
set_option maxRecDepth 100000
set_option linter.unusedVariables false
namespace Go.Proofs.YtklnfbanfgdgcaaGreatDoor
open Go.RowKit Go.Shelf Go.Lib

section
variable {W V : World} {g q p lb base r c : Nat} {b : Bo} {d : Dst}
/-- The document's Boot as a value. -/
def rbA (b : Bo) : Array Value := #[.int .i64 b.r.li, .int .i64 b.r.ro, .int .i64 b.r.ta, .int .i64 b.r.li, .int .i64 b.ro, .int .i64 b.ta]
def z6A : Array Value := #[.int .i64 0, .int .i64 0, .int .i64 0, .int .i64 0, .int .i64 0, .int .i64 0]
theorem undRB : Tryz.prog.underlying 45 = some (.struct ((match Tryz.prog.underlying 45 with | some (.struct f) => f | _ => #[]))) := by kernel_rfl
theorem infoRB : (Tryz.prog.info? 45).map (·.size) = some 6 := by kernel_rfl
/-- While the document's Open goes on: the result, its Boot at X. -/
structure JWo (W0 : World) (X lb base r c : Nat) (C : Array Value) (d : Dst) (W : World) : Prop where
  z : W.heap[W0.heap.size]? = some (.cells z6A 45 (0, 0))
  x : W.heap[X]? = some (.cells C 45 (0, 0))
  d : RfD W lb 0 base r c d
  t : Tf lb 0 r W0 W
  n : W0.heap.size < X
theorem JWo.carry {W0 : World} {X : Nat} {C : Array Value} (h : JWo W0 X lb base r c C d W) (hb : Below W.heap.size W V) : JWo W0 X lb base r c C d V := ⟨(hb.block _ (lt_at h.z)).trans h.z, (hb.block _ (lt_at h.x)).trans h.x, h.d.carry hb, h.t.trans (Tf.of _ _ _ hb), h.n⟩
theorem Tf.row {lb r X : Nat} {W0 W : World} (h : Tf lb 0 r W0 W) (h1 : W0.heap.size ≤ X) (h2 : lb < W0.heap.size) (C : Array Value) : Tf lb 0 r W0 (W.setRow X C) := by
  have k := TpZ.row X W C
  exact ⟨k.os.trans h.os, k.tape.trans h.tape, k.output.trans h.output, Nat.le_trans h.size k.size, fun j hj a b => (k.block j (Nat.lt_of_lt_of_le hj h.size) (by omega)).trans (h.block j hj a b), fun cur hc => by
    obtain ⟨c1, a1, a2⟩ := h.lk cur hc
    exact ⟨c1, (k.block _ (Nat.lt_of_lt_of_le h2 h.size) (by omega)).trans a1, a2⟩⟩
theorem JWo.put {W0 : World} {X : Nat} {C : Array Value} (h : JWo W0 X lb base r c C d W) (hl : lb < W0.heap.size) (hr : r < W0.heap.size) (D : Array Value) : JWo W0 X lb base r c D d (W.setRow X D) := by
  have k := TpZ.row X W D
  have n := h.n
  exact ⟨(k.block _ (lt_at h.z) (by omega)).trans h.z, setRow_heap _ _ _ _ _ _ h.x, h.d.same (k.block _ h.d.lt.1 (by omega)) (k.block _ h.d.lt.2 (by omega)), h.t.row (by omega) hl D, n⟩
theorem load_i64' {W : World} {B o : Nat} {C : Array Value} {t : TypeId} {x : Int} (h : W.heap[B]? = some (.cells C t (0, 0))) (hx : C[o]? = some (.int .i64 x)) : (Instr.loadAt 3 (.pointer (some ⟨B, o, none⟩))).run Tryz.prog W = .ok (.int .i64 x) W := load_i64Z (by rw [cell_at h]; exact hx)
end

section
variable {W V : World} {lb base r c : Nat} {d : Dst}
theorem nwT_40 (d : Dst) (h : (nwTZ d).e = 40) : (nwTZ d).r = rec0 := by
  unfold nwTZ at h ⊢
  split at h
  · exact absurd h (by decide)
  · rename_i ho
    rw [if_neg ho]
    cases hn : nw d.l with
    | none => rfl
    | some x => rw [hn] at h; exact absurd (show (0 : Int) = 40 from h) (by decide)
def kA (k : List Value) (L R T : Int) : Array Value := (k ++ ([.int .i64 L, .int .i64 R, .int .i64 T] : List Value)).toArray
def z3L : List Value := [.int .i64 0, .int .i64 0, .int .i64 0]
theorem store_kA {W : World} {X : Nat} {L R T : Int} {k : List Value} (x : Rec) (hk : k.length = 3) (h : W.heap[X]? = some (.cells (kA k L R T) 45 (0, 0))) : (Instr.storeAt 23 (.pointer (some ⟨X, 0, none⟩)) (.agg #[.int .i64 x.li, .int .i64 x.ro, .int .i64 x.ta])).run Tryz.prog W = .ok () (W.setRow X (kA (r3 x) L R T)) := by
  have h1 := run_store_inZ (P := Tryz.prog) W X 0 45 23 (kA k L R T).toList (r3 x) (by simpa using h) infoR (by unfold kA r3; simp) (by simp [r3, Value.oneCell'])
  have e : (splice (kA k L R T).toList 0 (r3 x)).toArray = kA (r3 x) L R T := by
    match k, hk with
    | [a, b, c], _ => rfl
  rw [e] at h1
  exact h1
theorem kA_get {k : List Value} {L R T : Int} (hk : k.length = 3) : (kA k L R T)[3]? = some (.int .i64 L) ∧ (kA k L R T)[4]? = some (.int .i64 R) ∧ (kA k L R T)[5]? = some (.int .i64 T) := by
  match k, hk with
  | [a, b, c], _ => exact ⟨rfl, rfl, rfl⟩
theorem if_len {b : Bool} {x : Rec} : (if b = true then r3 x else z3L).length = 3 := by split <;> rfl
set_option maxHeartbeats 16000000 in
set_option maxRecDepth 100000 in
theorem rOpen_any {Wi : World} (hd : RfD Wi lb 0 base r c d) (hf : Fz d) (hw0 : 0 ≤ d.writes) (hw : d.writes ≤ 4611686018427387903) : Calls Tryz.prog 31 #[.pointer (some ⟨lb, 0, none⟩)] Wi fun e w' => ((dOp d).e = 0 → e = .returned (.tuple #[.agg (rbA (dOp d).b), .int .i64 0])) ∧ ((dOp d).e ≠ 0 → e = .returned (.tuple #[.agg z6A, .int .i64 (dOp d).e])) ∧ RfD w' lb 0 base r c (dOp d).d ∧ Tf lb 0 r Wi w' := by
  have hmx : Tryz.prog.follows .mixedOrders = true := by kernel_rfl
  obtain ⟨w1, hw1⟩ : ∃ w1, Wi.alloc (.cells #[.int .i64 0, .int .i64 0, .int .i64 0, .int .i64 0, .int .i64 0, .int .i64 0] 45) = w1 := ⟨_, rfl⟩
  have hb1 : Below Wi.heap.size Wi w1 := by rw [← hw1]; exact al1'Z _ _
  have hg1 : w1.heap[Wi.heap.size]? = some (.cells z6A 45 (0, 0)) := by rw [← hw1]; exact new_at rfl
  have hd1 := hd.carry hb1
  have hlt := hd.lt
  have hld := rLoad_any hd1
  have hr := nwT_r d
  have he2 := nwT_e2 d
  have hoe := nwT_e d
  have h40 := nwT_40 d
  unfold dOp
  obtain ⟨t, ht⟩ : ∃ t, nwTZ d = t := ⟨_, rfl⟩
  rw [ht] at hld hr he2 hoe h40 ⊢
  clear ht
  obtain ⟨⟨l, ro, a⟩, s, k, e⟩ := t
  unfold ldV rV at hld
  dsimp only at hld hr he2 hoe h40 ⊢
  by_cases ho : d.off = true
  case pos =>
    obtain rfl := hoe.2 ho
    rw [if_pos ho]
    clear he2 hoe h40
    go_enter Tryz.func31, Tryz.ntmps31
    go_wp2_with (first | (go_at_call 120; (with_reducible refine hld.mono ?_); rintro e u1 ⟨rfl, hu1⟩; obtain ⟨u2, hu2⟩ : ∃ u2, u1.alloc (.cells #[.int .i64 l, .int .i64 ro, .int .i64 a] 23) = u2 := ⟨_, rfl⟩; have hb2 : Below w1.heap.size w1 u2 := (by rw [← hu2]; exact bel2Z hu1 (al1'Z _ _)); have hz2 := (hb2.block _ (lt_at hg1)).trans hg1; have ht2 := Tf.of lb 0 r (bel2Z hb1 hb2)) | (refine wpList_store_row rfl 45 (.tmp 2) (.tmp 16) rfl Wi.heap.size z6A rfl rfl 45 _ hz2 infoRB rfl (by simp [z6A, Value.oneCell']) ?_; obtain ⟨v, hv⟩ : ∃ v, u2.setRow Wi.heap.size z6A = v := ⟨_, rfl⟩; have HV : Hid (v.heap[Wi.heap.size]? = some (.cells z6A 45 (0, 0))) := (by rw [← hv]; exact setRow_heap _ _ _ _ _ _ hz2); have HT : Hid (Tf lb 0 r Wi v) := (by rw [← hv]; exact ht2.row (Nat.le_refl _) hlt.1 _); have HD : Hid (RfD v lb 0 base r c d) := (by rw [← hv]; exact (hd1.carry hb2).same ((TpZ.row _ u2 _).block _ (hd1.carry hb2).lt.1 (by omega)) ((TpZ.row _ u2 _).block _ (hd1.carry hb2).lt.2 (by omega))); rw [hv]))
    (try simp only [Exit.inBlock, Exit.then])
    exact retC2Z rfl rfl rfl rfl HV.out undRB infoRB ⟨fun h => absurd (show (100 : Int) = 0 from h) (by decide), fun _ => rfl, HD.out, HT.out⟩
  rw [if_neg ho]
  have he := he2 ho
  clear he2 hoe
  by_cases hl : l = 1073741824
  case pos =>
    rw [if_pos hl]
    subst hl
    obtain rfl : e = 0 := by
      rcases he with q | q
      · exact q
      · have := h40 q
        simp only [rec0, Rec.mk.injEq] at this
        exact absurd this.1 (by decide)
    clear h40
    go_enter Tryz.func31, Tryz.ntmps31
    go_wp2_with (first | (go_at_call 120; (with_reducible refine hld.mono ?_); rintro e u1 ⟨rfl, hu1⟩; obtain ⟨u2, hu2⟩ : ∃ u2, u1.alloc (.cells #[.int .i64 1073741824, .int .i64 ro, .int .i64 a] 23) = u2 := ⟨_, rfl⟩; have hb2 : Below w1.heap.size w1 u2 := (by rw [← hu2]; exact bel2Z hu1 (al1'Z _ _)); have hz2 := (hb2.block _ (lt_at hg1)).trans hg1; have hrec2 : u2.heap[u1.heap.size]? = some (.cells #[.int .i64 1073741824, .int .i64 ro, .int .i64 a] 23 (0, 0)) := (by rw [← hu2]; exact new_at rfl); obtain ⟨u3, hu3⟩ : ∃ u3, u2.alloc (.cells #[.int .i64 0, .int .i64 0, .int .i64 0, .int .i64 0, .int .i64 0, .int .i64 0] 45) = u3 := ⟨_, rfl⟩; have hb3 : Below u2.heap.size u2 u3 := (by rw [← hu3]; exact al1'Z _ _); have hx3 : u3.heap[u2.heap.size]? = some (.cells z6A 45 (0, 0)) := (by rw [← hu3]; exact new_at rfl); have hJ3 : JWo Wi u2.heap.size lb base r c z6A d u3 := ⟨(hb3.block _ (lt_at hz2)).trans hz2, hx3, (hd1.carry hb2).carry hb3, Tf.of lb 0 r (bel2Z (bel2Z hb1 hb2) hb3), Nat.lt_of_lt_of_le (lt_at hg1) hb2.size⟩; have hrec3 := (hb3.block _ (lt_at hrec2)).trans hrec2; have hne3 := lt_at hrec2) | (refine wpList_store_row rfl 45 (.tmp 7) (.tmp 18) rfl u2.heap.size (kA z3L 1 0 0) rfl rfl 45 _ hJ3.x infoRB rfl (by simp [kA, z3L, Value.oneCell']) ?_; obtain ⟨u4, hu4⟩ : ∃ u4, u3.setRow u2.heap.size (kA z3L 1 0 0) = u4 := ⟨_, rfl⟩; have hJ4 : JWo Wi u2.heap.size lb base r c (kA z3L 1 0 0) d u4 := (by rw [← hu4]; exact hJ3.put hlt.1 hlt.2 _); have hrec4 : u4.heap[u1.heap.size]? = some (.cells #[.int .i64 1073741824, .int .i64 ro, .int .i64 a] 23 (0, 0)) := (by rw [← hu4]; exact (setRow_other _ _ _ _ (by omega)).trans hrec3); have c0 := cell_at hrec4 0; simp at c0; rw [hu4]) | (refine wpList_store_row rfl 45 (.tmp 2) (.tmp 24) rfl Wi.heap.size z6A rfl rfl 45 _ hJ4.z infoRB rfl (by simp [z6A, Value.oneCell']) ?_; obtain ⟨v, hv⟩ : ∃ v, u4.setRow Wi.heap.size z6A = v := ⟨_, rfl⟩; have HV : Hid (v.heap[Wi.heap.size]? = some (.cells z6A 45 (0, 0))) := (by rw [← hv]; exact setRow_heap _ _ _ _ _ _ hJ4.z); have HT : Hid (Tf lb 0 r Wi v) := (by rw [← hv]; exact hJ4.t.row (Nat.le_refl _) hlt.1 _); have HD : Hid (RfD v lb 0 base r c d) := (by rw [← hv]; exact hJ4.d.same ((TpZ.row _ u4 _).block _ hJ4.d.lt.1 (by omega)) ((TpZ.row _ u4 _).block _ hJ4.d.lt.2 (by omega))); rw [hv]))
    (try simp only [Exit.inBlock, Exit.then])
    exact retC2Z rfl rfl rfl rfl HV.out undRB infoRB ⟨fun h => absurd (show (120 : Int) = 0 from h) (by decide), fun _ => rfl, HD.out, HT.out⟩
  rw [if_neg hl]
  obtain ⟨E, hE⟩ : ∃ E, (dSv d (nxL ⟨l, ro, a⟩)).1 = E := ⟨_, rfl⟩
  obtain ⟨D1, hD1⟩ : ∃ D1, (dSv d (nxL ⟨l, ro, a⟩)).2 = D1 := ⟨_, rfl⟩
  have HE : Hid ((dSv d (nxL ⟨l, ro, a⟩)).1 = E) := hE
  have HD1 : Hid ((dSv d (nxL ⟨l, ro, a⟩)).2 = D1) := hD1
  rw [hE, hD1]
  clear hE hD1
  have hwl := i64_idZ (l + 1) (by omega) (by omega)
  have hw16 := i64_idZ (ro + 16) (by omega) (by omega)
  have hw4 := i64_idZ (a + 4) (by omega) (by omega)
  rcases he with rfl | rfl
  · clear h40
    go_enter Tryz.func31, Tryz.ntmps31
    go_wp2_with (first | (go_at_call 120; (with_reducible refine hld.mono ?_); rintro e u1 ⟨rfl, hu1⟩; obtain ⟨u2, hu2⟩ : ∃ u2, u1.alloc (.cells #[.int .i64 l, .int .i64 ro, .int .i64 a] 23) = u2 := ⟨_, rfl⟩; have hb2 : Below w1.heap.size w1 u2 := (by rw [← hu2]; exact bel2Z hu1 (al1'Z _ _)); have hz2 := (hb2.block _ (lt_at hg1)).trans hg1; have hrec2 : u2.heap[u1.heap.size]? = some (.cells #[.int .i64 l, .int .i64 ro, .int .i64 a] 23 (0, 0)) := (by rw [← hu2]; exact new_at rfl); obtain ⟨u3, hu3⟩ : ∃ u3, u2.alloc (.cells #[.int .i64 0, .int .i64 0, .int .i64 0, .int .i64 0, .int .i64 0, .int .i64 0] 45) = u3 := ⟨_, rfl⟩; have hb3 : Below u2.heap.size u2 u3 := (by rw [← hu3]; exact al1'Z _ _); have hx3 : u3.heap[u2.heap.size]? = some (.cells z6A 45 (0, 0)) := (by rw [← hu3]; exact new_at rfl); have hJ3 : JWo Wi u2.heap.size lb base r c z6A d u3 := ⟨(hb3.block _ (lt_at hz2)).trans hz2, hx3, (hd1.carry hb2).carry hb3, Tf.of lb 0 r (bel2Z (bel2Z hb1 hb2) hb3), Nat.lt_of_lt_of_le (lt_at hg1) hb2.size⟩; have hrec3 := (hb3.block _ (lt_at hrec2)).trans hrec2; have hne3 := lt_at hrec2) | (refine wpList_store_row rfl 45 (.tmp 7) (.tmp 18) rfl u2.heap.size (kA z3L 1 0 0) rfl rfl 45 _ hJ3.x infoRB rfl (by simp [kA, z3L, Value.oneCell']) ?_; obtain ⟨u4, hu4⟩ : ∃ u4, u3.setRow u2.heap.size (kA z3L 1 0 0) = u4 := ⟨_, rfl⟩; have hJ4 : JWo Wi u2.heap.size lb base r c (kA z3L 1 0 0) d u4 := (by rw [← hu4]; exact hJ3.put hlt.1 hlt.2 _); have hrec4 : u4.heap[u1.heap.size]? = some (.cells #[.int .i64 l, .int .i64 ro, .int .i64 a] 23 (0, 0)) := (by rw [← hu4]; exact (setRow_other _ _ _ _ (by omega)).trans hrec3); have c0 := cell_at hrec4 0; have c1 := cell_at hrec4 1; have c2 := cell_at hrec4 2; simp at c0 c1 c2; rw [hu4]) | (refine wpList_store_row rfl 45 (.tmp 7) (.tmp 32) rfl u2.heap.size (kA z3L (l + 1) ro a) rfl rfl 45 _ hJ4.x infoRB rfl (by simp [kA, z3L, Value.oneCell']) ?_; obtain ⟨u5, hu5⟩ : ∃ u5, u4.setRow u2.heap.size (kA z3L (l + 1) ro a) = u5 := ⟨_, rfl⟩; have hJ5 : JWo Wi u2.heap.size lb base r c (kA z3L (l + 1) ro a) d u5 := (by rw [← hu5]; exact hJ4.put hlt.1 hlt.2 _); rw [hu5]))
    rename_i hK
    refine wp_region_any hmx ?_
    refine wpAny_tabG (G := Unit) (fun g i__ => ([(.pointer (some ⟨u2.heap.size, 3, none⟩)), (.int .i64 (l + 1)), (.pointer (some ⟨u2.heap.size, 4, none⟩)), (.int .i64 ro), (.int .i64 (ro + 16)), (.int .i64 (bR ro)), (.pointer (some ⟨u2.heap.size, 5, none⟩)), (.int .i64 a), (.int .i64 (a + 4)), (.int .i64 (bT a)), (.agg #[.int .i64 ((l + 1)), .int .i64 (bR ro), .int .i64 (bT a)]), (.pointer (some ⟨u2.heap.size, 0, none⟩)), undef] : List Value).getD i__ undef) (fun g f V => JWo Wi u2.heap.size lb base r c (kA (if f 12 = true then r3 ⟨(l + 1), bR ro, bT a⟩ else z3L) (l + 1) ro a) d V) (by kernel_rfl) (()) (show JWo Wi u2.heap.size lb base r c (kA z3L (l + 1) ro a) d _ from hJ5.carry (Below.refl _ _).drew) ?step29 ?fin29
    case step29 =>
      intro i o ho
      have hi : i < 13 := getElem?_lt ho
      match i, hi, ho with
      | 0, _, ho =>
        cases ho
        refine stepG_of (fun g d hdep => ?_)
        exact step_fieldAddr rfl trivial _ _ _ _ rfl rfl (fun v hw => (field_rbZF v _ 0).2.1)
      | 1, _, ho =>
        cases ho
        refine stepG_of (fun g d hdep => ?_)
        exact step_load rfl trivial _ _ _ rfl rfl (fun v hw => load_i64' hw.x (kA_get if_len).1)
      | 2, _, ho =>
        cases ho
        refine stepG_of (fun g d hdep => ?_)
        exact step_fieldAddr rfl trivial _ _ _ _ rfl rfl (fun v hw => (field_rbZF v _ 0).2.2.1)
      | 3, _, ho =>
        cases ho
        refine stepG_of (fun g d hdep => ?_)
        exact step_load rfl trivial _ _ _ rfl rfl (fun v hw => load_i64' hw.x (kA_get if_len).2.1)
      | 4, _, ho =>
        cases ho
        refine stepG_of (fun g d hdep => ?_)
        exact step_binOp rfl trivial _ _ _ _ _ _ _ rfl rfl rfl (fun v hw => bin_add64 _ _ _ hw16)
      | 5, _, ho =>
        cases ho
        refine stepG_of (fun g d hdep => ?_)
        exact step_call rfl trivial 121 _ _ [(.int .i64 (ro + 16)), (Go.Value.int Go.IntKind.i64 1099511627775)] rfl (by kernel_rfl) (enters_of Tryz.func121 (by kernel_rfl) rfl) (fun v hw => (least_anyF (ro + 16) 1099511627775 v).mono (by rintro e w' ⟨rfl, rfl⟩; exact ⟨rfl, hw⟩))
      | 6, _, ho =>
        cases ho
        refine stepG_of (fun g d hdep => ?_)
        exact step_fieldAddr rfl trivial _ _ _ _ rfl rfl (fun v hw => (field_rbZF v _ 0).2.2.2)
      | 7, _, ho =>
        cases ho
        refine stepG_of (fun g d hdep => ?_)
        exact step_load rfl trivial _ _ _ rfl rfl (fun v hw => load_i64' hw.x (kA_get if_len).2.2)
      | 8, _, ho =>
        cases ho
        refine stepG_of (fun g d hdep => ?_)
        exact step_binOp rfl trivial _ _ _ _ _ _ _ rfl rfl rfl (fun v hw => bin_add64 _ _ _ hw4)
      | 9, _, ho =>
        cases ho
        refine stepG_of (fun g d hdep => ?_)
        exact step_call rfl trivial 121 _ _ [(.int .i64 (a + 4)), (Go.Value.int Go.IntKind.i64 1048576)] rfl (by kernel_rfl) (enters_of Tryz.func121 (by kernel_rfl) rfl) (fun v hw => (least_anyF (a + 4) 1048576 v).mono (by rintro e w' ⟨rfl, rfl⟩; exact ⟨rfl, hw⟩))
      | 10, _, ho =>
        cases ho
        exact stepG_struct3 rfl rfl _ _ _ _ (fun g => .int .i64 ((l + 1))) (fun g => .int .i64 (bR ro)) (fun g => .int .i64 (bT a)) rfl (fun g => ⟨rfl, rfl, rfl⟩) (fun g d V hJ hun => ⟨build_R _ _ _ V, hJ⟩)
      | 11, _, ho =>
        cases ho
        refine stepG_of (fun g d hdep => ?_)
        exact step_fieldAddr rfl trivial _ _ _ _ rfl rfl (fun v hw => (field_rbZF v _ 0).1)
      | 12, _, ho =>
        cases ho
        refine stepG_of (fun g d hdep => ?_)
        exact step_store rfl trivial rfl _ _ _ _ _ rfl rfl rfl (fun v hw => ⟨_, store_kA ⟨(l + 1), bR ro, bT a⟩ if_len hw.x, hw.put hlt.1 hlt.2 _⟩)
    intro g d W hall hW
    first | refine hK _ _ ?_ | refine (‹∀ (a : Act) (w : World), Code.wp Tryz.prog _ _ a w → _›) _ _ ?_ | skip
    simp only [finL, List.getD_cons_zero, List.getD_cons_succ, Nat.zero_add, Nat.reduceAdd, List.setIfInBounds_toArray, List.set_cons_zero, List.set_cons_succ]
    simp only [hall 12 (by decide), if_true] at hW
    clear hK
    have c0 := cell_at hW.x 0
    have c1 := cell_at hW.x 1
    have c2 := cell_at hW.x 2
    unfold kA r3 at c0 c1 c2
    simp at c0 c1 c2
    have hsv := rSave_any hW.d ⟨(l + 1), bR ro, bT a⟩ hf hw0 hw
    have hdef : nxL ⟨l, ro, a⟩ = ⟨(l + 1), bR ro, bT a⟩ := rfl
    rw [← hdef] at hsv
    rw [HE.out, HD1.out, hdef] at hsv
    unfold rV at hsv
    dsimp only at hsv
    have hzW := lt_at hW.z
    have hnx := hW.n
    by_cases hz : E = 0
    case neg =>
      go_wp2_with (first | (go_at_call 122; (with_reducible refine hsv.mono ?_); rintro e v1 ⟨rfl, hv1, hv2⟩; have hz6 := (hv2.block _ hzW (by omega) (by omega)).trans hW.z; have ht6 := hW.t.trans hv2) | (refine wpList_store_row rfl 45 (.tmp 2) (.tmp 51) rfl Wi.heap.size z6A rfl rfl 45 _ hz6 infoRB rfl (by simp [z6A, Value.oneCell']) ?_; obtain ⟨v, hv⟩ : ∃ v, v1.setRow Wi.heap.size z6A = v := ⟨_, rfl⟩; have HV : Hid (v.heap[Wi.heap.size]? = some (.cells z6A 45 (0, 0))) := (by rw [← hv]; exact setRow_heap _ _ _ _ _ _ hz6); have HT : Hid (Tf lb 0 r Wi v) := (by rw [← hv]; exact ht6.row (Nat.le_refl _) hlt.1 _); have HD : Hid (RfD v lb 0 base r c D1) := (by rw [← hv]; exact hv1.same ((TpZ.row _ v1 _).block _ hv1.lt.1 (by omega)) ((TpZ.row _ v1 _).block _ hv1.lt.2 (by omega))); rw [hv]))
      (try simp only [Exit.inBlock, Exit.then])
      exact retC2Z rfl rfl rfl rfl HV.out undRB infoRB ⟨fun h => absurd h hz, fun _ => rfl, HD.out, HT.out⟩
    subst hz
    go_wp2_with (first | (go_at_call 122; (with_reducible refine hsv.mono ?_); rintro e v1 ⟨rfl, hv1, hv2⟩; have hz6 := (hv2.block _ hzW (by omega) (by omega)).trans hW.z; have ht6 := hW.t.trans hv2; have hx6 := (hv2.block _ (lt_at hW.x) (by omega) (by omega)).trans hW.x) | (refine wpList_load_row rfl 45 (.tmp 7) rfl u2.heap.size rfl 45 _ (0, 0) _ hx6 undRB rfl infoRB ?_) | (refine wpList_store_row rfl 45 (.tmp 2) (.tmp 53) rfl Wi.heap.size (kA (r3 ⟨(l + 1), bR ro, bT a⟩) (l + 1) ro a) rfl rfl 45 _ hz6 infoRB rfl (by simp [kA, r3, Value.oneCell']) ?_; obtain ⟨v, hv⟩ : ∃ v, v1.setRow Wi.heap.size (kA (r3 ⟨(l + 1), bR ro, bT a⟩) (l + 1) ro a) = v := ⟨_, rfl⟩; have HV : Hid (v.heap[Wi.heap.size]? = some (.cells (kA (r3 ⟨(l + 1), bR ro, bT a⟩) (l + 1) ro a) 45 (0, 0))) := (by rw [← hv]; exact setRow_heap _ _ _ _ _ _ hz6); have HT : Hid (Tf lb 0 r Wi v) := (by rw [← hv]; exact ht6.row (Nat.le_refl _) hlt.1 _); have HD : Hid (RfD v lb 0 base r c D1) := (by rw [← hv]; exact hv1.same ((TpZ.row _ v1 _).block _ hv1.lt.1 (by omega)) ((TpZ.row _ v1 _).block _ hv1.lt.2 (by omega))); rw [hv]))
    (try simp only [Exit.inBlock, Exit.then])
    exact retC2Z rfl rfl rfl rfl HV.out undRB infoRB ⟨rfl, HD.out, HT.out⟩
  · have h4 := h40 rfl
    simp only [rec0, Rec.mk.injEq] at h4
    obtain ⟨rfl, rfl, rfl⟩ := h4
    clear h40
    go_enter Tryz.func31, Tryz.ntmps31
    go_wp2_with (first | (go_at_call 120; (with_reducible refine hld.mono ?_); rintro e u1 ⟨rfl, hu1⟩; obtain ⟨ua, hua⟩ : ∃ ua, u1.alloc (.cells #[.int .i64 0, .int .i64 0, .int .i64 0] 23) = ua := ⟨_, rfl⟩; have hba : Below w1.heap.size w1 ua := (by rw [← hua]; exact bel2Z hu1 (al1'Z _ _)); have hga : ua.heap[u1.heap.size]? = some (.cells #[.int .i64 0, .int .i64 0, .int .i64 0] 23 (0, 0)) := (by rw [← hua]; exact new_at rfl)) | (refine wpList_store_row rfl 23 (.tmp 4) (.tmp 11) rfl u1.heap.size #[.int .i64 0, .int .i64 0, .int .i64 0] rfl rfl 23 _ hga infoR rfl (by simp [Value.oneCell']) ?_; obtain ⟨u2, hu2⟩ : ∃ u2, ua.setRow u1.heap.size #[.int .i64 0, .int .i64 0, .int .i64 0] = u2 := ⟨_, rfl⟩; have hb2 : Below w1.heap.size w1 u2 := (by rw [← hu2]; exact below_setRow hba hu1.size _); have hz2 := (hb2.block _ (lt_at hg1)).trans hg1; have hrec2 : u2.heap[u1.heap.size]? = some (.cells #[.int .i64 0, .int .i64 0, .int .i64 0] 23 (0, 0)) := (by rw [← hu2]; exact setRow_heap _ _ _ _ _ _ hga); obtain ⟨u3, hu3⟩ : ∃ u3, u2.alloc (.cells #[.int .i64 0, .int .i64 0, .int .i64 0, .int .i64 0, .int .i64 0, .int .i64 0] 45) = u3 := ⟨_, rfl⟩; have hb3 : Below u2.heap.size u2 u3 := (by rw [← hu3]; exact al1'Z _ _); have hx3 : u3.heap[u2.heap.size]? = some (.cells z6A 45 (0, 0)) := (by rw [← hu3]; exact new_at rfl); have hJ3 : JWo Wi u2.heap.size lb base r c z6A d u3 := ⟨(hb3.block _ (lt_at hz2)).trans hz2, hx3, (hd1.carry hb2).carry hb3, Tf.of lb 0 r (bel2Z (bel2Z hb1 hb2) hb3), Nat.lt_of_lt_of_le (lt_at hg1) hb2.size⟩; have hrec3 := (hb3.block _ (lt_at hrec2)).trans hrec2; have hne3 := lt_at hrec2; rw [hu2]) | (refine wpList_store_row rfl 45 (.tmp 7) (.tmp 18) rfl u2.heap.size (kA z3L 1 0 0) rfl rfl 45 _ hJ3.x infoRB rfl (by simp [kA, z3L, Value.oneCell']) ?_; obtain ⟨u4, hu4⟩ : ∃ u4, u3.setRow u2.heap.size (kA z3L 1 0 0) = u4 := ⟨_, rfl⟩; have hJ4 : JWo Wi u2.heap.size lb base r c (kA z3L 1 0 0) d u4 := (by rw [← hu4]; exact hJ3.put hlt.1 hlt.2 _); have hrec4 : u4.heap[u1.heap.size]? = some (.cells #[.int .i64 0, .int .i64 0, .int .i64 0] 23 (0, 0)) := (by rw [← hu4]; exact (setRow_other _ _ _ _ (by omega)).trans hrec3); have c0 := cell_at hrec4 0; have c1 := cell_at hrec4 1; have c2 := cell_at hrec4 2; simp at c0 c1 c2; rw [hu4]))
    rename_i hK
    refine wp_region_any hmx ?_
    refine wpAny_tabG (G := Unit) (fun g i__ => ([(.pointer (some ⟨u2.heap.size, 3, none⟩)), (.int .i64 1), (.pointer (some ⟨u2.heap.size, 4, none⟩)), (.int .i64 0), (.int .i64 (0 + 16)), (.int .i64 (bR 0)), (.pointer (some ⟨u2.heap.size, 5, none⟩)), (.int .i64 0), (.int .i64 (0 + 4)), (.int .i64 (bT 0)), (.agg #[.int .i64 (1), .int .i64 (bR 0), .int .i64 (bT 0)]), (.pointer (some ⟨u2.heap.size, 0, none⟩)), undef] : List Value).getD i__ undef) (fun g f V => JWo Wi u2.heap.size lb base r c (kA (if f 12 = true then r3 ⟨1, bR 0, bT 0⟩ else z3L) 1 0 0) d V) (by kernel_rfl) (()) (show JWo Wi u2.heap.size lb base r c (kA z3L 1 0 0) d _ from hJ4.carry (Below.refl _ _).drew) ?step30 ?fin30
    case step30 =>
      intro i o ho
      have hi : i < 13 := getElem?_lt ho
      match i, hi, ho with
      | 0, _, ho =>
        cases ho
        refine stepG_of (fun g d hdep => ?_)
        exact step_fieldAddr rfl trivial _ _ _ _ rfl rfl (fun v hw => (field_rbZF v _ 0).2.1)
      | 1, _, ho =>
        cases ho
        refine stepG_of (fun g d hdep => ?_)
        exact step_load rfl trivial _ _ _ rfl rfl (fun v hw => load_i64' hw.x (kA_get if_len).1)
      | 2, _, ho =>
        cases ho
        refine stepG_of (fun g d hdep => ?_)
        exact step_fieldAddr rfl trivial _ _ _ _ rfl rfl (fun v hw => (field_rbZF v _ 0).2.2.1)
      | 3, _, ho =>
        cases ho
        refine stepG_of (fun g d hdep => ?_)
        exact step_load rfl trivial _ _ _ rfl rfl (fun v hw => load_i64' hw.x (kA_get if_len).2.1)
      | 4, _, ho =>
        cases ho
        refine stepG_of (fun g d hdep => ?_)
        exact step_binOp rfl trivial _ _ _ _ _ _ _ rfl rfl rfl (fun v hw => bin_add64 _ _ _ hw16)
      | 5, _, ho =>
        cases ho
        refine stepG_of (fun g d hdep => ?_)
        exact step_call rfl trivial 121 _ _ [(.int .i64 (0 + 16)), (Go.Value.int Go.IntKind.i64 1099511627775)] rfl (by kernel_rfl) (enters_of Tryz.func121 (by kernel_rfl) rfl) (fun v hw => (least_anyF (0 + 16) 1099511627775 v).mono (by rintro e w' ⟨rfl, rfl⟩; exact ⟨rfl, hw⟩))
      | 6, _, ho =>
        cases ho
        refine stepG_of (fun g d hdep => ?_)
        exact step_fieldAddr rfl trivial _ _ _ _ rfl rfl (fun v hw => (field_rbZF v _ 0).2.2.2)
      | 7, _, ho =>
        cases ho
        refine stepG_of (fun g d hdep => ?_)
        exact step_load rfl trivial _ _ _ rfl rfl (fun v hw => load_i64' hw.x (kA_get if_len).2.2)
      | 8, _, ho =>
        cases ho
        refine stepG_of (fun g d hdep => ?_)
        exact step_binOp rfl trivial _ _ _ _ _ _ _ rfl rfl rfl (fun v hw => bin_add64 _ _ _ hw4)
      | 9, _, ho =>
        cases ho
        refine stepG_of (fun g d hdep => ?_)
        exact step_call rfl trivial 121 _ _ [(.int .i64 (0 + 4)), (Go.Value.int Go.IntKind.i64 1048576)] rfl (by kernel_rfl) (enters_of Tryz.func121 (by kernel_rfl) rfl) (fun v hw => (least_anyF (0 + 4) 1048576 v).mono (by rintro e w' ⟨rfl, rfl⟩; exact ⟨rfl, hw⟩))
      | 10, _, ho =>
        cases ho
        exact stepG_struct3 rfl rfl _ _ _ _ (fun g => .int .i64 (1)) (fun g => .int .i64 (bR 0)) (fun g => .int .i64 (bT 0)) rfl (fun g => ⟨rfl, rfl, rfl⟩) (fun g d V hJ hun => ⟨build_R _ _ _ V, hJ⟩)
      | 11, _, ho =>
        cases ho
        refine stepG_of (fun g d hdep => ?_)
        exact step_fieldAddr rfl trivial _ _ _ _ rfl rfl (fun v hw => (field_rbZF v _ 0).1)
      | 12, _, ho =>
        cases ho
        refine stepG_of (fun g d hdep => ?_)
        exact step_store rfl trivial rfl _ _ _ _ _ rfl rfl rfl (fun v hw => ⟨_, store_kA ⟨1, bR 0, bT 0⟩ if_len hw.x, hw.put hlt.1 hlt.2 _⟩)
    intro g d W hall hW
    first | refine hK _ _ ?_ | refine (‹∀ (a : Act) (w : World), Code.wp Tryz.prog _ _ a w → _›) _ _ ?_ | skip
    simp only [finL, List.getD_cons_zero, List.getD_cons_succ, Nat.zero_add, Nat.reduceAdd, List.setIfInBounds_toArray, List.set_cons_zero, List.set_cons_succ]
    simp only [hall 12 (by decide), if_true] at hW
    clear hK
    have c0 := cell_at hW.x 0
    have c1 := cell_at hW.x 1
    have c2 := cell_at hW.x 2
    unfold kA r3 at c0 c1 c2
    simp at c0 c1 c2
    have hsv := rSave_any hW.d ⟨1, bR 0, bT 0⟩ hf hw0 hw
    have hdef : nxL ⟨0, 0, 0⟩ = ⟨1, bR 0, bT 0⟩ := rfl
    rw [← hdef] at hsv
    rw [HE.out, HD1.out, hdef] at hsv
    unfold rV at hsv
    dsimp only at hsv
    have hzW := lt_at hW.z
    have hnx := hW.n
    by_cases hz : E = 0
    case neg =>
      go_wp2_with (first | (go_at_call 122; (with_reducible refine hsv.mono ?_); rintro e v1 ⟨rfl, hv1, hv2⟩; have hz6 := (hv2.block _ hzW (by omega) (by omega)).trans hW.z; have ht6 := hW.t.trans hv2) | (refine wpList_store_row rfl 45 (.tmp 2) (.tmp 51) rfl Wi.heap.size z6A rfl rfl 45 _ hz6 infoRB rfl (by simp [z6A, Value.oneCell']) ?_; obtain ⟨v, hv⟩ : ∃ v, v1.setRow Wi.heap.size z6A = v := ⟨_, rfl⟩; have HV : Hid (v.heap[Wi.heap.size]? = some (.cells z6A 45 (0, 0))) := (by rw [← hv]; exact setRow_heap _ _ _ _ _ _ hz6); have HT : Hid (Tf lb 0 r Wi v) := (by rw [← hv]; exact ht6.row (Nat.le_refl _) hlt.1 _); have HD : Hid (RfD v lb 0 base r c D1) := (by rw [← hv]; exact hv1.same ((TpZ.row _ v1 _).block _ hv1.lt.1 (by omega)) ((TpZ.row _ v1 _).block _ hv1.lt.2 (by omega))); rw [hv]))
      (try simp only [Exit.inBlock, Exit.then])
      exact retC2Z rfl rfl rfl rfl HV.out undRB infoRB ⟨fun h => absurd h hz, fun _ => rfl, HD.out, HT.out⟩
    subst hz
    go_wp2_with (first | (go_at_call 122; (with_reducible refine hsv.mono ?_); rintro e v1 ⟨rfl, hv1, hv2⟩; have hz6 := (hv2.block _ hzW (by omega) (by omega)).trans hW.z; have ht6 := hW.t.trans hv2; have hx6 := (hv2.block _ (lt_at hW.x) (by omega) (by omega)).trans hW.x) | (refine wpList_load_row rfl 45 (.tmp 7) rfl u2.heap.size rfl 45 _ (0, 0) _ hx6 undRB rfl infoRB ?_) | (refine wpList_store_row rfl 45 (.tmp 2) (.tmp 53) rfl Wi.heap.size (kA (r3 ⟨1, bR 0, bT 0⟩) 1 0 0) rfl rfl 45 _ hz6 infoRB rfl (by simp [kA, r3, Value.oneCell']) ?_; obtain ⟨v, hv⟩ : ∃ v, v1.setRow Wi.heap.size (kA (r3 ⟨1, bR 0, bT 0⟩) 1 0 0) = v := ⟨_, rfl⟩; have HV : Hid (v.heap[Wi.heap.size]? = some (.cells (kA (r3 ⟨1, bR 0, bT 0⟩) 1 0 0) 45 (0, 0))) := (by rw [← hv]; exact setRow_heap _ _ _ _ _ _ hz6); have HT : Hid (Tf lb 0 r Wi v) := (by rw [← hv]; exact ht6.row (Nat.le_refl _) hlt.1 _); have HD : Hid (RfD v lb 0 base r c D1) := (by rw [← hv]; exact hv1.same ((TpZ.row _ v1 _).block _ hv1.lt.1 (by omega)) ((TpZ.row _ v1 _).block _ hv1.lt.2 (by omega))); rw [hv]))
    (try simp only [Exit.inBlock, Exit.then])
    exact retC2Z rfl rfl rfl rfl HV.out undRB infoRB ⟨rfl, HD.out, HT.out⟩
end
attribute [local go_sem] Oper.semAt_some
set_option linter.unusedVariables false

/-- Numbers that Open takes. -/
def Okn (n f s : Int) : Prop := (1 ≤ n ∧ n ≤ 100 ∧ 0 ≤ f ∧ f < n) ∧ 0 ≤ s ∧ s < n
theorem bad6 {n f s : Int} (h : ¬ Okn n f s) : n < 1 ∨ (¬ n < 1 ∧ n > 100) ∨ (¬ n < 1 ∧ ¬ n > 100 ∧ f < 0) ∨ (¬ n < 1 ∧ ¬ n > 100 ∧ ¬ f < 0 ∧ f ≥ n) ∨ (¬ n < 1 ∧ ¬ n > 100 ∧ ¬ f < 0 ∧ ¬ f ≥ n ∧ s < 0) ∨ (¬ n < 1 ∧ ¬ n > 100 ∧ ¬ f < 0 ∧ ¬ f ≥ n ∧ ¬ s < 0 ∧ s ≥ n) := by
  unfold Okn at h
  omega
theorem opE_bad {n f s : Int} (h : ¬ Okn n f s) : opE n f s ≠ 0 := by
  unfold opE
  split
  · decide
  · split <;> decide
set_option maxHeartbeats 8000000 in
set_option maxRecDepth 100000 in
theorem nopen_bd {n f s : Int} (h : ¬ Okn n f s) (a : Option Addr) (w : World) : Calls Tryz.prog 9 #[.int .i64 n, .int .i64 f, .int .i64 s, .pointer a] w fun r w' => r = .returned (.tuple #[.pointer none, .int .i64 (opE n f s)]) ∧ w' = w := by
  unfold opE
  rcases bad6 h with h1 | ⟨h1, h2⟩ | ⟨h1, h2, h3⟩ | ⟨h1, h2, h3, h4⟩ | ⟨h1, h2, h3, h4, h5⟩ | ⟨h1, h2, h3, h4, h5, h6⟩
  all_goals
    clear h
    first
      | rw [if_pos (show n < 1 ∨ 100 < n ∨ f < 0 ∨ n ≤ f by omega)]
      | rw [if_neg (show ¬ (n < 1 ∨ 100 < n ∨ f < 0 ∨ n ≤ f) by omega), if_pos (show s < 0 ∨ n ≤ s by omega)]
    go_enter Tryz.func9, Tryz.ntmps9
    go_wp2
    go_ret2
    exact ⟨rfl, rfl⟩
set_option maxHeartbeats 8000000 in
set_option maxRecDepth 100000 in
theorem rnopen_bd {n f s : Int} (h : ¬ Okn n f s) (a : Option Addr) (w : World) : Calls Tryz.prog 10 #[.int .i64 n, .int .i64 f, .int .i64 s, .pointer a] w fun r w' => r = .returned (.tuple #[.agg nZ, .int .i64 (opE n f s)]) ∧ Below w.heap.size w w' := by
  obtain ⟨w1, hw1⟩ : ∃ w1, w.alloc (.cells nZ 58) = w1 := ⟨_, rfl⟩
  have hb1 : Below w.heap.size w w1 := by rw [← hw1]; exact al1' _ _
  have g1 : w1.heap[w.heap.size]? = some (.cells nZ 58 (0, 0)) := by rw [← hw1]; exact new_at rfl
  unfold nZ at hw1 g1
  unfold opE
  rcases bad6 h with h1 | ⟨h1, h2⟩ | ⟨h1, h2, h3⟩ | ⟨h1, h2, h3, h4⟩ | ⟨h1, h2, h3, h4, h5⟩ | ⟨h1, h2, h3, h4, h5, h6⟩
  all_goals
    clear h
    first
      | rw [if_pos (show n < 1 ∨ 100 < n ∨ f < 0 ∨ n ≤ f by omega)]
      | rw [if_neg (show ¬ (n < 1 ∨ 100 < n ∨ f < 0 ∨ n ≤ f) by omega), if_pos (show s < 0 ∨ n ≤ s by omega)]
    go_enter Tryz.func10, Tryz.ntmps10
    go_wp2_with (first | (refine wpList_store_row rfl 58 (.tmp 8) (.tmp 29) rfl w.heap.size nZ rfl rfl 58 _ g1 infoRN rfl (by simp [nZ, Value.oneCell']) ?_; obtain ⟨v, hv⟩ : ∃ v, w1.setRow w.heap.size nZ = v := ⟨_, rfl⟩; have hgv : v.heap[w.heap.size]? = some (.cells nZ 58 (0, 0)) := (by rw [← hv]; exact setRow_heap _ _ _ _ _ _ g1); have hbv : Below w.heap.size w v := (by rw [← hv]; exact below_row hb1 (Nat.le_refl _) _); rw [hv]) | (refine wpList_store_row rfl 58 (.tmp 8) (.tmp 37) rfl w.heap.size nZ rfl rfl 58 _ g1 infoRN rfl (by simp [nZ, Value.oneCell']) ?_; obtain ⟨v, hv⟩ : ∃ v, w1.setRow w.heap.size nZ = v := ⟨_, rfl⟩; have hgv : v.heap[w.heap.size]? = some (.cells nZ 58 (0, 0)) := (by rw [← hv]; exact setRow_heap _ _ _ _ _ _ g1); have hbv : Below w.heap.size w v := (by rw [← hv]; exact below_row hb1 (Nat.le_refl _) _); rw [hv]))
    (try simp only [Exit.inBlock, Exit.then])
    exact retC2Z rfl rfl rfl rfl hgv undRN infoRN ⟨rfl, hbv⟩
section
variable {w : World} {p lb base r c n f s : Nat} {d : Dst}
theorem okn_nat (hn1 : 1 ≤ n) (hn2 : n ≤ 100) (hfn : f < n) (hsn : s < n) : ¬ ((n : Int) < 1) ∧ ¬ ((n : Int) > 100) ∧ ¬ ((f : Int) < 0) ∧ ¬ ((f : Int) ≥ (n : Int)) ∧ ¬ ((s : Int) < 0) ∧ ¬ ((s : Int) ≥ (n : Int)) := by omega
set_option maxHeartbeats 8000000 in
set_option maxRecDepth 100000 in
/-- The program's Open where the Boot is refused. -/
theorem nopen_e1 (hO : Opd d) (hD : Dk w p d) (hn1 : 1 ≤ n) (hn2 : n ≤ 100) (hfn : f < n) (hsn : s < n) (he : (dOp d).e ≠ 0) : Calls Tryz.prog 9 #[.int .i64 (n : Int), .int .i64 (f : Int), .int .i64 (s : Int), .pointer (some ⟨p, 0, none⟩)] w fun r w' => r = .returned (.tuple #[.pointer none, .int .i64 (dOp d).e]) ∧ Dk w' p (dOp d).d ∧ TpZ p w w' := by
  obtain ⟨i1, i2, i3, i4, i5, i6⟩ := okn_nat hn1 hn2 hfn hsn
  have hbo : Calls Tryz.prog 24 #[.pointer (some ⟨p, 0, none⟩)] w fun e w' => e = .returned (.tuple #[.pointer none, .int .i64 (dOp d).e]) ∧ Dk w' p (dOp d).d ∧ TpZ p w w' := (open_any hD hO.fz hO.w0 hO.wm).mono (by rintro e w' ⟨_, h2, h3, h4⟩; exact ⟨h2 he, h3, h4⟩)
  obtain ⟨E, hE⟩ : ∃ E, (dOp d).e = E := ⟨_, rfl⟩
  obtain ⟨d1, hd1⟩ : ∃ E, (dOp d).d = E := ⟨_, rfl⟩
  rw [hE, hd1] at hbo ⊢
  rw [hE] at he
  clear hE hd1 hO
  go_enter Tryz.func9, Tryz.ntmps9
  go_wp2_with (go_at_call 24; (with_reducible refine hbo.mono ?_); rintro r u1 ⟨rfl, hu1, hu2⟩)
  go_ret2
  exact ⟨rfl, hu1, hu2⟩
set_option maxHeartbeats 8000000 in
set_option maxRecDepth 100000 in
/-- The program's Open behind the last round. -/
theorem nopen_e2 (hO : Opd d) (hD : Dk w p d) (hn1 : 1 ≤ n) (hn2 : n ≤ 100) (hfn : f < n) (hsn : s < n) (he : (dOp d).e = 0) (hm : (dOp d).b.ro = 1099511627775) : Calls Tryz.prog 9 #[.int .i64 (n : Int), .int .i64 (f : Int), .int .i64 (s : Int), .pointer (some ⟨p, 0, none⟩)] w fun r w' => r = .returned (.tuple #[.pointer none, .int .i64 120]) ∧ Dk w' p (dOp d).d ∧ TpZ p w w' := by
  obtain ⟨i1, i2, i3, i4, i5, i6⟩ := okn_nat hn1 hn2 hfn hsn
  have hpl := hD.lt
  have hbo : Calls Tryz.prog 24 #[.pointer (some ⟨p, 0, none⟩)] w fun e w' => ∃ q, e = .returned (.tuple #[.pointer (some ⟨q, 0, none⟩), .int .i64 0]) ∧ w.heap.size ≤ q ∧ Bt w' q (some ⟨p, 0, none⟩) (dOp d).b ∧ Dk w' p (dOp d).d ∧ TpZ p w w' := (open_any hD hO.fz hO.w0 hO.wm).mono (by rintro e w' ⟨h1, _, h3, h4⟩; obtain ⟨q, e1, e2, e3⟩ := h1 he; exact ⟨q, e1, e2, e3, h3, h4⟩)
  have hdO : dNx (dOp d).d (dOp d).b = ⟨0, 120, (dOp d).d, (dOp d).b⟩ := by
    have := hO.dO
    rw [if_pos hm] at this
    exact this
  have hnxt : ∀ V q, Bt V q (some ⟨p, 0, none⟩) (dOp d).b → Dk V p (dOp d).d → Calls Tryz.prog 25 #[.pointer (some ⟨q, 0, none⟩)] V fun e w' => e = .returned (.tuple #[.int .i64 0, .int .i64 120]) ∧ Dk w' p (dOp d).d ∧ Bt w' q (some ⟨p, 0, none⟩) (dOp d).b ∧ Tq p q V w' := fun V q h1 h2 => by
    have := bnext_any h1 h2 (hO.okb he) hO.fz1 hO.w1 hO.wm1
    rw [hdO] at this
    exact this
  obtain ⟨d1, hd1⟩ : ∃ E, (dOp d).d = E := ⟨_, rfl⟩
  obtain ⟨b1, hb1⟩ : ∃ E, (dOp d).b = E := ⟨_, rfl⟩
  rw [hd1, hb1] at hbo hnxt
  rw [hd1]
  clear hd1 hb1 hdO hO hm he
  go_enter Tryz.func9, Tryz.ntmps9
  go_wp2_with (first
    | (go_at_call 24; (with_reducible refine hbo.mono ?_); rintro r u1 ⟨q, rfl, hq1, hB1, hD1, ht1⟩; have hnx1 := hnxt u1 q hB1 hD1)
    | (go_at_call 25; (with_reducible refine hnx1.mono ?_); rintro r u2 ⟨rfl, hD2, hB2, ht2⟩))
  go_ret2
  exact ⟨rfl, hD2, ht1.moreQ ht2 hq1⟩
end
end Go.Proofs.YtklnfbanfgdgcaaGreatDoor
namespace Go.Proofs.YtklnfbanfgdgcaaGreatDoor
open Go.RowKit Go.Shelf Go.Lib
attribute [local go_sem] Oper.semAt_some
set_option linter.unusedVariables false

theorem wpList_store_runD {P : Program} {ops : Array Oper} {rest : List Oper} {o : Oper} {a : Act} {w V : World} {Q : Exit → Act → World → Prop} (hgd : o.guard = none) (ty : TypeId) (x y : Operand) (ho : o.op = .store ty x y) (p val : Value) (hx : a.eval x = p) (hy : a.eval y = val) (hr : (Instr.storeAt ty p val).run P w = .ok () V) (h : wpList P ops Q rest (a.put o.dst undef) V) : wpList P ops Q (o :: rest) a w :=
  wpList_plain hgd fun K hK => by
    unfold Oper.wp
    simp [execOp, ho, hx, hy, hr, Result.andThen]
    exact hK _ _ h
set_option maxRecDepth 100000 in
theorem run_allocRN (w : World) : (Instr.alloc 58 true (.tuple #[])).run Tryz.prog w = .ok (.pointer (some ⟨w.heap.size, 0, none⟩)) (w.alloc (.cells nZ 58)) := by unfold nZ; go_simp
set_option maxRecDepth 100000 in
theorem bld_RN (n f s : Int) (lb : Nat) (b : Bo) (H : Nat) (w : World) : (Instr.build 58 #[(0, .int .i64 n), (1, .int .i64 f), (2, .int .i64 s), (3, .bool true), (4, .pointer (some ⟨lb, 0, none⟩)), (5, .agg (rbA b)), (7, sv H)]).run Tryz.prog w = .ok (.agg (rnV n f s (.pointer (some ⟨lb, 0, none⟩)) b (.slice none 0 0) H 0 0 0 (.slice none 0 0) (.slice none 0 0) (.slice none 0 0))) w := by unfold sv rnV rbA; go_simp
theorem load_rbA {W : World} {B : Nat} {b : Bo} (h : W.heap[B]? = some (.cells (rbA b) 45 (0, 0))) : (Instr.loadAt 45 (.pointer (some ⟨B, 0, none⟩))).run Tryz.prog W = .ok (.agg (rbA b)) W := by
  have c0 : W.cell? ⟨B, 0, none⟩ = some (.int .i64 b.r.li) := (cell_at h 0).trans rfl
  have c1 : W.cell? ⟨B, 1, none⟩ = some (.int .i64 b.r.ro) := (cell_at h 1).trans rfl
  have c2 : W.cell? ⟨B, 2, none⟩ = some (.int .i64 b.r.ta) := (cell_at h 2).trans rfl
  have c3 : W.cell? ⟨B, 3, none⟩ = some (.int .i64 b.r.li) := (cell_at h 3).trans rfl
  have c4 : W.cell? ⟨B, 4, none⟩ = some (.int .i64 b.ro) := (cell_at h 4).trans rfl
  have c5 : W.cell? ⟨B, 5, none⟩ = some (.int .i64 b.ta) := (cell_at h 5).trans rfl
  unfold rbA
  go_simp
theorem rbA_one (b : Bo) : (rbA b).all (·.oneCell') = true := by simp [rbA, Value.oneCell']
theorem rnV_one (n f s : Int) (D : Option Addr) (b : Bo) (a1 a2 a3 a4 : Option Addr) (m1 c1 m2 c2 m3 c3 m4 c4 : Nat) (H : Nat) (t0 t1 t2 : Int) : (rnV n f s (.pointer D) b (.slice a1 m1 c1) H t0 t1 t2 (.slice a2 m2 c2) (.slice a3 m3 c3) (.slice a4 m4 c4)).all (·.oneCell') = true := by simp [rnV, Value.oneCell']
/-- While the node is laid. -/
structure J8 (U : World) (n f s : Int) (lb : Nat) (b : Bo) (H : Nat) (g : Nat) (d8 d9 : Bool) (V : World) : Prop where
  be : Below U.heap.size U V
  bx : d8 = true → U.heap.size ≤ g ∧ V.heap[g]? = some (.cells (if d9 = true then rnV n f s (.pointer (some ⟨lb, 0, none⟩)) b (.slice none 0 0) H 0 0 0 (.slice none 0 0) (.slice none 0 0) (.slice none 0 0) else nZ) 58 (0, 0))
section
variable {U V V' : World} {n f s : Int} {lb : Nat} {b : Bo} {H g : Nat} {d8 d9 : Bool}
theorem J8.carry (h : J8 U n f s lb b H g d8 d9 V) (hb : Below V.heap.size V V') : J8 U n f s lb b H g d8 d9 V' := ⟨bel2 h.be hb, fun q => ⟨(h.bx q).1, (hb.block _ (lt_at (h.bx q).2)).trans (h.bx q).2⟩⟩
theorem J8.new (h : J8 U n f s lb b H g false false V) : J8 U n f s lb b H V.heap.size true false (V.alloc (.cells nZ 58)) := ⟨bel2 h.be (al1' _ _), fun _ => ⟨h.be.size, new_at rfl⟩⟩
theorem J8.store (h : J8 U n f s lb b H g true false V) : ∃ V', (Instr.storeAt 58 (.pointer (some ⟨g, 0, none⟩)) (.agg (rnV n f s (.pointer (some ⟨lb, 0, none⟩)) b (.slice none 0 0) H 0 0 0 (.slice none 0 0) (.slice none 0 0) (.slice none 0 0)))).run Tryz.prog V = .ok () V' ∧ J8 U n f s lb b H g true true V' := by
  obtain ⟨h1, h2⟩ := h.bx rfl
  rw [if_neg (by simp)] at h2
  obtain ⟨V', k1, k2, k3⟩ := store_whole h2 (rnV n f s (.pointer (some ⟨lb, 0, none⟩)) b (.slice none 0 0) H 0 0 0 (.slice none 0 0) (.slice none 0 0) (.slice none 0 0)).toList infoRN rfl (by simp [rnV, Value.oneCell'])
  exact ⟨V', k1, TpZ.young h.be k3 h1, fun _ => ⟨h1, by rw [if_pos rfl]; exact k2⟩⟩
end
section
variable {w : World} {lb base r c n f s : Nat} {d : Dst}
/-- What the document's Open turns. -/
structure RO (w : World) (lb base r c : Nat) (d1 : Dst) (w' : World) : Prop where
  rd : RfD w' lb 0 base r c d1
  tf : Tf lb 0 r w w'
theorem RO.of {w1 u v : World} {d1 : Dst} (hb1 : Below w.heap.size w w1) (hR : RfD u lb 0 base r c d1) (hT : Tf lb 0 r w1 u) (hb : Below u.heap.size u v) : RO w lb base r c d1 v := ⟨hR.carry hb, ((Tf.of lb 0 r hb1).trans hT).trans (Tf.of _ _ _ hb)⟩
theorem RO.row {d1 : Dst} {v : World} (h : RO w lb base r c d1 v) (hl : lb < w.heap.size) (hr : r < w.heap.size) (C : Array Value) : RO w lb base r c d1 (v.setRow w.heap.size C) :=
  ⟨h.rd.same (Go.setRow_other _ _ _ _ (by omega)) (Go.setRow_other _ _ _ _ (by omega)), h.tf.row (Nat.le_refl _) hl C⟩
set_option maxHeartbeats 8000000 in
set_option maxRecDepth 100000 in
/-- The document's Open where the Boot is refused. -/
theorem rnopen_e1 (hO : Opd d) (hR : RfD w lb 0 base r c d) (hn1 : 1 ≤ n) (hn2 : n ≤ 100) (hfn : f < n) (hsn : s < n) (he : (dOp d).e ≠ 0) : Calls Tryz.prog 10 #[.int .i64 (n : Int), .int .i64 (f : Int), .int .i64 (s : Int), .pointer (some ⟨lb, 0, none⟩)] w fun e w' => e = .returned (.tuple #[.agg nZ, .int .i64 (dOp d).e]) ∧ RO w lb base r c (dOp d).d w' := by
  obtain ⟨i1, i2, i3, i4, i5, i6⟩ := okn_nat hn1 hn2 hfn hsn
  obtain ⟨hl, hrl⟩ := hR.lt
  obtain ⟨w1, hw1⟩ : ∃ w1, w.alloc (.cells nZ 58) = w1 := ⟨_, rfl⟩
  have hb1 : Below w.heap.size w w1 := by rw [← hw1]; exact al1' _ _
  have g1 : w1.heap[w.heap.size]? = some (.cells nZ 58 (0, 0)) := by rw [← hw1]; exact new_at rfl
  have hop : Calls Tryz.prog 31 #[.pointer (some ⟨lb, 0, none⟩)] w1 fun e w' => e = .returned (.tuple #[.agg z6A, .int .i64 (dOp d).e]) ∧ RfD w' lb 0 base r c (dOp d).d ∧ Tf lb 0 r w1 w' := (rOpen_any (hR.carry hb1) hO.fz hO.w0 hO.wm).mono (by rintro e w' ⟨_, h2, h3, h4⟩; exact ⟨h2 he, h3, h4⟩)
  obtain ⟨E, hE⟩ : ∃ E, (dOp d).e = E := ⟨_, rfl⟩
  obtain ⟨d1, hd1⟩ : ∃ E, (dOp d).d = E := ⟨_, rfl⟩
  rw [hE, hd1] at hop ⊢
  rw [hE] at he
  clear hE hd1 hO
  unfold nZ at hw1 g1
  unfold z6A at hop
  go_enter Tryz.func10, Tryz.ntmps10
  go_wp2_with (first
    | (go_at_call 31; (with_reducible refine hop.mono ?_); rintro e u ⟨rfl, hRu, hTu⟩; obtain ⟨u2, hu2⟩ : ∃ V, u.alloc (.cells #[.int .i64 0, .int .i64 0, .int .i64 0, .int .i64 0, .int .i64 0, .int .i64 0] 45) = V := ⟨_, rfl⟩; have hg2 : u2.heap[u.heap.size]? = some (.cells #[.int .i64 0, .int .i64 0, .int .i64 0, .int .i64 0, .int .i64 0, .int .i64 0] 45 (0, 0)) := (by rw [← hu2]; exact new_at rfl); have hb2 : Below u.heap.size u u2 := (by rw [← hu2]; exact al1' _ _); have gu := (hTu.block _ (lt_at g1) (by omega) (by omega)).trans g1)
    | (refine wpList_store_row rfl 45 (.tmp 10) (.tmp 41) rfl u.heap.size #[.int .i64 0, .int .i64 0, .int .i64 0, .int .i64 0, .int .i64 0, .int .i64 0] rfl rfl 45 _ hg2 infoRB2 rfl (by simp [Value.oneCell']) ?_; obtain ⟨u3, hu3⟩ : ∃ V, u2.setRow u.heap.size #[.int .i64 0, .int .i64 0, .int .i64 0, .int .i64 0, .int .i64 0, .int .i64 0] = V := ⟨_, rfl⟩; have hb3 : Below u.heap.size u u3 := (by rw [← hu3]; exact below_row hb2 (Nat.le_refl _) _); have g3 := (hb3.block _ (lt_at gu)).trans gu; rw [hu3])
    | (refine wpList_store_row rfl 58 (.tmp 8) (.tmp 45) rfl w.heap.size nZ rfl rfl 58 _ g3 infoRN rfl (by simp [nZ, Value.oneCell']) ?_; obtain ⟨v, hv⟩ : ∃ v, u3.setRow w.heap.size nZ = v := ⟨_, rfl⟩; have hgv : v.heap[w.heap.size]? = some (.cells nZ 58 (0, 0)) := (by rw [← hv]; exact setRow_heap _ _ _ _ _ _ g3); have hRO : RO w lb base r c d1 v := (by rw [← hv]; exact (RO.of hb1 hRu hTu hb3).row hl hrl _); rw [hv]))
  (try simp only [Exit.inBlock, Exit.then])
  exact retC2Z rfl rfl rfl rfl hgv undRN infoRN ⟨rfl, hRO⟩
end
end Go.Proofs.YtklnfbanfgdgcaaGreatDoor
