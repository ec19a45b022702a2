/- slot's Encode, Decode: what they answer. -/
import Derived.Test.YtnkdfpbgdimaoaaGreatLtd
namespace Go.Proofs.YtnkdfpbgdimaoaaGreat
open Go.RowKit Go.Shelf Go.Lib

/-- A slot's bytes in a block of their own. -/
def ImB (W : World) (g : Nat) (l : List Nat) : Prop := W.heap[g]? = some (.cells (cB l).toArray 58 (0, 0))
theorem ImB.carry {W W' : World} {g : Nat} {l : List Nat} (h : ImB W g l) (hb : Below W.heap.size W W') : ImB W' g l := (hb.block _ (lt_at h)).trans h
theorem ImB.at {W : World} {g : Nat} {l : List Nat} (h : ImB W g l) : BAt W g 0 l := fun k x hk => by
  rw [Nat.zero_add, cell_at h, List.getElem?_toArray]
  exact cB_get hk
theorem ImB.rd {W : World} {g : Nat} {l : List Nat} (h : ImB W g l) : RdB W (some ⟨g, 0, none⟩) l := fun _ => ⟨g, 0, rfl, lt_at h, h.at⟩
def r0A : Array Value := #[.int .i64 0, .int .i64 0, .int .i64 0]
def rA (r : Rec) : Array Value := #[.int .i64 r.li, .int .i64 r.ro, .int .i64 r.ta]
def eA (r : Rec) (s : Int) : Array Value := #[.int .i64 r.li, .int .i64 r.ro, .int .i64 r.ta, .int .i64 s]
def e0A : Array Value := #[.int .i64 0, .int .i64 0, .int .i64 0, .int .i64 0]
theorem store_rec {W : World} {B : Nat} {C : Array Value} {a b c : Int} (h : W.heap[B]? = some (.cells C 23 (0, 0))) (hC : C.size = 3) : (Instr.storeAt 23 (.pointer (some ⟨B, 0, none⟩)) (.agg #[.int .i64 a, .int .i64 b, .int .i64 c])).run Tryz.prog W = .ok () (W.setRow B #[.int .i64 a, .int .i64 b, .int .i64 c]) := by
  have := run_storeVar_row (P := Tryz.prog) W B 23 23 C #[.int .i64 a, .int .i64 b, .int .i64 c] h infoR (by rw [hC]; rfl) (by simp [Value.oneCell'])
  simp only [Instr.storeAt, Instr.sureAddr, Sem.run_bind, Sem.run_pure, Result.andThen_ok, this]
theorem load_er {W : World} {B : Nat} {a b c s : Value} (h : W.heap[B]? = some (.cells #[a, b, c, s] 56 (0, 0))) : (Instr.loadAt 23 (.pointer (some ⟨B, 0, none⟩))).run Tryz.prog W = .ok (.agg #[a, b, c]) W := by
  have c0 := cell_at h 0
  have c1 := cell_at h 1
  have c2 := cell_at h 2
  go_simp
/-- While a record is told. -/
def JP (w : World) (x : Nat) (r : Rec) (s : Int) (b : Bool) (W : World) : Prop := W.heap[w.heap.size]? = some (.cells (if b = true then rA r else r0A) 23 (0, 0)) ∧ W.heap[x]? = some (.cells (eA r s) 56 (0, 0)) ∧ Below w.heap.size w W
theorem JP.store {w : World} {x : Nat} {r : Rec} {s : Int} {b : Bool} {W : World} (h : JP w x r s b W) : ∃ W', (Instr.storeAt 23 (.pointer (some ⟨w.heap.size, 0, none⟩)) (rV r)).run Tryz.prog W = .ok () W' ∧ JP w x r s true W' := by
  refine ⟨_, store_rec h.1 (by cases b <;> rfl), setRow_heap _ _ _ _ _ _ h.1, ?_, below_setRow h.2.2 (Nat.le_refl _) _⟩
  have hx : x ≠ w.heap.size := fun e => by
    have h2 := h.2.1
    rw [e, h.1] at h2
    simp only [Option.some.injEq, Obj.cells.injEq] at h2
    exact absurd h2.2.1 (by decide)
  exact (setRow_other _ _ _ _ hx).trans h.2.1
theorem JP.drew {w : World} {x : Nat} {r : Rec} {s : Int} {b : Bool} {W : World} (h : JP w x r s b W) : JP w x r s b W.drew := ⟨h.1, h.2.1, h.2.2.drew⟩
set_option maxHeartbeats 4000000 in
set_option maxRecDepth 100000 in
theorem enc_any (r : Rec) (s : Int) (w : World) : Calls Tryz.prog 5 #[rV r, .int .i64 s] w fun e w' => (Fit r s → ∃ g, e = .returned (.tuple #[.slice (some ⟨g, 0, none⟩) 64 64, .int .i64 0]) ∧ w.heap.size ≤ g ∧ ImB w' g (slB r s)) ∧ (¬ Fit r s → e = .returned (.tuple #[.slice none 0 0, .int .i64 1])) ∧ Below w.heap.size w w' := by
  have hz := zerI
  obtain ⟨Z, hZ⟩ : ∃ Z, (cB z64).toArray = Z := ⟨_, rfl⟩
  rw [hZ] at hz
  have hfit := fits_any r s
  have him := fun h v => eimage_fit (r := r) (s := s) h v
  have hsl := slB_len r s
  obtain ⟨S, hS⟩ : ∃ S, slB r s = S := ⟨_, rfl⟩
  have hzl : (Tryz.prog.info? 58).map (·.size) = some (cB S).toArray.size := by rw [List.size_toArray, cB_len, ← hS, hsl]; exact infoI
  have hzo : Z.size = (cB S).toArray.size := by rw [← hZ, List.size_toArray, List.size_toArray, cB_len, cB_len, ← hS, hsl]; rfl
  rw [hS] at him ⊢
  by_cases hf : Fit r s
  case neg =>
    rw [decide_eq_false hf] at hfit
    clear him
    obtain ⟨a, b, c⟩ := r
    unfold rV
    unfold eV at hfit
    dsimp only at hfit
    go_enter Tryz.func5, Tryz.ntmps5
    go_wp2_with (go_at_call 18; (with_reducible refine (hfit _).mono ?_); rintro e u1 ⟨rfl, hu1⟩)
    go_ret2
    exact ⟨fun q => absurd q hf, fun _ => rfl, bel2 (bel2 (al1' _ _) (al1' _ _)) hu1⟩
  rw [decide_eq_true hf] at hfit
  have him := him hf
  obtain ⟨a, b, c⟩ := r
  unfold rV
  unfold eV at hfit him
  dsimp only at hfit him
  obtain ⟨w2, hw2⟩ : ∃ w2, (w.alloc (.cells #[.int .i64 a, .int .i64 b, .int .i64 c] 23)).alloc (.cells #[.int .i64 a, .int .i64 b, .int .i64 c, .int .i64 s] 56) = w2 := ⟨_, rfl⟩
  have hb2 : Below w.heap.size w w2 := by rw [← hw2]; exact bel2 (al1' _ _) (al1' _ _)
  have he2 : w2.heap[w.heap.size + 1]? = some (.cells #[.int .i64 a, .int .i64 b, .int .i64 c, .int .i64 s] 56 (0, 0)) := by rw [← hw2]; exact new_at (by simp)
  go_enter Tryz.func5, Tryz.ntmps5
  go_wp2_with (first | (go_at_call 18; (with_reducible refine (hfit _).mono ?_); rintro e u1 ⟨rfl, hu1⟩; have hb3 := bel2 hb2 hu1; have he3 := (hu1.block _ (lt_at he2)).trans he2) | (refine wpList_load_row rfl 56 (.tmp 6) rfl (w.heap.size + 1) rfl 56 _ (0, 0) _ he3 undE rfl infoE ?_) | (refine wpList_load_row rfl 56 (.tmp 6) rfl (w.heap.size + 1) rfl 56 _ (0, 0) _ he2 undE rfl infoE ?_) | (go_at_call 19; (with_reducible refine (him _).mono ?_); rintro e u2 ⟨rfl, hu2⟩; have hb4 := bel2 hb3 hu2; obtain ⟨u3, hu3⟩ : ∃ u3, u2.alloc (.cells Z 58) = u3 := ⟨_, rfl⟩; have hb5 : Below w.heap.size w u3 := (by rw [← hu3]; exact bel2 hb4 (al1' _ _)); have hg5 : u3.heap[u2.heap.size]? = some (.cells Z 58 (0, 0)) := (by rw [← hu3]; exact new_at rfl); have hsz := hb4.size) | (refine wpList_store_row rfl 58 (.tmp 7) (.tmp 15) rfl u2.heap.size (cB S).toArray rfl rfl 58 _ hg5 hzl hzo (all_one S) ?_; obtain ⟨v, hv⟩ : ∃ v, u3.setRow u2.heap.size (cB S).toArray = v := ⟨_, rfl⟩; have HV : Hid (ImB v u2.heap.size S) := (by rw [← hv]; exact setRow_heap _ _ _ _ _ _ hg5); have HB : Hid (Below w.heap.size w v) := (by rw [← hv]; exact below_setRow hb5 hsz _); rw [hv]))
  go_ret2
  exact ⟨fun _ => ⟨_, rfl, hsz, HV.out⟩, fun q => absurd hf q, HB.out⟩
def decV : Option (Rec × Int) → Value
  | none => .tuple #[.agg r0A, .int .i64 0, .int .i64 70]
  | some (r, s) => .tuple #[rV r, .int .i64 s, .int .i64 0]
theorem slIa (g : Nat) (w : World) : (Instr.sliceAt 58 (.pointer (some ⟨g, 0, none⟩)) none none none).run Tryz.prog w = .ok (.slice (some ⟨g, 0, none⟩) 64 64) w := by go_simp
theorem spl64 (l : List Nat) (h : l.length = 64) : splice (cB z64) 0 (cB l) = cB l := by
  have e : (cB l).length = 64 := by rw [cB_len, h]
  simp [splice, e]
  simp [cB, z64]
set_option maxHeartbeats 4000000 in
set_option maxRecDepth 100000 in
theorem dec_len (ad : Option Addr) (cap n : Nat) (w : World) (hn : ¬ n = 64) : Calls Tryz.prog 8 #[.slice ad n cap] w fun e w' => e = .returned (.tuple #[.agg r0A, .int .i64 0, .int .i64 102]) ∧ Below w.heap.size w w' := by
  have hni : ¬ (n : Int) = 64 := by omega
  obtain ⟨w1, hw1⟩ : ∃ w1, w.alloc (.cells #[.int .i64 0, .int .i64 0, .int .i64 0] 23) = w1 := ⟨_, rfl⟩
  have hb1 : Below w.heap.size w w1 := by rw [← hw1]; exact al1' _ _
  have hg1 : w1.heap[w.heap.size]? = some (.cells #[.int .i64 0, .int .i64 0, .int .i64 0] 23 (0, 0)) := by rw [← hw1]; exact new_at rfl
  go_enter Tryz.func8, Tryz.ntmps8
  go_wp2_with (refine wpList_store_row rfl 23 (.tmp 2) (.tmp 11) rfl w.heap.size #[.int .i64 0, .int .i64 0, .int .i64 0] rfl rfl 23 _ hg1 infoR rfl (by simp [Value.oneCell']) ?_; obtain ⟨v, hv⟩ : ∃ v, w1.setRow w.heap.size #[.int .i64 0, .int .i64 0, .int .i64 0] = v := ⟨_, rfl⟩; have HV : Hid (v.heap[w.heap.size]? = some (.cells #[.int .i64 0, .int .i64 0, .int .i64 0] 23 (0, 0))) := (by rw [← hv]; exact setRow_heap _ _ _ _ _ _ hg1); have HB : Hid (Below w.heap.size w v) := (by rw [← hv]; exact below_setRow hb1 (Nat.le_refl _) _); rw [hv])
  (try simp only [Exit.inBlock, Exit.then])
  exact retC3 rfl rfl rfl rfl rfl HV.out undR infoR ⟨rfl, HB.out⟩
set_option maxHeartbeats 4000000 in
set_option maxRecDepth 100000 in
theorem dec_any (ad : Option Addr) (cap : Nat) (l : List Nat) (w : World) (h : RdB w ad l) (hl : l.length = 64) (hB : Byt l) : Calls Tryz.prog 8 #[.slice ad 64 cap] w fun e w' => e = .returned (decV (say l)) ∧ Below w.heap.size w w' := by
  have hz := zerI
  obtain ⟨Z, hZ⟩ : ∃ Z, (cB z64).toArray = Z := ⟨_, rfl⟩
  rw [hZ] at hz
  have hsl := slIa
  have hsa := says_any l hl hB
  have hmx : Tryz.prog.follows .mixedOrders = true := by kernel_rfl
  obtain ⟨w1, hw1⟩ : ∃ w1, w.alloc (.cells #[.int .i64 0, .int .i64 0, .int .i64 0] 23) = w1 := ⟨_, rfl⟩
  have hb1 : Below w.heap.size w w1 := by rw [← hw1]; exact al1' _ _
  have hg1 : w1.heap[w.heap.size]? = some (.cells #[.int .i64 0, .int .i64 0, .int .i64 0] 23 (0, 0)) := by rw [← hw1]; exact new_at rfl
  obtain ⟨w2, hw2⟩ : ∃ w2, w1.alloc (.cells Z 58) = w2 := ⟨_, rfl⟩
  have hb2 : Below w1.heap.size w1 w2 := by rw [← hw2]; exact al1' _ _
  have hg2 : w2.heap[w1.heap.size]? = some (.cells (cB z64).toArray 58 (0, 0)) := by rw [← hw2, hZ]; exact new_at rfl
  have hg12 := (hb2.block _ (lt_at hg1)).trans hg1
  have hlt := lt_at hg1
  have h2 := h.carry (bel2 hb1 hb2)
  have hsrc : 0 < (cB l).length → some (⟨w1.heap.size, 0, none⟩ : Addr) = some ⟨w1.heap.size, 0, none⟩ ∧ ∃ a, ad = some a ∧ ∀ j v, (cB l)[j]? = some v → w2.cell? (a.add j) = some v := fun hp => by
    obtain ⟨b, off, rfl, hbl, hat⟩ := h2 (fun e => by subst e; simp [cB] at hp)
    exact ⟨rfl, _, rfl, b_src hat⟩
  have hzl : (Tryz.prog.info? 58).map (·.size) = some (cB l).toArray.size := by rw [List.size_toArray, cB_len, hl]; exact infoI
  have HL : Hid (l.length = 64) := hl
  cases hs : say l with
  | none =>
    rw [hs] at hsa
    unfold sayV e0V at hsa
    go_enter Tryz.func8, Tryz.ntmps8
    go_wp2_with (first | (refine wpList_copy_splice rfl _ _ _ _ rfl 5 Tryz.underlying24 infoB1 _ ad _ _ 64 cap rfl rfl w1.heap.size 0 (cB z64) 58 hg2 (cB l) (by rw [cB_len, hl]; rfl) hsrc (by rw [cB_len, cB_len, hl]; decide) (cB_one l) w1.heap.size w1 hb2 (Nat.le_refl _) ?_; intro u HU hbu; rw [spl64 l hl] at HU; have hb3 := bel2 hb1 hbu; have hg3 := (hbu.block _ hlt).trans hg1) | (go_at_call 22; (with_reducible refine (hsa _).mono ?_); rintro e u3 ⟨rfl, hu3⟩; have hb4 := bel2 hb3 hu3; have hg4 := (hu3.block _ (lt_at hg3)).trans hg3; obtain ⟨u5, hu5⟩ : ∃ u5, u3.alloc (.cells #[.int .i64 0, .int .i64 0, .int .i64 0, .int .i64 0] 56) = u5 := ⟨_, rfl⟩; have hb5 : Below w.heap.size w u5 := (by rw [← hu5]; exact bel2 hb4 (al1' _ _)); have hg5 : u5.heap[w.heap.size]? = some (.cells #[.int .i64 0, .int .i64 0, .int .i64 0] 23 (0, 0)) := (by rw [← hu5]; exact old_at hg4); have hx5 : u5.heap[u3.heap.size]? = some (.cells #[.int .i64 0, .int .i64 0, .int .i64 0, .int .i64 0] 56 (0, 0)) := (by rw [← hu5]; exact new_at rfl); have hn5 := lt_at hg4) | (refine wpList_store_row rfl 56 (.tmp 6) (.tmp 18) rfl u3.heap.size #[.int .i64 0, .int .i64 0, .int .i64 0, .int .i64 0] rfl rfl 56 _ hx5 infoE rfl (by simp [Value.oneCell']) ?_; obtain ⟨u6, hu6⟩ : ∃ u6, u5.setRow u3.heap.size #[.int .i64 0, .int .i64 0, .int .i64 0, .int .i64 0] = u6 := ⟨_, rfl⟩; have hb6 : Below w.heap.size w u6 := (by rw [← hu6]; exact below_setRow hb5 (by omega) _); have hg6 : u6.heap[w.heap.size]? = some (.cells #[.int .i64 0, .int .i64 0, .int .i64 0] 23 (0, 0)) := (by rw [← hu6]; exact (setRow_other _ _ _ _ (by omega)).trans hg5); rw [hu6]) | (refine wpList_load_row rfl 58 (.tmp 5) rfl w1.heap.size rfl 58 (cB l).toArray (0, 0) _ HU.out undI rfl hzl ?_) | (refine wpList_store_row rfl 23 (.tmp 2) (.tmp 22) rfl w.heap.size #[.int .i64 0, .int .i64 0, .int .i64 0] rfl rfl 23 _ hg6 infoR rfl (by simp [Value.oneCell']) ?_; obtain ⟨v, hv⟩ : ∃ v, u6.setRow w.heap.size #[.int .i64 0, .int .i64 0, .int .i64 0] = v := ⟨_, rfl⟩; have HV : Hid (v.heap[w.heap.size]? = some (.cells #[.int .i64 0, .int .i64 0, .int .i64 0] 23 (0, 0))) := (by rw [← hv]; exact setRow_heap _ _ _ _ _ _ hg6); have HB : Hid (Below w.heap.size w v) := (by rw [← hv]; exact below_setRow hb6 (Nat.le_refl _) _); rw [hv]))
    (try simp only [Exit.inBlock, Exit.then])
    exact retC3 rfl rfl rfl rfl rfl HV.out undR infoR ⟨rfl, HB.out⟩
  | some x =>
    obtain ⟨r, s⟩ := x
    rw [hs] at hsa
    unfold sayV eV at hsa
    go_enter Tryz.func8, Tryz.ntmps8
    go_wp2_with (first | (refine wpList_copy_splice rfl _ _ _ _ rfl 5 Tryz.underlying24 infoB1 _ ad _ _ 64 cap rfl rfl w1.heap.size 0 (cB z64) 58 hg2 (cB l) (by rw [cB_len, hl]; rfl) hsrc (by rw [cB_len, cB_len, hl]; decide) (cB_one l) w1.heap.size w1 hb2 (Nat.le_refl _) ?_; intro u HU hbu; rw [spl64 l hl] at HU; have hb3 := bel2 hb1 hbu; have hg3 := (hbu.block _ hlt).trans hg1) | (go_at_call 22; (with_reducible refine (hsa _).mono ?_); rintro e u3 ⟨rfl, hu3⟩; have hb4 := bel2 hb3 hu3; have hg4 := (hu3.block _ (lt_at hg3)).trans hg3; obtain ⟨u6, hu6⟩ : ∃ u6, u3.alloc (.cells #[.int .i64 r.li, .int .i64 r.ro, .int .i64 r.ta, .int .i64 s] 56) = u6 := ⟨_, rfl⟩; have hb6 : Below w.heap.size w u6 := (by rw [← hu6]; exact bel2 hb4 (al1' _ _)); have hg6 : u6.heap[w.heap.size]? = some (.cells #[.int .i64 0, .int .i64 0, .int .i64 0] 23 (0, 0)) := (by rw [← hu6]; exact old_at hg4); have hx6 : u6.heap[u3.heap.size]? = some (.cells #[.int .i64 r.li, .int .i64 r.ro, .int .i64 r.ta, .int .i64 s] 56 (0, 0)) := (by rw [← hu6]; exact new_at rfl)) | (refine wpList_load_row rfl 58 (.tmp 5) rfl w1.heap.size rfl 58 (cB l).toArray (0, 0) _ HU.out undI rfl hzl ?_))
    rename_i hK
    refine wp_region_any hmx ?_
    refine wpAny_tabG (G := Unit) (fun g i__ => ([(.pointer (some ⟨u3.heap.size, 0, none⟩)), (rV r), (.pointer (some ⟨u3.heap.size, 3, none⟩)), (.int .i64 s), undef, (.int .i64 s), (Go.Value.int Go.IntKind.i64 0)] : List Value).getD i__ undef) (fun g d W => JP w u3.heap.size r s (d 4) W) (by kernel_rfl) (()) (show JP w u3.heap.size r s false _ from JP.drew ⟨hg6, hx6, hb6⟩) ?step1 ?fin1
    case step1 =>
      intro i o ho
      have hi : i < 7 := getElem?_lt ho
      match i, hi, ho with
      | 0, _, ho =>
        cases ho
        refine stepG_of (fun g d hdep => ?_)
        exact step_fieldAddr rfl trivial _ _ _ _ rfl rfl (fun v hw => field_e0 v _)
      | 1, _, ho =>
        cases ho
        refine stepG_of (fun g d hdep => ?_)
        exact step_load rfl trivial _ _ _ rfl rfl (fun v hw => load_er hw.2.1)
      | 2, _, ho =>
        cases ho
        refine stepG_of (fun g d hdep => ?_)
        exact step_fieldAddr rfl trivial _ _ _ _ rfl rfl (fun v hw => field_e1 v _)
      | 3, _, ho =>
        cases ho
        refine stepG_of (fun g d hdep => ?_)
        exact step_load rfl trivial _ _ _ rfl rfl (fun v hw => load_i64 (by rw [cell_at hw.2.1]; rfl))
      | 4, _, ho =>
        cases ho
        refine stepG_of (fun g d hdep => ?_)
        exact step_store rfl trivial rfl _ _ _ _ _ rfl rfl rfl (fun v hw => hw.store)
      | 5, _, ho =>
        cases ho
        refine stepG_of (fun g d hdep => ?_)
        exact step_assign rfl trivial _ rfl (by kernel_rfl) (fun _ h => h)
      | 6, _, ho =>
        cases ho
        refine stepG_of (fun g d hdep => ?_)
        exact step_assign rfl trivial _ rfl (by kernel_rfl) (fun _ h => h)
    intro g d W hall hW
    first | refine hK _ _ ?_ | refine (‹∀ (a : Act) (w : World), Code.wp Tryz.prog _ _ a w → _›) _ _ ?_ | skip
    simp only [finL, List.getD_cons_zero, List.getD_cons_succ, Nat.zero_add, Nat.reduceAdd, List.setIfInBounds_toArray, List.set_cons_zero, List.set_cons_succ]
    rw [hall 4 (by decide)] at hW
    clear hK
    go_wp2
    (try simp only [Exit.inBlock, Exit.then])
    exact retC3 rfl rfl rfl rfl rfl hW.1 undR infoR ⟨rfl, hW.2.2⟩
end Go.Proofs.YtnkdfpbgdimaoaaGreat
