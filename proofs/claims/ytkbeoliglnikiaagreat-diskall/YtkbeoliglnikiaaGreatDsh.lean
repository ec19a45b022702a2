/- One step of the play: Read. -/
import Derived.Test.YtkbeoliglnikiaaGreatDsg
namespace Go.Proofs.YtkbeoliglnikiaaGreat
open Go.RowKit Go.Shelf

theorem ext2 (x y : Value) (W : World) : (Instr.extract (.tuple #[x, y]) 0).run Tryz.prog W = .ok x W ∧ (Instr.extract (.tuple #[x, y]) 1).run Tryz.prog W = .ok y W := by
  refine ⟨?_, ?_⟩ <;> go_simp
/-- Nothing is kept. -/
theorem kb_nil {σ : Sg} {W : World} {base bb : Nat} (h : NK σ base bb W) (hbz : base ≤ W.heap.size) : Calls Tryz.prog 25 #[.pointer (some ⟨bb, 0, none⟩), .slice none 0 0] W fun e w' => (∃ v, e = .returned v) ∧ NK σ base bb w' ∧ Kp base bb W w' := by
  have hN := h
  obtain ⟨hs, k, x, y, L, G, hx, hlk, hL⟩ := h
  refine (kbytes_any hx hbz none 0 [] (fun q => absurd rfl q) (fun a ha => by cases ha) (by simp) (fun _ => rfl)).mono ?_
  rintro e w' ⟨h1, h2, h3⟩
  refine ⟨h1, ?_, h2⟩
  have hL' := hL.carry (V := w') (fun g' cur' _ hc' => h2.at hN hc' (by decide) (by decide))
  have hs' : ∀ b, σ b → b < w'.heap.size := fun b q => Nat.lt_of_lt_of_le (hs b q) h2.size
  rcases h3 with ⟨_, z, h3, h4⟩ | ⟨_, h3⟩
  · exact ⟨hs', _, _, _, L ++ [[]], G ++ [none], h3, by simp [hlk], hL'.app (.inl ⟨rfl, rfl, rfl⟩) (cu_own (B := W.heap.size) h4 hs) (fun q hq => by cases hq) (by simp) (fun g' e => by cases e)⟩
  · exact ⟨hs', _, _, _, L, G, h3, hlk, hL'⟩
section
variable {base lb off bb p r c : Nat} {d : Dst} {w : World}
set_option maxHeartbeats 4000000 in
set_option maxRecDepth 100000 in
/-- A read that is refused with E. -/
theorem step_2no {σ : Sg} (h : Sd σ base lb off bb p r c d w) (who a E : Int) (ad : Option Addr) (n cap : Nat)
    (hP : ∀ V, Dk V p d → Calls Tryz.prog 16 #[.pointer (some ⟨p, 0, none⟩), .int .i64 a] V fun e w' => e = .returned (.tuple #[.slice none 0 0, .int .i64 E]) ∧ w' = V)
    (hR : ∀ V, RfD V lb (off + 1) base r c d → Calls Tryz.prog 24 #[.pointer (some ⟨lb, off + 1, none⟩), .int .i64 a] V fun e w' => e = .returned (.tuple #[.slice none 0 0, .int .i64 E]) ∧ w' = V) : Calls Tryz.prog 12 #[.pointer (some ⟨lb, off, none⟩), .agg #[.int .i64 2, .int .i64 who, .int .i64 a, .slice ad n cap]] w fun e w' => e = .returned (.bool true) ∧ Sd σ base lb off bb p r c d w' ∧ Ev base lb off p r w w' := by
  have hmx : Tryz.prog.follows .mixedOrders = true := by kernel_rfl
  have HP : Hid (∀ V, Dk V p d → Calls Tryz.prog 16 #[.pointer (some ⟨p, 0, none⟩), .int .i64 a] V fun e w' => e = .returned (.tuple #[.slice none 0 0, .int .i64 E]) ∧ w' = V) := hP
  have HR : Hid (∀ V, RfD V lb (off + 1) base r c d → Calls Tryz.prog 24 #[.pointer (some ⟨lb, off + 1, none⟩), .int .i64 a] V fun e w' => e = .returned (.tuple #[.slice none 0 0, .int .i64 E]) ∧ w' = V) := hR
  clear hP hR
  obtain ⟨w1, hw1⟩ : ∃ w1, w.alloc (.cells #[.int .i64 2, .int .i64 who, .int .i64 a, .slice ad n cap] 61) = w1 := ⟨_, rfl⟩
  have hb1 : Below w.heap.size w w1 := by rw [← hw1]; exact al1' _ _
  have hO : OpB w1 w.heap.size 2 who a (.slice ad n cap) := by rw [← hw1]; exact new_at rfl
  have hS := h.carry hb1
  have o0 := hO.c0
  have hE1 : Ev base lb off p r w w1 := Ev.of _ _ _ _ hb1 h.bz
  clear h
  go_enter Tryz.func12, Tryz.ntmps12
  go_wp2
  refine wp_region_any hmx ?_
  refine wpAny_pure (fun i__ => ([(.pointer (some ⟨lb, off, none⟩)), (.pointer (some ⟨lb, off, none⟩)), (.pointer (some ⟨lb, off, none⟩)), (.pointer (some ⟨p, 0, none⟩)), (.pointer (some ⟨w.heap.size, 2, none⟩)), (.int .i64 a), (.tuple #[.slice none 0 0, .int .i64 E]), (.tuple #[.slice none 0 0, .int .i64 E]), (.slice none 0 0), (.int .i64 E), (.slice none 0 0), (.int .i64 E)] : List Value).getD i__ undef) (fun V => Sd σ base lb off bb p r c d V ∧ OpB V w.heap.size 2 who a (.slice ad n cap) ∧ Ev base lb off p r w V) (by kernel_rfl) ⟨hS.carry (Below.refl _ _).drew, hO.carry (Below.refl _ _).drew, hE1.trans (Ev.of _ _ _ _ (Below.refl _ _).drew hS.bz)⟩ ?_ ?_
  · refine (stepsFrom_cons ?_ (stepsFrom_cons ?_ (stepsFrom_cons ?_ (stepsFrom_cons ?_ (stepsFrom_cons ?_ (stepsFrom_cons ?_ (stepsFrom_cons ?_ (stepsFrom_cons ?_ (stepsFrom_cons ?_ (stepsFrom_cons ?_ (stepsFrom_cons ?_ (stepsFrom_cons ?_ trivial))))))))))))
    · exact step_move rfl trivial _ rfl (by kernel_rfl)
    · exact step_nilCheck rfl trivial _ _ _ rfl rfl rfl
    · exact step_fieldAddr rfl trivial _ _ _ _ rfl rfl (fun v hw => field_bo0 v _ _)
    · exact step_load rfl trivial _ _ _ rfl rfl (fun v hw => load_bop hw.1.c0)
    · exact step_fieldAddr rfl trivial _ _ _ _ rfl rfl (fun v hw => field_op2 v _)
    · exact step_load rfl trivial _ _ _ rfl rfl (fun v hw => load_boi hw.2.1.c2)
    · exact step_call rfl trivial 16 _ _ [(.pointer (some ⟨p, 0, none⟩)), (.int .i64 a)] rfl (by kernel_rfl) (enters_of Tryz.func16 (by kernel_rfl) rfl) (fun v hw => (HP.out v hw.1.dk).mono (by rintro e w' ⟨rfl, rfl⟩; exact ⟨rfl, hw⟩))
    · exact step_move rfl trivial _ rfl (by kernel_rfl)
    · exact step_extract rfl trivial _ _ _ rfl rfl (fun v hw => (ext2 _ _ v).1)
    · exact step_extract rfl trivial _ _ _ rfl rfl (fun v hw => (ext2 _ _ v).2)
    · exact step_assign rfl trivial _ rfl (by kernel_rfl) (fun _ h => h)
    · exact step_assign rfl trivial _ rfl (by kernel_rfl) (fun _ h => h)
  intro W hW
  first | refine hK _ _ ?_ | refine (‹∀ (a : Act) (w : World), Code.wp Tryz.prog _ _ a w → _›) _ _ ?_
  simp only [finL, List.getD_cons_zero, List.getD_cons_succ, Nat.zero_add, Nat.reduceAdd, List.setIfInBounds_toArray, List.set_cons_zero, List.set_cons_succ]
  obtain ⟨hS2, hO2, hE2⟩ := hW
  clear hS hO o0 hE1 hw1 hb1
  go_wp2
  refine wp_region_any hmx ?_
  refine wpAny_pure (fun i__ => ([(.pointer (some ⟨lb, off, none⟩)), (.pointer (some ⟨lb, off, none⟩)), (.pointer (some ⟨lb, off + 1, none⟩)), (.pointer (some ⟨w.heap.size, 2, none⟩)), (.int .i64 a), (.tuple #[.slice none 0 0, .int .i64 E]), (.tuple #[.slice none 0 0, .int .i64 E]), (.slice none 0 0), (.int .i64 E), (.slice none 0 0), (.int .i64 E)] : List Value).getD i__ undef) (fun V => Sd σ base lb off bb p r c d V ∧ OpB V w.heap.size 2 who a (.slice ad n cap) ∧ Ev base lb off p r w V) (by kernel_rfl) ⟨hS2.carry (Below.refl _ _).drew, hO2.carry (Below.refl _ _).drew, hE2.trans (Ev.of _ _ _ _ (Below.refl _ _).drew hS2.bz)⟩ ?_ ?_
  · refine (stepsFrom_cons ?_ (stepsFrom_cons ?_ (stepsFrom_cons ?_ (stepsFrom_cons ?_ (stepsFrom_cons ?_ (stepsFrom_cons ?_ (stepsFrom_cons ?_ (stepsFrom_cons ?_ (stepsFrom_cons ?_ (stepsFrom_cons ?_ (stepsFrom_cons ?_ trivial)))))))))))
    · exact step_move rfl trivial _ rfl (by kernel_rfl)
    · exact step_nilCheck rfl trivial _ _ _ rfl rfl rfl
    · exact step_fieldAddr rfl trivial _ _ _ _ rfl rfl (fun v hw => field_bo1 v _ _)
    · exact step_fieldAddr rfl trivial _ _ _ _ rfl rfl (fun v hw => field_op2 v _)
    · exact step_load rfl trivial _ _ _ rfl rfl (fun v hw => load_boi hw.2.1.c2)
    · exact step_call rfl trivial 24 _ _ [(.pointer (some ⟨lb, off + 1, none⟩)), (.int .i64 a)] rfl (by kernel_rfl) (enters_of Tryz.func24 (by kernel_rfl) rfl) (fun v hw => (HR.out v hw.1.rf).mono (by rintro e w' ⟨rfl, rfl⟩; exact ⟨rfl, hw⟩))
    · exact step_move rfl trivial _ rfl (by kernel_rfl)
    · exact step_extract rfl trivial _ _ _ rfl rfl (fun v hw => (ext2 _ _ v).1)
    · exact step_extract rfl trivial _ _ _ rfl rfl (fun v hw => (ext2 _ _ v).2)
    · exact step_assign rfl trivial _ rfl (by kernel_rfl) (fun _ h => h)
    · exact step_assign rfl trivial _ rfl (by kernel_rfl) (fun _ h => h)
  intro W hW
  first | refine hK _ _ ?_ | refine (‹∀ (a : Act) (w : World), Code.wp Tryz.prog _ _ a w → _›) _ _ ?_
  simp only [finL, List.getD_cons_zero, List.getD_cons_succ, Nat.zero_add, Nat.reduceAdd, List.setIfInBounds_toArray, List.set_cons_zero, List.set_cons_succ]
  obtain ⟨hS3, hO3, hE3⟩ := hW
  clear hS2 hO2 hE2
  have c5 := hS3.c5
  have hkb := kb_nil hS3.nk hS3.bz
  go_wp2_with (first | (go_at_call 25; (with_reducible refine hkb.mono ?_); rintro e u2 ⟨⟨v2, rfl⟩, hn2, hk2⟩; have hS4 := hS3.kp hk2 hn2; have hE4 := hE3.trans (Ev.kp (lb := lb) (off := off) (p := p) (r := r) hk2 hS3.nk hS3.bz); have hsa := sameB_yes none none 0 0 [] u2 (fun q => absurd rfl q) (fun q => absurd rfl q) (by simp); rw [List.length_nil] at hsa) | (go_at_call 26; (with_reducible refine hsa.mono ?_); rintro e u3 ⟨rfl, hb3⟩))
  go_ret
  exact ⟨rfl, hS4.carry hb3, hE4.trans (Ev.of _ _ _ _ hb3 hS4.bz)⟩
set_option maxHeartbeats 4000000 in
set_option maxRecDepth 100000 in
theorem step_2ok {σ : Sg} {dd : Dst} (h : Sd σ base lb off bb p r c dd w) (who : Int) (k : Nat) (hk8 : k < 8) (hof : dd.off = false) (ad : Option Addr) (n cap : Nat) : Calls Tryz.prog 12 #[.pointer (some ⟨lb, off, none⟩), .agg #[.int .i64 2, .int .i64 who, .int .i64 (k : Int), .slice ad n cap]] w fun e w' => e = .returned (.bool true) ∧ Sd σ base lb off bb p r c dd w' ∧ Ev base lb off p r w w' := by
  have hmx : Tryz.prog.follows .mixedOrders = true := by kernel_rfl
  have HOF : Hid (dd.off = false) := hof
  have hsl := secs_len h.dk.len hk8
  have HSL : Hid ((secs dd.l k).length = 32) := hsl
  clear hof hsl
  obtain ⟨w1, hw1⟩ : ∃ w1, w.alloc (.cells #[.int .i64 2, .int .i64 who, .int .i64 (k : Int), .slice ad n cap] 61) = w1 := ⟨_, rfl⟩
  have hb1 : Below w.heap.size w w1 := by rw [← hw1]; exact al1' _ _
  have hO : OpB w1 w.heap.size 2 who (k : Int) (.slice ad n cap) := by rw [← hw1]; exact new_at rfl
  have hS := h.carry hb1
  have o0 := hO.c0
  have hE1 : Ev base lb off p r w w1 := Ev.of _ _ _ _ hb1 h.bz
  clear h
  go_enter Tryz.func12, Tryz.ntmps12
  go_wp2
  refine wp_region_any hmx ?_
  refine wpAny_tabG (G := (Nat)) (fun g i__ => ([(.pointer (some ⟨lb, off, none⟩)), (.pointer (some ⟨lb, off, none⟩)), (.pointer (some ⟨lb, off, none⟩)), (.pointer (some ⟨p, 0, none⟩)), (.pointer (some ⟨w.heap.size, 2, none⟩)), (.int .i64 (k : Int)), (.tuple #[.slice (some ⟨g, 32 * k, none⟩) 32 32, .int .i64 0]), (.tuple #[.slice (some ⟨g, 32 * k, none⟩) 32 32, .int .i64 0]), (.slice (some ⟨g, 32 * k, none⟩) 32 32), (.int .i64 0), (.slice (some ⟨g, 32 * k, none⟩) 32 32), (.int .i64 0)] : List Value).getD i__ undef) (fun g f V => Sd σ base lb off bb p r c dd V ∧ OpB V w.heap.size 2 who (k : Int) (.slice ad n cap) ∧ Ev base lb off p r w V ∧ (f 6 = true → RdY V (some ⟨g, 32 * k, none⟩) (secs dd.l k) ∧ (∃ cur, V.heap[g]? = some (.cells cur 5 (0, 0))) ∧ NK (oneMore σ g) base bb V ∧ ¬ σ g ∧ base ≤ g)) (by kernel_rfl) (0) ⟨hS.carry (Below.refl _ _).drew, hO.carry (Below.refl _ _).drew, hE1.trans (Ev.of _ _ _ _ (Below.refl _ _).drew hS.bz), fun q => absurd q (by decide)⟩ ?step2 ?fin2
  case step2 =>
    intro i o ho
    have hi : i < 12 := getElem?_lt ho
    match i, hi, ho with
    | 0, _, ho =>
      cases ho
      refine stepG_of (fun g d hdep => ?_)
      exact step_move rfl trivial _ rfl (by kernel_rfl)
    | 1, _, ho =>
      cases ho
      refine stepG_of (fun g d hdep => ?_)
      exact step_nilCheck rfl trivial _ _ _ rfl rfl rfl
    | 2, _, ho =>
      cases ho
      refine stepG_of (fun g d hdep => ?_)
      exact step_fieldAddr rfl trivial _ _ _ _ rfl rfl (fun v hw => field_bo0 v _ _)
    | 3, _, ho =>
      cases ho
      refine stepG_of (fun g d hdep => ?_)
      exact step_load rfl trivial _ _ _ rfl rfl (fun v hw => load_bop hw.1.c0)
    | 4, _, ho =>
      cases ho
      refine stepG_of (fun g d hdep => ?_)
      exact step_fieldAddr rfl trivial _ _ _ _ rfl rfl (fun v hw => field_op2 v _)
    | 5, _, ho =>
      cases ho
      refine stepG_of (fun g d hdep => ?_)
      exact step_load rfl trivial _ _ _ rfl rfl (fun v hw => load_boi hw.2.1.c2)
    | 6, _, ho =>
      cases ho
      exact stepG_call rfl (fun g => trivial) 16 _ _ (fun _ => [.pointer (some ⟨p, 0, none⟩), .int .i64 (k : Int)]) rfl (fun g => rfl) (enters_of Tryz.func16 (by kernel_rfl) rfl) (fun g f V hJ hun hdep hcl => (read_ok hJ.1.dk k HOF.out hk8).mono (by rintro e w' ⟨g', c', rfl, ho', hr', hb'⟩; exact ⟨g', rfl, (fun j hj => match j, hj with | 6, hj => (by rw [hj] at hun; cases hun) | 7, hj => absurd ((hcl 7 _ rfl hj 6 (by kernel_rfl))) (by rw [hun]; simp) | 8, hj => absurd ((hcl 7 _ rfl (hcl 8 _ rfl hj 7 (by kernel_rfl)) 6 (by kernel_rfl))) (by rw [hun]; simp) | 10, hj => absurd ((hcl 10 _ rfl hj 6 (by kernel_rfl))) (by rw [hun]; simp) | 0, _ => rfl | 1, _ => rfl | 2, _ => rfl | 3, _ => rfl | 4, _ => rfl | 5, _ => rfl | 9, _ => rfl | 11, _ => rfl | _ + 12, _ => rfl), hJ.1.carry hb', hJ.2.1.carry hb', hJ.2.2.1.trans (Ev.of _ _ _ _ hb' hJ.1.bz), fun _ => ⟨hr', (ownsRow_block ho' g' rfl).2, hJ.1.nk.more w' (fun _ _ _ q => q.carry hb') hb'.block hb'.size (own_block ho' g' rfl) (row_lt0 ho'), (fun q => by have := hJ.1.nk.1 g' q; have := own_block ho' g' rfl; omega), Nat.le_trans hJ.1.bz (own_block ho' g' rfl)⟩⟩))
    | 7, _, ho =>
      cases ho
      refine stepG_of (fun g d hdep => ?_)
      exact step_move rfl trivial _ rfl (by kernel_rfl)
    | 8, _, ho =>
      cases ho
      refine stepG_of (fun g d hdep => ?_)
      exact step_extract rfl trivial _ _ _ rfl rfl (fun v hw => (ext2 _ _ v).1)
    | 9, _, ho =>
      cases ho
      refine stepG_of (fun g d hdep => ?_)
      exact step_extract rfl trivial _ _ _ rfl rfl (fun v hw => (ext2 _ _ v).2)
    | 10, _, ho =>
      cases ho
      refine stepG_of (fun g d hdep => ?_)
      exact step_assign rfl trivial _ rfl (by kernel_rfl) (fun _ h => h)
    | 11, _, ho =>
      cases ho
      refine stepG_of (fun g d hdep => ?_)
      exact step_assign rfl trivial _ rfl (by kernel_rfl) (fun _ h => h)
  intro g d W hall hW
  first | refine hK _ _ ?_ | refine (‹∀ (a : Act) (w : World), Code.wp Tryz.prog _ _ a w → _›) _ _ ?_ | skip
  simp only [finL, List.getD_cons_zero, List.getD_cons_succ, Nat.zero_add, Nat.reduceAdd, List.setIfInBounds_toArray, List.set_cons_zero, List.set_cons_succ]
  obtain ⟨hS2, hO2, hE2, hr2⟩ := hW
  have hr3 := hr2 (hall 6 (by decide))
  obtain ⟨gA, rfl⟩ : ∃ gA : Nat, gA = g := ⟨g, rfl⟩
  clear hS hO o0 hE1 hw1 hb1 hr2 hall
  go_wp2
  refine wp_region_any hmx ?_
  refine wpAny_tabG (G := (Nat × Nat)) (fun g i__ => ([(.pointer (some ⟨lb, off, none⟩)), (.pointer (some ⟨lb, off, none⟩)), (.pointer (some ⟨lb, off + 1, none⟩)), (.pointer (some ⟨w.heap.size, 2, none⟩)), (.int .i64 (k : Int)), (.tuple #[.slice (some ⟨g.1, 0, none⟩) 32 g.2, .int .i64 0]), (.tuple #[.slice (some ⟨g.1, 0, none⟩) 32 g.2, .int .i64 0]), (.slice (some ⟨g.1, 0, none⟩) 32 g.2), (.int .i64 0), (.slice (some ⟨g.1, 0, none⟩) 32 g.2), (.int .i64 0)] : List Value).getD i__ undef) (fun y f V => Sd σ base lb off bb p r c dd V ∧ OpB V w.heap.size 2 who (k : Int) (.slice ad n cap) ∧ Ev base lb off p r w V ∧ (RdY V (some ⟨gA, 32 * k, none⟩) (secs dd.l k) ∧ (∃ cur, V.heap[gA]? = some (.cells cur 5 (0, 0))) ∧ NK (oneMore σ gA) base bb V ∧ ¬ σ gA ∧ base ≤ gA) ∧ (f 5 = true → RdY V (some ⟨y.1, 0, none⟩) (secs dd.l k) ∧ ∃ cur, V.heap[y.1]? = some (.cells cur 5 (0, 0)))) (by kernel_rfl) ((0, 0)) ⟨hS2.carry (Below.refl _ _).drew, hO2.carry (Below.refl _ _).drew, hE2.trans (Ev.of _ _ _ _ (Below.refl _ _).drew hS2.bz), ⟨hr3.1.carry (Below.refl _ _).drew, hr3.2.1, hr3.2.2.1.carry (Below.refl _ _).drew, hr3.2.2.2⟩, fun q => absurd q (by decide)⟩ ?step3 ?fin3
  case step3 =>
    intro i o ho
    have hi : i < 11 := getElem?_lt ho
    match i, hi, ho with
    | 0, _, ho =>
      cases ho
      refine stepG_of (fun g d hdep => ?_)
      exact step_move rfl trivial _ rfl (by kernel_rfl)
    | 1, _, ho =>
      cases ho
      refine stepG_of (fun g d hdep => ?_)
      exact step_nilCheck rfl trivial _ _ _ rfl rfl rfl
    | 2, _, ho =>
      cases ho
      refine stepG_of (fun g d hdep => ?_)
      exact step_fieldAddr rfl trivial _ _ _ _ rfl rfl (fun v hw => field_bo1 v _ _)
    | 3, _, ho =>
      cases ho
      refine stepG_of (fun g d hdep => ?_)
      exact step_fieldAddr rfl trivial _ _ _ _ rfl rfl (fun v hw => field_op2 v _)
    | 4, _, ho =>
      cases ho
      refine stepG_of (fun g d hdep => ?_)
      exact step_load rfl trivial _ _ _ rfl rfl (fun v hw => load_boi hw.2.1.c2)
    | 5, _, ho =>
      cases ho
      exact stepG_call rfl (fun g => trivial) 24 _ _ (fun _ => [.pointer (some ⟨lb, off + 1, none⟩), .int .i64 (k : Int)]) rfl (fun g => rfl) (enters_of Tryz.func24 (by kernel_rfl) rfl) (fun g f V hJ hun hdep hcl => (rread_ok hJ.1.rf k HOF.out hk8).mono (by rintro e w' ⟨g', c', rfl, ho', hb'⟩; exact ⟨(g', c'), rfl, (fun j hj => match j, hj with | 5, hj => (by rw [hj] at hun; cases hun) | 6, hj => absurd ((hcl 6 _ rfl hj 5 (by kernel_rfl))) (by rw [hun]; simp) | 7, hj => absurd ((hcl 6 _ rfl (hcl 7 _ rfl hj 6 (by kernel_rfl)) 5 (by kernel_rfl))) (by rw [hun]; simp) | 9, hj => absurd ((hcl 9 _ rfl hj 5 (by kernel_rfl))) (by rw [hun]; simp) | 0, _ => rfl | 1, _ => rfl | 2, _ => rfl | 3, _ => rfl | 4, _ => rfl | 8, _ => rfl | 10, _ => rfl | _ + 11, _ => rfl), hJ.1.carry hb', hJ.2.1.carry hb', hJ.2.2.1.trans (Ev.of _ _ _ _ hb' hJ.1.bz), ⟨hJ.2.2.2.1.1.carry hb', hJ.2.2.2.1.2.1.imp fun cur hc => (hb'.block _ (lt_at hc)).trans hc, hJ.2.2.2.1.2.2.1.carry hb', hJ.2.2.2.1.2.2.2⟩, fun _ => ⟨RdY.own (base := V.heap.size) (c := c') (by rw [HSL.out]; exact ho'), (ownsRow_block ho' g' rfl).2⟩⟩))
    | 6, _, ho =>
      cases ho
      refine stepG_of (fun g d hdep => ?_)
      exact step_move rfl trivial _ rfl (by kernel_rfl)
    | 7, _, ho =>
      cases ho
      refine stepG_of (fun g d hdep => ?_)
      exact step_extract rfl trivial _ _ _ rfl rfl (fun v hw => (ext2 _ _ v).1)
    | 8, _, ho =>
      cases ho
      refine stepG_of (fun g d hdep => ?_)
      exact step_extract rfl trivial _ _ _ rfl rfl (fun v hw => (ext2 _ _ v).2)
    | 9, _, ho =>
      cases ho
      refine stepG_of (fun g d hdep => ?_)
      exact step_assign rfl trivial _ rfl (by kernel_rfl) (fun _ h => h)
    | 10, _, ho =>
      cases ho
      refine stepG_of (fun g d hdep => ?_)
      exact step_assign rfl trivial _ rfl (by kernel_rfl) (fun _ h => h)
  intro g d W hall hW
  first | refine hK _ _ ?_ | refine (‹∀ (a : Act) (w : World), Code.wp Tryz.prog _ _ a w → _›) _ _ ?_ | skip
  simp only [finL, List.getD_cons_zero, List.getD_cons_succ, Nat.zero_add, Nat.reduceAdd, List.setIfInBounds_toArray, List.set_cons_zero, List.set_cons_succ]
  obtain ⟨hS3, hO3, hE3, hrA, hrB⟩ := hW
  have hrB2 := hrB (hall 5 (by decide))
  obtain ⟨gB, cB'⟩ := g
  have c5 := hS3.c5
  have hbat : BAt W gA (32 * k) (secs dd.l k) := (by obtain ⟨b9, o9, e9, _, h9⟩ := hrA.1 (fun e => by have := HSL.out; rw [e] at this; cases this); cases e9; exact h9)
  have hkb := kb_any gA (32 * k) 32 32 hrA.2.2.1 hrA.2.2.2.1 hS3.bz hrA.2.2.2.2 (secs dd.l k) HSL.out (by omega) hrA.1 hrA.2.1 (secs_byt hS3.dk.byt k) rfl hbat
  clear hrB hall hS2 hO2 hE2 hr3
  go_wp2_with (first | (go_at_call 25; (with_reducible refine hkb.mono ?_); rintro e u2 ⟨⟨v2, rfl⟩, hn2, hk2⟩; have hS4 := hS3.kp hk2 hn2; have hE4 := hE3.trans (Ev.kp (lb := lb) (off := off) (p := p) (r := r) hk2 hS3.nk hS3.bz); have hsa := sameB_yes (some ⟨gA, 32 * k, none⟩) (some ⟨gB, 0, none⟩) 32 cB' (secs dd.l k) u2 (hk2.rd hS3.nk hrA.1).rd (hk2.rd hS3.nk hrB2.1).rd (by rw [HSL.out]; omega); rw [HSL.out] at hsa) | (go_at_call 26; (with_reducible refine hsa.mono ?_); rintro e u3 ⟨rfl, hb3⟩))
  go_ret
  exact ⟨rfl, hS4.carry hb3, hE4.trans (Ev.of _ _ _ _ hb3 hS4.bz)⟩
end
end Go.Proofs.YtkbeoliglnikiaaGreat
