/- disk's filled, part, blow, Write: what they answer. -/
import Derived.Test.YtklnfbanfgdgcaaGreatDoorJnJ7
set_option maxHeartbeats 40000000
set_option maxRecDepth 100000
set_option linter.unusedVariables false
namespace Go.Proofs.YtklnfbanfgdgcaaGreatDoor
open Go.RowKit Go.Shelf

theorem litS : (#[.int .u8 0, .int .u8 0, .int .u8 0, .int .u8 0, .int .u8 0, .int .u8 0, .int .u8 0, .int .u8 0, .int .u8 0, .int .u8 0, .int .u8 0, .int .u8 0, .int .u8 0, .int .u8 0, .int .u8 0, .int .u8 0, .int .u8 0, .int .u8 0, .int .u8 0, .int .u8 0, .int .u8 0, .int .u8 0, .int .u8 0, .int .u8 0, .int .u8 0, .int .u8 0, .int .u8 0, .int .u8 0, .int .u8 0, .int .u8 0, .int .u8 0, .int .u8 0] : Array Value) = (cB (List.replicate 32 0)).toArray := by kernel_rfl
theorem infoB1 : (Tryz.prog.info? 5).map (·.size) = some 1 := by kernel_rfl
theorem slS (g : Nat) (w : World) : (Instr.sliceAt 98 (.pointer (some ⟨g, 0, none⟩)) none none none).run Tryz.prog w = .ok (.slice (some ⟨g, 0, none⟩) 32 32) w := by go_simp
theorem spl32 (l : List Nat) (h : l.length = 32) : splice (cB (List.replicate 32 0)) 0 (cB l) = cB l := by
  have e : (cB l).length = 32 := by rw [cB_len, h]
  simp [splice, e]
  simp [cB]
theorem und44 : Tryz.prog.underlying 98 = some (.array 32 5) := by kernel_rfl
theorem all_one (l : List Nat) : (cB l).toArray.all (·.oneCell') = true := by
  rw [Array.all_eq_true_iff_forall_mem]
  intro v hv
  exact cB_one l v (by simpa using hv)
set_option maxHeartbeats 1000000 in
set_option maxRecDepth 100000 in
theorem filled_any (ad : Option Addr) (cap : Nat) (l : List Nat) (w : World) (h : RdB w ad l) (hl : l.length = 32) : Calls Tryz.prog 22 #[.slice ad 32 cap] w fun e w' => e = .returned (.agg (cB l).toArray) ∧ Below w.heap.size w w' := by
  have hs := slS
  obtain ⟨w1, hw1⟩ : ∃ w1, w.alloc (.cells #[.int .u8 0, .int .u8 0, .int .u8 0, .int .u8 0, .int .u8 0, .int .u8 0, .int .u8 0, .int .u8 0, .int .u8 0, .int .u8 0, .int .u8 0, .int .u8 0, .int .u8 0, .int .u8 0, .int .u8 0, .int .u8 0, .int .u8 0, .int .u8 0, .int .u8 0, .int .u8 0, .int .u8 0, .int .u8 0, .int .u8 0, .int .u8 0, .int .u8 0, .int .u8 0, .int .u8 0, .int .u8 0, .int .u8 0, .int .u8 0, .int .u8 0, .int .u8 0] 98) = w1 := ⟨_, rfl⟩
  have hb1 : Below w.heap.size w w1 := by rw [← hw1]; exact al1'Z _ _
  have hg1 : w1.heap[w.heap.size]? = some (.cells (cB (List.replicate 32 0)).toArray 98 (0, 0)) := by rw [← hw1, ← litS]; exact new_at rfl
  obtain ⟨w2, hw2⟩ : ∃ w2, w1.alloc (.cells #[.int .u8 0, .int .u8 0, .int .u8 0, .int .u8 0, .int .u8 0, .int .u8 0, .int .u8 0, .int .u8 0, .int .u8 0, .int .u8 0, .int .u8 0, .int .u8 0, .int .u8 0, .int .u8 0, .int .u8 0, .int .u8 0, .int .u8 0, .int .u8 0, .int .u8 0, .int .u8 0, .int .u8 0, .int .u8 0, .int .u8 0, .int .u8 0, .int .u8 0, .int .u8 0, .int .u8 0, .int .u8 0, .int .u8 0, .int .u8 0, .int .u8 0, .int .u8 0] 98) = w2 := ⟨_, rfl⟩
  have hb2 : Below w1.heap.size w1 w2 := by rw [← hw2]; exact al1'Z _ _
  have hg2 : w2.heap[w1.heap.size]? = some (.cells (cB (List.replicate 32 0)).toArray 98 (0, 0)) := by rw [← hw2, ← litS]; exact new_at rfl
  have hg12 := (hb2.block _ (lt_at hg1)).trans hg1
  have hlt := lt_at hg1
  have h2 := h.carry (bel2Z hb1 hb2)
  have hsrc : 0 < (cB l).length → some (⟨w1.heap.size, 0, none⟩ : Addr) = some ⟨w1.heap.size, 0, none⟩ ∧ ∃ a, ad = some a ∧ ∀ j v, (cB l)[j]? = some v → w2.cell? (a.add j) = some v := fun hp => by
    obtain ⟨b, off, rfl, hbl, hat⟩ := h2 (fun e => by subst e; simp [cB] at hp)
    exact ⟨rfl, _, rfl, b_src hat⟩
  go_enter Tryz.func22, Tryz.ntmps22
  have hzl : (Tryz.prog.info? 98).map (·.size) = some (cB l).toArray.size := by rw [List.size_toArray, cB_len, hl]; exact infoSZ
  have hzo : (cB (List.replicate 32 0)).toArray.size = (cB l).toArray.size := by rw [List.size_toArray, List.size_toArray, cB_len, cB_len, hl, List.length_replicate]
  go_wp2_with (first | (refine wpList_copy_splice rfl _ _ _ _ rfl 5 Tryz.underlying30 infoB1 _ ad _ _ 32 cap rfl rfl w1.heap.size 0 (cB (List.replicate 32 0)) 98 hg2 (cB l) (by rw [cB_len, hl]; rfl) hsrc (by rw [cB_len, cB_len, List.length_replicate, hl]; decide) (cB_one l) w1.heap.size w1 hb2 (Nat.le_refl _) ?_; intro u HU hbu; rw [spl32 l hl] at HU) | (refine wpList_load_row rfl 98 (.tmp 3) rfl w1.heap.size rfl 98 (cB l).toArray (0, 0) _ HU.out und44 rfl hzl ?_) | (refine wpList_store_row rfl 98 (.tmp 2) (.tmp 7) rfl w.heap.size (cB l).toArray rfl rfl 98 (cB (List.replicate 32 0)).toArray ((hbu.block _ hlt).trans hg1) hzl hzo (all_one l) ?_; obtain ⟨v, hv⟩ : ∃ v, u.setRow w.heap.size (cB l).toArray = v := ⟨_, rfl⟩; have HV : Hid (v.heap[w.heap.size]? = some (.cells (cB l).toArray 98 (0, 0))) := (by rw [← hv]; exact setRow_heap _ _ _ _ _ _ ((hbu.block _ hlt).trans hg1)); have HB : Hid (Below w.heap.size w v) := (by rw [← hv]; exact below_setRow (bel2Z hb1 hbu) (Nat.le_refl _) _)))
  (try simp only [Exit.inBlock, Exit.then])
  refine bodyPost_ret (results_cell_row rfl _ _ w.heap.size _ (cB l).toArray (0, 0) _ rfl HV.out und44 rfl hzl) rfl ?_
  exact ⟨rfl, HB.out⟩

set_option maxHeartbeats 1000000 in
set_option maxRecDepth 100000 in
theorem part_any (b off cap s : Nat) (w : World) (hs : s < 8) (hc : 256 ≤ cap) : Calls Tryz.prog 23 #[.slice (some ⟨b, off, none⟩) 256 cap, .int .i64 (s : Int)] w fun e w' => e = .returned (.slice (some ⟨b, off + 32 * s, none⟩) 32 32) ∧ w' = w := by
  have h1 : (32 : Int) ≤ (cap : Int) := by omega
  have h2 : (64 : Int) ≤ (cap : Int) := by omega
  have h3 : (96 : Int) ≤ (cap : Int) := by omega
  have h4 : (128 : Int) ≤ (cap : Int) := by omega
  have h5 : (160 : Int) ≤ (cap : Int) := by omega
  have h6 : (192 : Int) ≤ (cap : Int) := by omega
  have h7 : (224 : Int) ≤ (cap : Int) := by omega
  have h8 : (256 : Int) ≤ (cap : Int) := by omega
  clear hc
  have hq : s = 0 ∨ s = 1 ∨ s = 2 ∨ s = 3 ∨ s = 4 ∨ s = 5 ∨ s = 6 ∨ s = 7 := by omega
  rcases hq with rfl | rfl | rfl | rfl | rfl | rfl | rfl | rfl
  all_goals
    go_enter Tryz.func23, Tryz.ntmps23
    go_wp2
    go_ret
    exact ⟨rfl, rfl⟩
section
variable {W : World} {p : Nat} {d : Dst}
set_option maxHeartbeats 1000000 in
theorem blow_any (h : Dk W p d) : Calls Tryz.prog 301 #[.pointer (some ⟨p, 0, none⟩)] W fun e w' => e = .returned (.tuple #[]) ∧ Dk w' p (dFuse { d with off := true } (-1)) ∧ TpZ p W w' := by
  have hc := cut_any h
  go_enter Tryz.func301, Tryz.ntmps301
  go_wp2_with (first | (go_at_call 44; (with_reducible refine hc.mono ?_); rintro e u1 ⟨rfl, h1, t1⟩; have hf := fuse_any h1 (-1)) | (go_at_call 42; (with_reducible refine hf.mono ?_); rintro e u2 ⟨rfl, h2, t2⟩))
  go_end0
  exact ⟨rfl, h2, t1.trans t2⟩
/-- What the fuse may be. -/
def Fz (d : Dst) : Prop := d.fused = true → 0 ≤ d.fuse ∧ d.fuse ≤ 9223372036854775807
/-- A write: what it answers, and the disk behind it. -/
def dWr (d : Dst) (s : Int) (x : List Nat) : Int × Dst :=
  if d.off = true then (100, d) else if ¬ (0 ≤ s ∧ s < 8) then (101, d) else if x.length ≠ 32 then (102, d) else if left d = 0 then (100, dFuse { d with off := true } (-1))
  else (0, { dBurn { d with l := putS d.l s.toNat x } with writes := d.writes + 1 })
theorem dWr_off {d : Dst} (s : Int) (x : List Nat) (h : d.off = true) : dWr d s x = (100, d) := by unfold dWr; rw [if_pos h]
theorem dWr_sec {d : Dst} {s : Int} (x : List Nat) (h : d.off = false) (hs : ¬ (0 ≤ s ∧ s < 8)) : dWr d s x = (101, d) := by unfold dWr; rw [if_neg (by rw [h]; decide), if_pos hs]
theorem dWr_len {d : Dst} {s : Int} {x : List Nat} (h : d.off = false) (hs : 0 ≤ s ∧ s < 8) (hx : ¬ x.length = 32) : dWr d s x = (102, d) := by unfold dWr; rw [if_neg (by rw [h]; decide), if_neg (fun q => q hs), if_pos hx]
theorem dWr_blow {d : Dst} {s : Int} {x : List Nat} (h : d.off = false) (hs : 0 ≤ s ∧ s < 8) (hx : x.length = 32) (hl : left d = 0) : dWr d s x = (100, dFuse { d with off := true } (-1)) := by unfold dWr; rw [if_neg (by rw [h]; decide), if_neg (fun q => q hs), if_neg (fun q => q hx), if_pos hl]
theorem dWr_ok {d : Dst} {s : Int} {x : List Nat} (h : d.off = false) (hs : 0 ≤ s ∧ s < 8) (hx : x.length = 32) (hl : ¬ left d = 0) : dWr d s x = (0, { dBurn { d with l := putS d.l s.toNat x } with writes := d.writes + 1 }) := by unfold dWr; rw [if_neg (by rw [h]; decide), if_neg (fun q => q hs), if_neg (fun q => q hx), if_neg hl]
theorem field_d0 (W : World) (B : Nat) : (Instr.fieldAt 103 (.pointer (some ⟨B, 0, none⟩)) 0).run Tryz.prog W = .ok (.pointer (some ⟨B, 0, none⟩)) W := by go_simp
theorem idx_sZ (B s : Nat) (hs : s < 8) (W : World) : (Instr.indexAt 101 (.pointer (some ⟨B, 0, none⟩)) (.int .i64 (s : Int))).run Tryz.prog W = .ok (.pointer (some ⟨B, 32 * s, none⟩)) W := by
  have h1 : (s : Int) < 8 := by omega
  rw [Nat.mul_comm]
  go_simp
set_option maxHeartbeats 2000000 in
set_option maxRecDepth 100000 in
theorem write_any (h : Dk W p d) (s : Int) (ad : Option Addr) (cap : Nat) (x : List Nat) (hx : RdB W ad x) (hb : Byt x) (hf : Fz d) (hw0 : 0 ≤ d.writes) (hw : d.writes ≤ 4611686018427387904) : Calls Tryz.prog 271 #[.pointer (some ⟨p, 0, none⟩), .int .i64 s, .slice ad x.length cap] W fun e w' => e = .returned (.int .i64 (dWr d s x).1) ∧ Dk w' p (dWr d s x).2 ∧ TpZ p W w' := by
  have ho := on_any h
  have hth := there_any s W
  have hle := left_any h
  have hbl := blow_any h
  cases hof : d.off with
  | true =>
    have e : dWr d s x = (100, d) := dWr_off s x hof
    rw [e]
    rw [hof] at ho
    clear hth hle hbl
    go_enter Tryz.func271, Tryz.ntmps271
    go_wp2_with (go_at_call 15; (with_reducible refine ho.mono ?_); rintro e u1 ⟨rfl, rfl⟩)
    go_ret
    exact ⟨rfl, h, TpZ.of _ (Below.refl _ _)⟩
  | false =>
  rw [hof] at ho
  by_cases hs : 0 ≤ s ∧ s < 8
  case neg =>
    have e : dWr d s x = (101, d) := dWr_sec x hof hs
    rw [e]
    rw [decide_eq_false hs] at hth
    clear hle hbl
    go_enter Tryz.func271, Tryz.ntmps271
    go_wp2_with (first | (go_at_call 15; (with_reducible refine ho.mono ?_); rintro e u1 ⟨rfl, rfl⟩) | (go_at_call 299; (with_reducible refine hth.mono ?_); rintro e u1 ⟨rfl, rfl⟩))
    go_ret
    exact ⟨rfl, h, TpZ.of _ (Below.refl _ _)⟩
  rw [decide_eq_true hs] at hth
  by_cases hxl : x.length = 32
  case neg =>
    have e : dWr d s x = (102, d) := dWr_len hof hs hxl
    rw [e]
    clear hle hbl
    have hxi : ¬ ((x.length : Int) = 32) := by omega
    go_enter Tryz.func271, Tryz.ntmps271
    go_wp2_with (first | (go_at_call 15; (with_reducible refine ho.mono ?_); rintro e u1 ⟨rfl, rfl⟩) | (go_at_call 299; (with_reducible refine hth.mono ?_); rintro e u1 ⟨rfl, rfl⟩))
    go_ret
    exact ⟨rfl, h, TpZ.of _ (Below.refl _ _)⟩
  by_cases hl0 : left d = 0
  case pos =>
    have e : dWr d s x = (100, dFuse { d with off := true } (-1)) := dWr_blow hof hs hxl hl0
    rw [e, hxl]
    rw [hl0] at hle
    go_enter Tryz.func271, Tryz.ntmps271
    go_wp2_with (first | (go_at_call 15; (with_reducible refine ho.mono ?_); rintro e u1 ⟨rfl, rfl⟩) | (go_at_call 299; (with_reducible refine hth.mono ?_); rintro e u1 ⟨rfl, rfl⟩) | (go_at_call 300; (with_reducible refine hle.mono ?_); rintro e u1 ⟨rfl, rfl⟩) | (go_at_call 301; (with_reducible refine hbl.mono ?_); rintro e u2 ⟨rfl, h2, t2⟩))
    go_ret
    exact ⟨rfl, h2, t2⟩
  obtain ⟨k, rfl⟩ := Int.eq_ofNat_of_zero_le hs.1
  have hk8 : k < 8 := by omega
  have e : dWr d (k : Int) x = (0, { dBurn { d with l := putS d.l k x } with writes := d.writes + 1 }) := dWr_ok hof hs hxl hl0
  rw [e, hxl]
  have hfi := filled_any ad cap x
  have hmx : Tryz.prog.follows .mixedOrders = true := by kernel_rfl
  clear hbl
  obtain ⟨L, hL⟩ : ∃ L, left d = L := ⟨_, rfl⟩
  rw [hL] at hle hl0
  have HL : Hid (left d = L) := hL
  have HX : Hid (x.length = 32) := hxl
  clear hL e hxl hs
  go_enter Tryz.func271, Tryz.ntmps271
  go_wp2_with (first | (go_at_call 15; (with_reducible refine ho.mono ?_); rintro e u1 ⟨rfl, rfl⟩) | (go_at_call 299; (with_reducible refine hth.mono ?_); rintro e u1 ⟨rfl, rfl⟩) | (go_at_call 300; (with_reducible refine hle.mono ?_); rintro e u1 ⟨rfl, rfl⟩))
  rename_i Q0 K0 hK
  refine wp_region_any hmx ?_
  refine wpAny_last 7 (fun i__ => ([(.pointer (some ⟨p, 0, none⟩)), (.int .i64 (k : Int)), (.slice ad 32 cap), (.agg (cB x).toArray), (.pointer (some ⟨p, 0, none⟩)), (.pointer (some ⟨p, 0, none⟩)), (.pointer (some ⟨p, 32 * k, none⟩)), undef] : List Value).getD i__ undef) (fun V => Dk V p d ∧ Below u1.heap.size u1 V) (fun V => Dk V p { d with l := putS d.l k x } ∧ TpZ p u1 V) rfl (by kernel_rfl) (by kernel_rfl) ⟨h.carry (Below.refl _ _).drew, (Below.refl _ _).drew⟩ ?_ ?_  ?_
  · refine (stepsFrom_cons ?_ (stepsFrom_cons ?_ (stepsFrom_cons ?_ (stepsFrom_cons ?_ (stepsFrom_cons ?_ (stepsFrom_cons ?_ (stepsFrom_cons ?_ trivial)))))))
    · exact step_move rfl trivial _ rfl (by kernel_rfl)
    · exact step_move rfl trivial _ rfl (by kernel_rfl)
    · exact step_move rfl trivial _ rfl (by kernel_rfl)
    · exact step_call rfl trivial 22 _ _ [(.slice ad 32 cap)] rfl (by kernel_rfl) (enters_of Tryz.func22 (by kernel_rfl) rfl) (fun v hw => (hfi v (hx.carry hw.2) HX.out).mono (by rintro e w' ⟨rfl, hb'⟩; exact ⟨rfl, hw.1.carry hb', bel2Z hw.2 hb'⟩))
    · exact step_nilCheck rfl trivial _ _ _ rfl rfl rfl
    · exact step_fieldAddr rfl trivial _ _ _ _ rfl rfl (fun v hw => field_d0 v _)
    · exact step_indexAddr rfl trivial _ _ _ _ _ rfl rfl rfl (fun v hw => idx_sZ p k hk8 v)
  · intro o ho
    cases ho
    exact step_store rfl trivial rfl _ _ _ _ _ rfl rfl rfl (fun v hw => by obtain ⟨v', a1, a2, a3⟩ := hw.1.put k x HX.out hb hk8; exact ⟨v', a1, a2, (TpZ.of p hw.2).trans a3⟩)
  intro W hW
  first | refine hK _ _ ?_ | refine (‹∀ (a : Act) (w : World), Code.wp Tryz.prog _ _ a w → _›) _ _ ?_ | skip
  simp only [finL, List.getD_cons_zero, List.getD_cons_succ, Nat.zero_add, Nat.reduceAdd, List.setIfInBounds_toArray, List.set_cons_zero, List.set_cons_succ]
  obtain ⟨hD, hT⟩ := hW
  have hbu := burn_any hD (fun q => by have h1 := hf q; have h2 : d.fuse ≠ 0 := (fun z => hl0 (by rw [← HL.out, left, if_pos q]; exact z)); dsimp only; omega)
  have hwi : IntKind.i64.wrap (d.writes + 1) = d.writes + 1 := i64_idZ _ (by omega) (by omega)
  clear hK
  go_wp2_with (go_at_call 302; (with_reducible refine hbu.mono ?_); rintro e u2 ⟨rfl, h2, t2⟩; have c3 := h2.c3; have z3 := h2.thaw 259; dsimp only [dBurn] at c3)
  go_ret
  exact ⟨rfl, h2.s3 (d.writes + 1), (hT.trans t2).trans (TpZ.set _ _ _ _)⟩
end

def vnatZ (v : Value) : Nat := match v with | .int _ n => n.toNat | _ => 0
def z256 : Array Value := (cB (List.replicate 256 0)).toArray
theorem mk256 (w : World) : (Instr.makeSlice 30 (.int .i64 0) (.int .i64 256)).run Tryz.prog w = .ok (.slice (some ⟨w.heap.size, 0, none⟩) 0 256) (w.alloc (.cells z256 5)) := by kernel_rfl
theorem slS_at (g o : Nat) (w : World) : (Instr.sliceAt 98 (.pointer (some ⟨g, o, none⟩)) none none none).run Tryz.prog w = .ok (.slice (some ⟨g, o, none⟩) 32 32) w := by go_simp
theorem infoB : (Tryz.prog.info? 5).map (fun i => (i.zero, i.size, i.bytes)) = some (some (.int .u8 0), 1, 1) := by kernel_rfl
theorem info_partsZ {t : TypeId} {z : Option Value} {s b : Nat} (h : (Tryz.prog.info? t).map (fun i => (i.zero, i.size, i.bytes)) = some (z, s, b)) : ∃ i, Tryz.prog.info? t = some i ∧ i.zero = z ∧ i.size = s ∧ i.bytes = b := by
  cases hi : Tryz.prog.info? t with
  | none => rw [hi] at h; cases h
  | some i =>
    rw [hi] at h
    simp only [Option.map_some, Option.some.injEq, Prod.mk.injEq] at h
    exact ⟨i, rfl, h.1, h.2.1, h.2.2⟩
theorem own_someZ {W : World} {base : Nat} {e : TypeId} {size : Nat} {v : Value} {n : Nat} {xs : List Value} (h : W.ownsRow base e size v n xs) (hn : 0 < n) : ∃ g c, v = .slice (some ⟨g, 0, none⟩) n c := by
  rcases own_formZ h with ⟨_, e2⟩ | ⟨g, c, e1, _⟩
  · omega
  · exact ⟨g, c, e1⟩
theorem own_cap {W : World} {base g n c : Nat} {e : TypeId} {xs : List Value} (h : W.ownsRow base e 1 (.slice (some ⟨g, 0, none⟩) n c) n xs) : n ≤ c := by
  rcases h.2 with ⟨e1, _⟩ | ⟨g1, c1, cur, e1, _, _, h4, _⟩
  · cases e1
  · cases e1
    exact h4
theorem own_made (w : World) (n : Nat) (hn : n ≤ maxLen) : (w.alloc (.cells (cB (List.replicate n 0)).toArray 5)).ownsRow w.heap.size 5 1 (.slice (some ⟨w.heap.size, 0, none⟩) 0 n) 0 [] := by
  refine ⟨rfl, .inr ⟨w.heap.size, n, _, rfl, Nat.le_refl _, new_at rfl, Nat.zero_le _, hn, ?_, ?_⟩⟩
  · simp [cB]
  · simp
theorem take_step (l : List Nat) (k : Nat) : l.take (32 * k) ++ (l.drop (32 * k)).take 32 = l.take (32 * (k + 1)) := by
  rw [show 32 * (k + 1) = 32 * k + 32 by omega, List.take_add]
section
variable {W : World} {p : Nat} {d : Dst}
set_option maxHeartbeats 1000000 in
set_option maxRecDepth 100000 in
theorem image_any (h : Dk W p d) : Calls Tryz.prog 12 #[.pointer (some ⟨p, 0, none⟩)] W fun e w' => ∃ g c, e = .returned (.slice (some ⟨g, 0, none⟩) 256 c) ∧ w'.ownsRow W.heap.size 5 1 (.slice (some ⟨g, 0, none⟩) 256 c) 256 (cB d.l) ∧ Below W.heap.size W w' := by
  obtain ⟨ic, hic, hz0, hz1, hz2⟩ := info_partsZ infoB
  have hm := mk256
  have hsl := slS_at
  obtain ⟨w1, hw1⟩ : ∃ w1, W.alloc (.cells z256 5) = w1 := ⟨_, rfl⟩
  have hb1 : Below W.heap.size W w1 := by rw [← hw1]; exact al1'Z _ _
  have ho1 : w1.ownsRow W.heap.size 5 1 (.slice (some ⟨W.heap.size, 0, none⟩) 0 256) 0 [] := by rw [← hw1]; exact own_made W 256 (by unfold maxLen; omega)
  go_enter Tryz.func12, Tryz.ntmps12
  go_wp2
  go_loopw [3, 8] (fun v i wz => ∃ (k n g c : Nat), i = .int .i64 k ∧ k ≤ 8 ∧ Hid (n = 32 * k) ∧ v = .slice (some ⟨g, 0, none⟩) n c ∧ wz.ownsRow W.heap.size 5 1 v n (cB (d.l.take (32 * k))) ∧ Below W.heap.size W wz) (fun _ i _ => 8 - vnatZ i)
  case atStart => exact ⟨0, 0, W.heap.size, 256, rfl, by omega, rfl, rfl, by simpa [cB] using ho1, hb1⟩
  case round =>
    obtain ⟨k, n, g, c, rfl, hk, HN, rfl, ho, hb⟩ := hrel
    by_cases hk8 : k < 8
    · have hki : (k : Int) < 8 := by omega
      have hD := h.carry hb
      have hix := fun w => idx_sZ p k hk8 w
      have hsub := hD.at.sub (32 * k) 32
      rw [Nat.zero_add] at hsub
      have hln : ((d.l.drop (32 * k)).take 32).length = 32 := by rw [List.length_take, List.length_drop, h.len]; omega
      obtain ⟨X, hX⟩ : ∃ X, (d.l.drop (32 * k)).take 32 = X := ⟨_, rfl⟩
      rw [hX] at hsub hln
      have HX : Hid ((d.l.drop (32 * k)).take 32 = X) := hX
      have hn := HN.out
      have hnews := b_src hsub
      have hcl : (cB X).length = 32 * 1 := by rw [cB_len, hln]
      clear hX hsub
      have hn1 : n + 32 ≤ 256 := by omega
      clear hn
      go_wp2_with (at_builtin; refine wpList_append_own_at _ rfl _ _ 30 rfl W.heap.size 5 ic _ 1 1 Tryz.underlying30 hic hz0 hz1 hz2 rfl (by decide) _ n _ rfl ho ⟨p, 32 * k, none⟩ 32 32 (cB X) rfl (by rw [hcl]) hnews (cB_one X) (by unfold maxLen; omega) (by omega) hb.size ?_; intro v u ho2 hgu hnn _; have hbu : Below W.heap.size W u := hb.grown hgu hb.size (fun q e => own_blockZ ho q e); obtain ⟨g2, c2, rfl⟩ := own_someZ ho2 (by omega))
      go_roundw
      case rel =>
        refine ⟨k + 1, n + 32, g2, c2, by simp, by omega, by show n + 32 = _; have := HN.out; omega, rfl, ?_, hbu⟩
        rw [← take_step, HX.out, cB_app]
        exact ho2
      case measure => simp [vnatZ]; omega
    · have hk : k = 8 := by omega
      subst hk
      obtain rfl : n = 256 := HN.out
      rw [show 32 * 8 = 256 from rfl, List.take_of_length_le (Nat.le_of_eq h.len)] at ho
      go_wp2
      go_ret
      exact ⟨g, c, rfl, ho, hb⟩
end

section
variable {W : World} {p : Nat} {d : Dst}
/-- A sector's bytes. -/
def secs (l : List Nat) (k : Nat) : List Nat := (l.drop (32 * k)).take 32
theorem secs_len {l : List Nat} (h : l.length = 256) {k : Nat} (hk : k < 8) : (secs l k).length = 32 := by rw [secs, List.length_take, List.length_drop, h]; omega
set_option maxHeartbeats 1000000 in
theorem read_ok (h : Dk W p d) (k : Nat) (ho : d.off = false) (hk : k < 8) : Calls Tryz.prog 267 #[.pointer (some ⟨p, 0, none⟩), .int .i64 (k : Int)] W fun e w' => ∃ g c, e = .returned (.tuple #[.slice (some ⟨g, 32 * k, none⟩) 32 32, .int .i64 0]) ∧ w'.ownsRow W.heap.size 5 1 (.slice (some ⟨g, 0, none⟩) 256 c) 256 (cB d.l) ∧ RdY w' (some ⟨g, 32 * k, none⟩) (secs d.l k) ∧ Below W.heap.size W w' := by
  have hon := on_any h
  rw [ho] at hon
  have hth := there_any (k : Int) W
  rw [decide_eq_true (show 0 ≤ (k : Int) ∧ (k : Int) < 8 by omega)] at hth
  have him := image_any h
  have hl := h.len
  have HL : Hid (d.l.length = 256) := hl
  clear hl
  go_enter Tryz.func267, Tryz.ntmps267
  go_wp2_with (first | (go_at_call 15; (with_reducible refine hon.mono ?_); rintro e u1 ⟨rfl, rfl⟩) | (go_at_call 299; (with_reducible refine hth.mono ?_); rintro e u1 ⟨rfl, rfl⟩) | (go_at_call 12; (with_reducible refine him.mono ?_); rintro e u2 ⟨g, c, rfl, ho2, hb2⟩; have hc2 := own_cap ho2; have hpa := part_any g 0 c k u2 hk hc2; rw [Nat.zero_add] at hpa) | (go_at_call 23; (with_reducible refine hpa.mono ?_); rintro e u3 ⟨rfl, rfl⟩))
  go_ret2
  refine ⟨g, c, rfl, ho2, fun _ => ⟨g, 32 * k, rfl, ?_, ?_⟩, hb2⟩
  · rcases own_formZ ho2 with ⟨_, e2⟩ | ⟨g', c', e1, _, _, _, _, h5⟩
    · cases e2
    · cases e1
      exact h5
  · have := (b_own ho2 HL.out.symm).sub (32 * k) 32
    rw [Nat.zero_add] at this
    exact this
end
end Go.Proofs.YtklnfbanfgdgcaaGreatDoor
