/- One of the two disks that are played with: the program's, the document's, the book of lists; looks. -/
import Derived.Test.YtkbeoliglnikiaaGreatDrd
import Derived.Test.YtkbeoliglnikiaaGreatDls
import Derived.Test.YtkbeoliglnikiaaGreatDkx
namespace Go.Proofs.YtkbeoliglnikiaaGreat
open Go.RowKit Go.Shelf

theorem NKx.carry {base bb k : Nat} {x y : List Value} {W V : World} (h : NKx base bb W k x y) (hb : Below W.heap.size W V) : NKx base bb V k x y := by
  obtain ⟨u, v, hk, hkb, h6, h7, hap, hbb⟩ := h
  exact ⟨u, v, hk, (hb.block _ (lt_at hkb)).trans hkb, row_below h6 hb, row_below h7 hb, hap, hbb⟩
theorem NK.carry {σ : Sg} {base bb : Nat} {W V : World} (h : NK σ base bb W) (hb : Below W.heap.size W V) : NK σ base bb V := by
  obtain ⟨hs, k, x, y, L, G, hx, hl, hL⟩ := h
  exact ⟨fun b q => Nat.lt_of_lt_of_le (hs b q) hb.size, k, x, y, L, G, hx.carry hb, hl, hL.carry (fun g cur _ hc => (hb.block g (lt_at hc)).trans hc)⟩
/-- A block of another type than the book of lists and its rows stays. -/
theorem Kp.at {σ : Sg} {base bb q : Nat} {W V : World} {cur : Array Value} {t : TypeId} {fz : Nat × Nat} (h : Kp base bb W V) (hn : NK σ base bb W) (ho : W.heap[q]? = some (.cells cur t fz)) (h1 : t ≠ 41) (h2 : t ≠ 22) : V.heap[q]? = some (.cells cur t fz) := by
  obtain ⟨_, k, x, y, _, _, ⟨u, v, hk, hkb, _⟩, _⟩ := hn
  refine h.block q _ ho (fun e => ?_) (.inr (fun c f e => ?_))
  · subst e
    have := hkb.symm.trans ho
    simp only [Option.some.injEq, Obj.cells.injEq] at this
    exact h1 this.2.1.symm
  · simp only [Obj.cells.injEq] at e
    exact h2 e.2.1
theorem Kp.row {σ : Sg} {base bb b n : Nat} {W V : World} {v : Value} {xs : List Value} (h : Kp base bb W V) (hn : NK σ base bb W) (hr : W.ownsRow b 5 1 v n xs) : V.ownsRow b 5 1 v n xs := by
  refine ⟨hr.1, ?_⟩
  rcases hr.2 with h1 | ⟨g, cap, cur, h1, h2, h3, h4⟩
  · exact .inl h1
  · exact .inr ⟨g, cap, cur, h1, h2, h.at hn h3 (by decide) (by decide), h4⟩
theorem Kp.rd {σ : Sg} {base bb : Nat} {W V : World} {ad : Option Addr} {l : List Nat} (h : Kp base bb W V) (hn : NK σ base bb W) (hr : RdY W ad l) : RdY V ad l := by
  intro hne
  obtain ⟨b, o, e, ⟨cur, ho⟩, hat⟩ := hr hne
  have h3 := h.at hn ho (by decide) (by decide)
  exact ⟨b, o, e, ⟨cur, h3⟩, hat.carry (h3.trans ho.symm)⟩
/-- One of the two that are played with: at lb, off on. -/
structure Sd (σ : Sg) (base lb off bb p r c : Nat) (d : Dst) (W : World) : Prop where
  c0 : W.cell? ⟨lb, off, none⟩ = some (.pointer (some ⟨p, 0, none⟩))
  rf : RfD W lb (off + 1) base r c d
  c5 : W.cell? ⟨lb, off + 5, none⟩ = some (.pointer (some ⟨bb, 0, none⟩))
  dk : Dk W p d
  nk : NK σ base bb W
  bz : base ≤ W.heap.size
  pb : base ≤ p
  lb0 : base ≤ lb
  sr : σ r
section
variable {base lb off bb p r c : Nat} {d : Dst} {W V : World}
theorem RfD.carryB {o : Nat} (h : RfD W lb o base r c d) (e : ∀ cur, W.heap[lb]? = some (.cells cur 47 (0, 0)) → V.heap[lb]? = some (.cells cur 47 (0, 0))) (hr : V.ownsRow base 5 1 (.slice (some ⟨r, 0, none⟩) 256 c) 256 (cB d.l)) : RfD V lb o base r c d := by
  obtain ⟨cur, hl⟩ := h.lk
  have hq := (e cur hl).trans hl.symm
  exact ⟨(World.cell?_of_block (a := ⟨lb, _, none⟩) hq).trans h.b, (World.cell?_of_block (a := ⟨lb, _, none⟩) hq).trans h.f, (World.cell?_of_block (a := ⟨lb, _, none⟩) hq).trans h.u, (World.cell?_of_block (a := ⟨lb, _, none⟩) hq).trans h.n, hr, ⟨cur, e cur hl⟩, h.len, h.byt⟩
theorem Sd.carry {σ : Sg} (h : Sd σ base lb off bb p r c d W) (hb : Below W.heap.size W V) : Sd σ base lb off bb p r c d V := by
  obtain ⟨cur, hl⟩ := h.rf.lk
  have hq := hb.block _ (lt_at hl)
  exact ⟨(World.cell?_of_block (a := ⟨lb, _, none⟩) hq).trans h.c0, h.rf.carryB (fun cur hc => (hb.block _ (lt_at hc)).trans hc) (row_below h.rf.row hb), (World.cell?_of_block (a := ⟨lb, _, none⟩) hq).trans h.c5, h.dk.carry hb, h.nk.carry hb, Nat.le_trans h.bz hb.size, h.pb, h.lb0, h.sr⟩
theorem Sd.kp {σ : Sg} (h : Sd σ base lb off bb p r c d W) (hk : Kp base bb W V) (hn : NK σ base bb V) : Sd σ base lb off bb p r c d V := by
  obtain ⟨cur, hl⟩ := h.rf.lk
  have hq := (hk.at h.nk hl (by decide) (by decide)).trans hl.symm
  exact ⟨(World.cell?_of_block (a := ⟨lb, _, none⟩) hq).trans h.c0, h.rf.carryB (fun cur hc => hk.at h.nk hc (by decide) (by decide)) (hk.row h.nk h.rf.row), (World.cell?_of_block (a := ⟨lb, _, none⟩) hq).trans h.c5, ⟨hk.at h.nk h.dk.obj (by decide) (by decide), h.dk.len, h.dk.byt⟩, hn, Nat.le_trans h.bz hk.size, h.pb, h.lb0, h.sr⟩
end
theorem field_bo0 (W : World) (B o : Nat) : (Instr.fieldAt 46 (.pointer (some ⟨B, o, none⟩)) 0).run Tryz.prog W = .ok (.pointer (some ⟨B, o, none⟩)) W := by go_simp
theorem field_bo1 (W : World) (B o : Nat) : (Instr.fieldAt 46 (.pointer (some ⟨B, o, none⟩)) 1).run Tryz.prog W = .ok (.pointer (some ⟨B, o + 1, none⟩)) W := by go_simp
theorem field_bo2 (W : World) (B o : Nat) : (Instr.fieldAt 46 (.pointer (some ⟨B, o, none⟩)) 2).run Tryz.prog W = .ok (.pointer (some ⟨B, o + 5, none⟩)) W := by go_simp
theorem field_rd1 (W : World) (B o : Nat) : (Instr.fieldAt 44 (.pointer (some ⟨B, o, none⟩)) 1).run Tryz.prog W = .ok (.pointer (some ⟨B, o + 1, none⟩)) W := by go_simp
theorem field_rd2 (W : World) (B o : Nat) : (Instr.fieldAt 44 (.pointer (some ⟨B, o, none⟩)) 2).run Tryz.prog W = .ok (.pointer (some ⟨B, o + 2, none⟩)) W := by go_simp
theorem field_rd3 (W : World) (B o : Nat) : (Instr.fieldAt 44 (.pointer (some ⟨B, o, none⟩)) 3).run Tryz.prog W = .ok (.pointer (some ⟨B, o + 3, none⟩)) W := by go_simp
theorem load_bop {W : World} {B o p : Nat} (h : W.cell? ⟨B, o, none⟩ = some (.pointer (some ⟨p, 0, none⟩))) : (Instr.loadAt 42 (.pointer (some ⟨B, o, none⟩))).run Tryz.prog W = .ok (.pointer (some ⟨p, 0, none⟩)) W := by go_simp
theorem load_bob {W : World} {B o : Nat} {x : Bool} (h : W.cell? ⟨B, o, none⟩ = some (.bool x)) : (Instr.loadAt 4 (.pointer (some ⟨B, o, none⟩))).run Tryz.prog W = .ok (.bool x) W := by go_simp
theorem load_boi {W : World} {B o : Nat} {x : Int} (h : W.cell? ⟨B, o, none⟩ = some (.int .i64 x)) : (Instr.loadAt 3 (.pointer (some ⟨B, o, none⟩))).run Tryz.prog W = .ok (.int .i64 x) W := by go_simp
theorem eql_bool (x y : Operand) (w : World) (b : Bool) : binRun Tryz.prog .eql 4 x y (.bool b) (.bool b) w = .ok (.bool true) w := by cases b <;> kernel_rfl
/-- A list is kept: its block is none in which something lies. -/
theorem kb_any {σ : Sg} {W : World} {base bb : Nat} (g off n c : Nat) (h : NK (oneMore σ g) base bb W) (hsg : ¬ σ g) (hbz : base ≤ W.heap.size) (hbg : base ≤ g) (l : List Nat) (hl : l.length = n) (hn : n ≤ 1000) (hr : RdY W (some ⟨g, off, none⟩) l) (hg : ∃ cur, W.heap[g]? = some (.cells cur 5 (0, 0))) (hB : Byt l) (hcn : c = n) (hat : BAt W g off l) : Calls Tryz.prog 25 #[.pointer (some ⟨bb, 0, none⟩), .slice (some ⟨g, off, none⟩) n c] W fun e w' => (∃ v, e = .returned v) ∧ NK σ base bb w' ∧ Kp base bb W w' := by
  have hN := h
  obtain ⟨hs, k, x, y, L, G, hx, hlk, hL⟩ := h
  obtain ⟨cur, hc⟩ := hg
  have := kbytes_any hx hbz (some ⟨g, off, none⟩) c l hr.rd (fun a ha => by cases ha; exact ⟨cur, _, _, hc, by decide, by decide⟩) (by omega) (fun e => by cases e)
  rw [hl] at this
  refine this.mono ?_
  rintro e w' ⟨h1, h2, h3⟩
  refine ⟨h1, ?_, h2⟩
  have hL' := (hL.other (τ := σ) (fun g' _ q1 _ q => q1 (.inl q))).carry (V := w') (fun g' cur' _ hc' => h2.at hN hc' (by decide) (by decide))
  have hs' : ∀ b, σ b → b < w'.heap.size := fun b q => Nat.lt_of_lt_of_le (hs b (.inl q)) h2.size
  rcases h3 with ⟨_, z, h3, h4⟩ | ⟨_, h3⟩
  · have hc' := h2.at hN hc (by decide) (by decide)
    refine ⟨hs', _, _, _, L ++ [l], G ++ [some g], h3, by simp [hlk], hL'.app (.inr ⟨g, off, cur, by rw [hl, hcn], rfl, hbg, hsg, hc', hat.carry (hc'.trans hc.symm)⟩) (cu_own (B := W.heap.size) (by rw [hl]; exact h4) (fun b q => hs b (.inl q))) hB (by omega) (fun g' e i hi => ?_)⟩
    cases e
    exact hL.not hi (.inr rfl)
  · exact ⟨hs', _, _, _, L, G, h3, hlk, hL'⟩
set_option maxHeartbeats 4000000 in
set_option maxRecDepth 100000 in
theorem looks_any {σ : Sg} {w : World} {base lb off bb p r c : Nat} {d : Dst} (h : Sd σ base lb off bb p r c d w) : Calls Tryz.prog 13 #[.pointer (some ⟨lb, off, none⟩)] w fun e w' => e = .returned (.bool true) ∧ NK σ base bb w' ∧ Kp base bb w w' := by
  have hmx : Tryz.prog.follows .mixedOrders = true := by kernel_rfl
  have him := image_full h.dk
  have c0 := h.c0
  have HSD : Hid (Sd σ base lb off bb p r c d w) := h
  have HLN : Hid (d.l.length = 256) := h.dk.len
  have HBY : Hid (Byt d.l) := h.dk.byt
  clear h
  go_enter Tryz.func13, Tryz.ntmps13
  go_wp2_with (first | (go_at_call 31; (with_reducible refine him.mono ?_); rintro e u1 ⟨g, rfl, ho1, hb1⟩; have hs1 := HSD.out.carry hb1; have c5 := hs1.c5; have hr1 : RdY u1 (some ⟨g, 0, none⟩) d.l := RdY.own (base := w.heap.size) (c := 256) (by rw [HLN.out]; exact ho1); have hgw := own_block ho1 g rfl; have k1 := kb_any g 0 256 256 (HSD.out.nk.more u1 (fun _ _ _ q => q.carry hb1) hb1.block hb1.size hgw (row_lt0 ho1)) (fun q => by have := HSD.out.nk.1 g q; omega) hs1.bz (Nat.le_trans HSD.out.bz hgw) d.l HLN.out (by omega) hr1 (ownsRow_block ho1 g rfl).2 HBY.out rfl (b_own ho1 HLN.out.symm)) | (go_at_call 25; (with_reducible refine k1.mono ?_); rintro e u2 ⟨⟨v2, rfl⟩, hn2, hk2⟩; have hs2 := hs1.kp hk2 hn2; have hr2 := hk2.rd hs1.nk hr1; have hkp2 : Kp base bb w u2 := (Kp.ofBelow hb1).trans hk2))
  rename_i Q0 K0 hK
  clear him k1 hs1 hr1 c0 c5 HSD ho1
  refine wp_region_any hmx ?_
  refine wpAny_pure (fun i__ => ([(.slice (some ⟨g, 0, none⟩) 256 256), (.pointer (some ⟨lb, off, none⟩)), (.pointer (some ⟨lb, off, none⟩)), (.pointer (some ⟨lb, off + 1, none⟩)), (.pointer (some ⟨lb, off + 1, none⟩)), (.slice (some ⟨r, 0, none⟩) 256 c), (.bool true), (.bool true), (.pointer (some ⟨lb, off, none⟩)), (.pointer (some ⟨lb, off, none⟩)), (.pointer (some ⟨lb, off, none⟩)), (.pointer (some ⟨p, 0, none⟩)), (.bool (!d.off)), (.pointer (some ⟨lb, off, none⟩)), (.pointer (some ⟨lb, off, none⟩)), (.pointer (some ⟨lb, off + 1, none⟩)), (.pointer (some ⟨lb, off + 1 + 1, none⟩)), (.bool d.off), (.bool (!d.off)), (.bool true), (.bool true), (.bool true), (.pointer (some ⟨lb, off, none⟩)), (.pointer (some ⟨lb, off, none⟩)), (.pointer (some ⟨lb, off, none⟩)), (.pointer (some ⟨p, 0, none⟩)), (.int .i64 (left d)), (.pointer (some ⟨lb, off, none⟩)), (.pointer (some ⟨lb, off, none⟩)), (.pointer (some ⟨lb, off + 1, none⟩)), (.pointer (some ⟨lb, off + 1 + 2, none⟩)), (.int .i64 (left d)), (.bool true), (.bool true), (.bool true), (.pointer (some ⟨lb, off, none⟩)), (.pointer (some ⟨lb, off, none⟩)), (.pointer (some ⟨lb, off, none⟩)), (.pointer (some ⟨p, 0, none⟩)), (.int .i64 d.writes), (.pointer (some ⟨lb, off, none⟩)), (.pointer (some ⟨lb, off, none⟩)), (.pointer (some ⟨lb, off + 1, none⟩)), (.pointer (some ⟨lb, off + 1 + 3, none⟩)), (.int .i64 d.writes), (.bool true), (.bool true), (.bool true)] : List Value).getD i__ undef) (fun V => Sd σ base lb off bb p r c d V ∧ RdY V (some ⟨g, 0, none⟩) d.l ∧ Kp base bb w V) (by kernel_rfl) ⟨hs2.carry (Below.refl _ _).drew, hr2.carry (Below.refl _ _).drew, hkp2.trans (Kp.ofBelow (Below.refl _ _).drew)⟩ ?_ ?_
  · refine (stepsFrom_cons ?_ (stepsFrom_cons ?_ (stepsFrom_cons ?_ (stepsFrom_cons ?_ (stepsFrom_cons ?_ (stepsFrom_cons ?_ (stepsFrom_cons ?_ (stepsFrom_cons ?_ (stepsFrom_cons ?_ (stepsFrom_cons ?_ (stepsFrom_cons ?_ (stepsFrom_cons ?_ (stepsFrom_cons ?_ (stepsFrom_cons ?_ (stepsFrom_cons ?_ (stepsFrom_cons ?_ (stepsFrom_cons ?_ (stepsFrom_cons ?_ (stepsFrom_cons ?_ (stepsFrom_cons ?_ (stepsFrom_cons ?_ (stepsFrom_cons ?_ (stepsFrom_cons ?_ (stepsFrom_cons ?_ (stepsFrom_cons ?_ (stepsFrom_cons ?_ (stepsFrom_cons ?_ (stepsFrom_cons ?_ (stepsFrom_cons ?_ (stepsFrom_cons ?_ (stepsFrom_cons ?_ (stepsFrom_cons ?_ (stepsFrom_cons ?_ (stepsFrom_cons ?_ (stepsFrom_cons ?_ (stepsFrom_cons ?_ (stepsFrom_cons ?_ (stepsFrom_cons ?_ (stepsFrom_cons ?_ (stepsFrom_cons ?_ (stepsFrom_cons ?_ (stepsFrom_cons ?_ (stepsFrom_cons ?_ (stepsFrom_cons ?_ (stepsFrom_cons ?_ (stepsFrom_cons ?_ (stepsFrom_cons ?_ (stepsFrom_cons ?_ trivial))))))))))))))))))))))))))))))))))))))))))))))))
    · exact step_move rfl trivial _ rfl (by kernel_rfl)
    · exact step_move rfl trivial _ rfl (by kernel_rfl)
    · exact step_nilCheck rfl trivial _ _ _ rfl rfl rfl
    · exact step_fieldAddr rfl trivial _ _ _ _ rfl rfl (fun w hw => field_bo1 w _ _)
    · exact step_fieldAddr rfl trivial _ _ _ _ rfl rfl (fun w hw => field_rd0 w _ _)
    · exact step_load rfl trivial _ _ _ rfl rfl (fun w hw => load_sl hw.1.rf.b)
    · exact step_call rfl trivial 26 _ _ [(.slice (some ⟨g, 0, none⟩) 256 256), (.slice (some ⟨r, 0, none⟩) 256 c)] rfl (by kernel_rfl) (enters_of Tryz.func26 (by kernel_rfl) rfl) (fun w hw => (by have q := sameB_yes (some ⟨g, 0, none⟩) (some ⟨r, 0, none⟩) 256 c d.l w hw.2.1.rd (RdY.own (base := base) (c := c) (by rw [HLN.out]; exact hw.1.rf.row)).rd (by rw [HLN.out]; decide); rw [HLN.out] at q; exact q.mono (by rintro e w' ⟨rfl, hb⟩; exact ⟨rfl, hw.1.carry hb, hw.2.1.carry hb, hw.2.2.trans (Kp.ofBelow hb)⟩)))
    · exact step_move rfl trivial _ rfl (by kernel_rfl)
    · exact step_move rfl (by exact ⟨_, rfl, by kernel_rfl⟩) _ rfl (by kernel_rfl)
    · exact step_nilCheck rfl (by exact ⟨_, rfl, by kernel_rfl⟩) _ _ _ rfl rfl rfl
    · exact step_fieldAddr rfl (by exact ⟨_, rfl, by kernel_rfl⟩) _ _ _ _ rfl rfl (fun w hw => field_bo0 w _ _)
    · exact step_load rfl (by exact ⟨_, rfl, by kernel_rfl⟩) _ _ _ rfl rfl (fun w hw => load_bop hw.1.c0)
    · exact step_call rfl (by exact ⟨_, rfl, by kernel_rfl⟩) 32 _ _ [(.pointer (some ⟨p, 0, none⟩))] rfl (by kernel_rfl) (enters_of Tryz.func32 (by kernel_rfl) rfl) (fun w hw => (on_any hw.1.dk).mono (by rintro e w' ⟨rfl, rfl⟩; exact ⟨rfl, hw⟩))
    · exact step_move rfl (by exact ⟨_, rfl, by kernel_rfl⟩) _ rfl (by kernel_rfl)
    · exact step_nilCheck rfl (by exact ⟨_, rfl, by kernel_rfl⟩) _ _ _ rfl rfl rfl
    · exact step_fieldAddr rfl (by exact ⟨_, rfl, by kernel_rfl⟩) _ _ _ _ rfl rfl (fun w hw => field_bo1 w _ _)
    · exact step_fieldAddr rfl (by exact ⟨_, rfl, by kernel_rfl⟩) _ _ _ _ rfl rfl (fun w hw => field_rd1 w _ _)
    · exact step_load rfl (by exact ⟨_, rfl, by kernel_rfl⟩) _ _ _ rfl rfl (fun w hw => load_bob hw.1.rf.f)
    · exact step_unOp rfl (by exact ⟨_, rfl, by kernel_rfl⟩) _ _ _ _ rfl rfl (fun w hw => un_not d.off w)
    · exact step_binOp rfl (by exact ⟨_, rfl, by kernel_rfl⟩) _ _ _ _ _ _ _ rfl rfl rfl (fun w hw => eql_bool _ _ _ _)
    · exact step_pick rfl trivial _ _ _ true rfl (by kernel_rfl) (by kernel_rfl)
    · exact step_move rfl trivial _ rfl (by kernel_rfl)
    · exact step_move rfl (by exact ⟨_, rfl, by kernel_rfl⟩) _ rfl (by kernel_rfl)
    · exact step_nilCheck rfl (by exact ⟨_, rfl, by kernel_rfl⟩) _ _ _ rfl rfl rfl
    · exact step_fieldAddr rfl (by exact ⟨_, rfl, by kernel_rfl⟩) _ _ _ _ rfl rfl (fun w hw => field_bo0 w _ _)
    · exact step_load rfl (by exact ⟨_, rfl, by kernel_rfl⟩) _ _ _ rfl rfl (fun w hw => load_bop hw.1.c0)
    · exact step_call rfl (by exact ⟨_, rfl, by kernel_rfl⟩) 18 _ _ [(.pointer (some ⟨p, 0, none⟩))] rfl (by kernel_rfl) (enters_of Tryz.func18 (by kernel_rfl) rfl) (fun w hw => (left_any hw.1.dk).mono (by rintro e w' ⟨rfl, rfl⟩; exact ⟨rfl, hw⟩))
    · exact step_move rfl (by exact ⟨_, rfl, by kernel_rfl⟩) _ rfl (by kernel_rfl)
    · exact step_nilCheck rfl (by exact ⟨_, rfl, by kernel_rfl⟩) _ _ _ rfl rfl rfl
    · exact step_fieldAddr rfl (by exact ⟨_, rfl, by kernel_rfl⟩) _ _ _ _ rfl rfl (fun w hw => field_bo1 w _ _)
    · exact step_fieldAddr rfl (by exact ⟨_, rfl, by kernel_rfl⟩) _ _ _ _ rfl rfl (fun w hw => field_rd2 w _ _)
    · exact step_load rfl (by exact ⟨_, rfl, by kernel_rfl⟩) _ _ _ rfl rfl (fun w hw => load_boi hw.1.rf.u)
    · exact step_binOp rfl (by exact ⟨_, rfl, by kernel_rfl⟩) _ _ _ _ _ _ _ rfl rfl rfl (fun w hw => (bin_eql .i64 _ _).trans (by simp))
    · exact step_pick rfl trivial _ _ _ true rfl (by kernel_rfl) (by kernel_rfl)
    · exact step_move rfl trivial _ rfl (by kernel_rfl)
    · exact step_move rfl (by exact ⟨_, rfl, by kernel_rfl⟩) _ rfl (by kernel_rfl)
    · exact step_nilCheck rfl (by exact ⟨_, rfl, by kernel_rfl⟩) _ _ _ rfl rfl rfl
    · exact step_fieldAddr rfl (by exact ⟨_, rfl, by kernel_rfl⟩) _ _ _ _ rfl rfl (fun w hw => field_bo0 w _ _)
    · exact step_load rfl (by exact ⟨_, rfl, by kernel_rfl⟩) _ _ _ rfl rfl (fun w hw => load_bop hw.1.c0)
    · exact step_call rfl (by exact ⟨_, rfl, by kernel_rfl⟩) 17 _ _ [(.pointer (some ⟨p, 0, none⟩))] rfl (by kernel_rfl) (enters_of Tryz.func17 (by kernel_rfl) rfl) (fun w hw => (writes_any hw.1.dk).mono (by rintro e w' ⟨rfl, rfl⟩; exact ⟨rfl, hw⟩))
    · exact step_move rfl (by exact ⟨_, rfl, by kernel_rfl⟩) _ rfl (by kernel_rfl)
    · exact step_nilCheck rfl (by exact ⟨_, rfl, by kernel_rfl⟩) _ _ _ rfl rfl rfl
    · exact step_fieldAddr rfl (by exact ⟨_, rfl, by kernel_rfl⟩) _ _ _ _ rfl rfl (fun w hw => field_bo1 w _ _)
    · exact step_fieldAddr rfl (by exact ⟨_, rfl, by kernel_rfl⟩) _ _ _ _ rfl rfl (fun w hw => field_rd3 w _ _)
    · exact step_load rfl (by exact ⟨_, rfl, by kernel_rfl⟩) _ _ _ rfl rfl (fun w hw => load_boi hw.1.rf.n)
    · exact step_binOp rfl (by exact ⟨_, rfl, by kernel_rfl⟩) _ _ _ _ _ _ _ rfl rfl rfl (fun w hw => (bin_eql .i64 _ _).trans (by simp))
    · exact step_pick rfl trivial _ _ _ true rfl (by kernel_rfl) (by kernel_rfl)
    · exact step_assign rfl trivial _ rfl (by kernel_rfl) (fun _ h => h)
  intro W hW
  first | refine hK _ _ ?_ | refine (‹∀ (a : Act) (w : World), Code.wp Tryz.prog _ _ a w → _›) _ _ ?_
  simp only [finL, List.getD_cons_zero, List.getD_cons_succ, Nat.zero_add, Nat.reduceAdd, List.setIfInBounds_toArray, List.set_cons_zero, List.set_cons_succ]
  obtain ⟨hsW, _, hkW⟩ := hW
  have HA : Hid (NK σ base bb W) := hsW.nk
  clear hsW hs2 hr2 hkp2
  go_wp2
  go_ret
  exact ⟨rfl, HA.out, hkW⟩
end Go.Proofs.YtkbeoliglnikiaaGreat
