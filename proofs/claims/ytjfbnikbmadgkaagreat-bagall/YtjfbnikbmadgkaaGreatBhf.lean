/- One of the two bags that are played with: the program's, the document's, the book of lists; looks. -/
import Derived.Test.YtjfbnikbmadgkaaGreatBhe
namespace Go.Proofs.YtjfbnikbmadgkaaGreat
open Go.RowKit Go.Shelf Go.Lib

/-- One of the two that are played with: at lb, off on. -/
structure Sd (σ : Nat → Prop) (base lb off bb p : Nat) (ad : Option Addr) (cap : Nat) (room last : Int) (ps : List Nat) (l : List Gr) (adR : Option Addr) (capR : Nat) (av : List (Option Addr × Nat)) (W : World) : Prop where
  c0 : W.cell? ⟨lb, off, none⟩ = some (.pointer (some ⟨p, 0, none⟩))
  c4 : W.cell? ⟨lb, off + 4, none⟩ = some (.pointer (some ⟨bb, 0, none⟩))
  bg : Bg σ W base p ad cap room last ps l
  rg : Rg W base lb (off + 1) adR capR last room l av
  nk : NK σ base bb W
  lb0 : base ≤ lb
  sr : ∀ b, ob adR = some b → σ b
section
variable {σ : Nat → Prop} {base lb off bb p : Nat} {ad : Option Addr} {cap : Nat} {room last : Int} {ps : List Nat} {l : List Gr} {adR : Option Addr} {capR : Nat} {av : List (Option Addr × Nat)} {W V : World}
theorem Sd.bz (h : Sd σ base lb off bb p ad cap room last ps l adR capR av W) : base ≤ W.heap.size := Nat.le_trans h.bg.pb (Nat.le_of_lt h.bg.plt)
theorem Sd.carry (h : Sd σ base lb off bb p ad cap room last ps l adR capR av W) (hb : Below W.heap.size W V) : Sd σ base lb off bb p ad cap room last ps l adR capR av V :=
  ⟨(hb.cell (p := ⟨lb, _, none⟩) h.rg.lt).trans h.c0, (hb.cell (p := ⟨lb, _, none⟩) h.rg.lt).trans h.c4, h.bg.carry hb, h.rg.carry hb, h.nk.carry hb, h.lb0, h.sr⟩
/-- The book of lists turns. -/
theorem Sd.kw (h : Sd σ base lb off bb p ad cap room last ps l adR capR av W) (hk : Kw base bb W V) (hn : NK σ base bb V) : Sd σ base lb off bb p ad cap room last ps l adR capR av V := by
  obtain ⟨cur, hl⟩ := h.rg.blk
  have hq := hk.at h.nk hl (by decide) (by decide) (by decide)
  have hce : ∀ j, V.cell? ⟨lb, j, none⟩ = W.cell? ⟨lb, j, none⟩ := fun j => World.cell?_of_block (a := ⟨lb, j, none⟩) (hq.trans hl.symm)
  refine ⟨(hce _).trans h.c0, (hce _).trans h.c4, h.bg.move hk.size ((hk.at h.nk h.bg.obj (by decide) (by decide) (by decide)).trans h.bg.obj.symm) (fun b e => ?_) (fun b c t hc ht _ => ?_), h.rg.move (fun j _ _ => hce j) ⟨cur, hq⟩ (fun b e => ?_) (fun a b c _ _ hc => hk.at h.nk hc (by decide) (by decide) (by decide)), hn, h.lb0, h.sr⟩
  · obtain ⟨_, c, hc⟩ := h.bg.blk e
    exact (hk.at h.nk hc (by decide) (by decide) (by decide)).trans hc.symm
  · rcases ht with rfl | rfl
    · exact hk.at h.nk hc (by decide) (by decide) (by decide)
    · exact hk.at h.nk hc (by decide) (by decide) (by decide)
  · obtain ⟨_, c, hc⟩ := h.rg.blkR e
    exact (hk.at h.nk hc (by decide) (by decide) (by decide)).trans hc.symm
end
theorem Rg.rdG {w : World} {base lb o : Nat} {ad : Option Addr} {cap : Nat} {last most : Int} {l : List Gr} {av : List (Option Addr × Nat)} (h : Rg w base lb o ad cap last most l av) : RdG w ad l := fun k x hk => by
  obtain ⟨g, a, rfl, _, c0, c1, c2, c3, hd, _⟩ := h.get hk
  obtain ⟨_, cur, hc⟩ := h.blkR (b := g) rfl
  refine ⟨g, 0, a.1, a.2, rfl, lt_at hc, ?_, ?_, ?_, ?_, hd.rd⟩
  · rw [Nat.zero_add]; exact c0
  · rw [Nat.zero_add]; exact c1
  · rw [Nat.zero_add]; exact c2
  · rw [Nat.zero_add]; exact c3
theorem field_bo0 (W : World) (B o : Nat) : (Instr.fieldAt 47 (.pointer (some ⟨B, o, none⟩)) 0).run Tryz.prog W = .ok (.pointer (some ⟨B, o, none⟩)) W := by go_simp
theorem field_bo1 (W : World) (B o : Nat) : (Instr.fieldAt 47 (.pointer (some ⟨B, o, none⟩)) 1).run Tryz.prog W = .ok (.pointer (some ⟨B, o + 1, none⟩)) W := by go_simp
theorem field_bo2 (W : World) (B o : Nat) : (Instr.fieldAt 47 (.pointer (some ⟨B, o, none⟩)) 2).run Tryz.prog W = .ok (.pointer (some ⟨B, o + 4, none⟩)) W := by go_simp
theorem load_bop {W : World} {B o p : Nat} (h : W.cell? ⟨B, o, none⟩ = some (.pointer (some ⟨p, 0, none⟩))) : (Instr.loadAt 42 (.pointer (some ⟨B, o, none⟩))).run Tryz.prog W = .ok (.pointer (some ⟨p, 0, none⟩)) W := by go_simp
theorem load_bob {W : World} {B o p : Nat} (h : W.cell? ⟨B, o, none⟩ = some (.pointer (some ⟨p, 0, none⟩))) : (Instr.loadAt 27 (.pointer (some ⟨B, o, none⟩))).run Tryz.prog W = .ok (.pointer (some ⟨p, 0, none⟩)) W := by go_simp
set_option maxHeartbeats 4000000 in
set_option maxRecDepth 100000 in
theorem looks_any {σ : Nat → Prop} {base lb off bb p : Nat} {ad : Option Addr} {cap : Nat} {room last : Int} {ps : List Nat} {l : List Gr} {adR : Option Addr} {capR : Nat} {av : List (Option Addr × Nat)} {w : World} (h : Sd σ base lb off bb p ad cap room last ps l adR capR av w) : Calls Tryz.prog 8 #[.pointer (some ⟨lb, off, none⟩)] w fun e w' => e = .returned (.bool true) ∧ NK σ base bb w' ∧ Kw base bb w w' := by
  have hmx : Tryz.prog.follows .mixedOrders = true := by kernel_rfl
  have hle := h.bg.le
  have hmo := h.bg.most
  have hbz := h.bz
  have hfew : ∀ x ∈ l, x.2.2.2.length ≤ 1024 := fun x hx => (h.rg.few x hx).1
  have hal : Calls Tryz.prog 27 #[.pointer (some ⟨p, 0, none⟩)] w fun e w' => ∃ a c avA, e = .returned (.tuple #[.slice a l.length c, .bool true]) ∧ Gs w' w.heap.size w.heap.size (.slice a l.length c) l avA ∧ Below w.heap.size w w' := (all_any h.bg).mono (by
    rintro e w' ⟨v, avA, rfl, hg, hb⟩
    obtain ⟨a, c, rfl⟩ := row_form hg.row
    exact ⟨a, c, avA, rfl, hg, hb⟩)
  have c0 := h.c0
  have HSD : Hid (Sd σ base lb off bb p ad cap room last ps l adR capR av w) := h
  clear h
  go_enter Tryz.func8, Tryz.ntmps8
  go_wp2_with (first | (go_at_call 27; (with_reducible refine hal.mono ?_); rintro e u1 ⟨aA, cA, avA, rfl, hg1, hb1⟩; have hs1 := HSD.out.carry hb1; have c4 := hs1.c4; have k1 := gram_any hg1 (NKp.carry (NKp.imp HSD.out.nk (fun b hb q => ⟨q, hb⟩) (fun b hb q => ⟨q, hb⟩)) hb1) hbz hb1.size (fun b q => HSD.out.bg.sg b q) (by omega) hfew) | (go_at_call 28; (with_reducible refine k1.mono ?_); rintro e u2 ⟨⟨v2, rfl⟩, hn2, hk2⟩; have hs2 := hs1.kw hk2 hn2; have hg2 := hg1.kw hk2 hs1.nk; have hkp2 : Kw base bb w u2 := (Kw.ofBelow hb1 hbz).trans hk2))
  rename_i Q0 K0 hK
  have hr2 := hg2.rd
  clear hal k1 hs1 hg1 c0 c4 hg2
  refine wp_region_any hmx ?_
  refine wpAny_pure (fun i__ => ([(.bool true), (.bool true), (.slice aA l.length cA), (.pointer (some ⟨lb, off, none⟩)), (.pointer (some ⟨lb, off, none⟩)), (.pointer (some ⟨lb, off + 1, none⟩)), (.pointer (some ⟨lb, off + 1, none⟩)), (.slice adR l.length capR), (.bool true), (.bool true), (.bool true), (.pointer (some ⟨lb, off, none⟩)), (.pointer (some ⟨lb, off, none⟩)), (.pointer (some ⟨lb, off, none⟩)), (.pointer (some ⟨p, 0, none⟩)), (.int .i64 (l.length : Int)), (.pointer (some ⟨lb, off, none⟩)), (.pointer (some ⟨lb, off, none⟩)), (.pointer (some ⟨lb, off + 1, none⟩)), (.pointer (some ⟨lb, off + 1, none⟩)), (.slice adR l.length capR), (.int .i64 (l.length : Int)), (.bool true), (.bool true), (.bool true), (.pointer (some ⟨lb, off, none⟩)), (.pointer (some ⟨lb, off, none⟩)), (.pointer (some ⟨lb, off, none⟩)), (.pointer (some ⟨p, 0, none⟩)), (.int .i64 (room - (l.length : Int))), (.pointer (some ⟨lb, off, none⟩)), (.pointer (some ⟨lb, off, none⟩)), (.pointer (some ⟨lb, off + 1, none⟩)), (.pointer (some ⟨lb, off + 1 + 2, none⟩)), (.int .i64 room), (.pointer (some ⟨lb, off, none⟩)), (.pointer (some ⟨lb, off, none⟩)), (.pointer (some ⟨lb, off + 1, none⟩)), (.pointer (some ⟨lb, off + 1, none⟩)), (.slice adR l.length capR), (.int .i64 (l.length : Int)), (.int .i64 (room - (l.length : Int))), (.bool true), (.bool true), (.bool true)] : List Value).getD i__ undef) (fun V => Sd σ base lb off bb p ad cap room last ps l adR capR av V ∧ RdG V aA l ∧ Kw base bb w V) (by kernel_rfl) ⟨hs2.carry (Below.refl _ _).drew, hr2.carry (Below.refl _ _).drew, hkp2.trans (Kw.ofBelow (Below.refl _ _).drew hs2.bz)⟩ ?_ ?_
  · refine (stepsFrom_cons ?_ (stepsFrom_cons ?_ (stepsFrom_cons ?_ (stepsFrom_cons ?_ (stepsFrom_cons ?_ (stepsFrom_cons ?_ (stepsFrom_cons ?_ (stepsFrom_cons ?_ (stepsFrom_cons ?_ (stepsFrom_cons ?_ (stepsFrom_cons ?_ (stepsFrom_cons ?_ (stepsFrom_cons ?_ (stepsFrom_cons ?_ (stepsFrom_cons ?_ (stepsFrom_cons ?_ (stepsFrom_cons ?_ (stepsFrom_cons ?_ (stepsFrom_cons ?_ (stepsFrom_cons ?_ (stepsFrom_cons ?_ (stepsFrom_cons ?_ (stepsFrom_cons ?_ (stepsFrom_cons ?_ (stepsFrom_cons ?_ (stepsFrom_cons ?_ (stepsFrom_cons ?_ (stepsFrom_cons ?_ (stepsFrom_cons ?_ (stepsFrom_cons ?_ (stepsFrom_cons ?_ (stepsFrom_cons ?_ (stepsFrom_cons ?_ (stepsFrom_cons ?_ (stepsFrom_cons ?_ (stepsFrom_cons ?_ (stepsFrom_cons ?_ (stepsFrom_cons ?_ (stepsFrom_cons ?_ (stepsFrom_cons ?_ (stepsFrom_cons ?_ (stepsFrom_cons ?_ (stepsFrom_cons ?_ (stepsFrom_cons ?_ (stepsFrom_cons ?_ trivial)))))))))))))))))))))))))))))))))))))))))))))
    · exact step_move rfl trivial _ rfl (by kernel_rfl)
    · exact step_move rfl trivial _ rfl (by kernel_rfl)
    · exact step_move rfl (by exact ⟨_, rfl, by kernel_rfl⟩) _ rfl (by kernel_rfl)
    · exact step_move rfl (by exact ⟨_, rfl, by kernel_rfl⟩) _ rfl (by kernel_rfl)
    · exact step_nilCheck rfl (by exact ⟨_, rfl, by kernel_rfl⟩) _ _ _ rfl rfl rfl
    · exact step_fieldAddr rfl (by exact ⟨_, rfl, by kernel_rfl⟩) _ _ _ _ rfl rfl (fun w hw => field_bo1 w _ _)
    · exact step_fieldAddr rfl (by exact ⟨_, rfl, by kernel_rfl⟩) _ _ _ _ rfl rfl (fun w hw => field_r w _ _ 0 (by decide))
    · exact step_load rfl (by exact ⟨_, rfl, by kernel_rfl⟩) _ _ _ rfl rfl (fun w hw => load_gs hw.1.rg.cL)
    · exact step_call rfl (by exact ⟨_, rfl, by kernel_rfl⟩) 29 _ _ [(.slice aA l.length cA), (.slice adR l.length capR)] rfl (by kernel_rfl) (enters_of Tryz.func29 (by kernel_rfl) rfl) (fun w hw => (sameBag_yes aA adR cA capR l w hw.2.1 hw.1.rg.rdG (by omega) hfew).mono (by rintro e w' ⟨rfl, hb⟩; exact ⟨rfl, hw.1.carry hb, hw.2.1.carry hb, hw.2.2.trans (Kw.ofBelow hb hw.1.bz)⟩))
    · exact step_pick rfl trivial _ _ _ true rfl (by kernel_rfl) (by kernel_rfl)
    · exact step_move rfl trivial _ rfl (by kernel_rfl)
    · exact step_move rfl (by exact ⟨_, rfl, by kernel_rfl⟩) _ rfl (by kernel_rfl)
    · exact step_nilCheck rfl (by exact ⟨_, rfl, by kernel_rfl⟩) _ _ _ rfl rfl rfl
    · exact step_fieldAddr rfl (by exact ⟨_, rfl, by kernel_rfl⟩) _ _ _ _ rfl rfl (fun w hw => field_bo0 w _ _)
    · exact step_load rfl (by exact ⟨_, rfl, by kernel_rfl⟩) _ _ _ rfl rfl (fun w hw => load_bop hw.1.c0)
    · exact step_call rfl (by exact ⟨_, rfl, by kernel_rfl⟩) 30 _ _ [(.pointer (some ⟨p, 0, none⟩))] rfl (by kernel_rfl) (enters_of Tryz.func30 (by kernel_rfl) rfl) (fun w hw => (blen_any hw.1.bg).mono (by rintro e w' ⟨rfl, rfl⟩; exact ⟨rfl, hw⟩))
    · exact step_move rfl (by exact ⟨_, rfl, by kernel_rfl⟩) _ rfl (by kernel_rfl)
    · exact step_nilCheck rfl (by exact ⟨_, rfl, by kernel_rfl⟩) _ _ _ rfl rfl rfl
    · exact step_fieldAddr rfl (by exact ⟨_, rfl, by kernel_rfl⟩) _ _ _ _ rfl rfl (fun w hw => field_bo1 w _ _)
    · exact step_fieldAddr rfl (by exact ⟨_, rfl, by kernel_rfl⟩) _ _ _ _ rfl rfl (fun w hw => field_r w _ _ 0 (by decide))
    · exact step_load rfl (by exact ⟨_, rfl, by kernel_rfl⟩) _ _ _ rfl rfl (fun w hw => load_gs hw.1.rg.cL)
    · exact step_bi rfl (by exact ⟨_, rfl, by kernel_rfl⟩) _ _ _ [(.slice adR l.length capR)] rfl (by kernel_rfl) (fun cs w hw => bi_lenG _ cs _ _ capR w)
    · exact step_binOp rfl (by exact ⟨_, rfl, by kernel_rfl⟩) _ _ _ _ _ _ _ rfl rfl rfl (fun w hw => (bin_eql .i64 _ _).trans (by simp))
    · exact step_pick rfl trivial _ _ _ true rfl (by kernel_rfl) (by kernel_rfl)
    · exact step_move rfl trivial _ rfl (by kernel_rfl)
    · exact step_move rfl (by exact ⟨_, rfl, by kernel_rfl⟩) _ rfl (by kernel_rfl)
    · exact step_nilCheck rfl (by exact ⟨_, rfl, by kernel_rfl⟩) _ _ _ rfl rfl rfl
    · exact step_fieldAddr rfl (by exact ⟨_, rfl, by kernel_rfl⟩) _ _ _ _ rfl rfl (fun w hw => field_bo0 w _ _)
    · exact step_load rfl (by exact ⟨_, rfl, by kernel_rfl⟩) _ _ _ rfl rfl (fun w hw => load_bop hw.1.c0)
    · exact step_call rfl (by exact ⟨_, rfl, by kernel_rfl⟩) 12 _ _ [(.pointer (some ⟨p, 0, none⟩))] rfl (by kernel_rfl) (enters_of Tryz.func12 (by kernel_rfl) rfl) (fun w hw => (broom_any hw.1.bg).mono (by rintro e w' ⟨rfl, hb⟩; exact ⟨rfl, hw.1.carry hb, hw.2.1.carry hb, hw.2.2.trans (Kw.ofBelow hb hw.1.bz)⟩))
    · exact step_move rfl (by exact ⟨_, rfl, by kernel_rfl⟩) _ rfl (by kernel_rfl)
    · exact step_nilCheck rfl (by exact ⟨_, rfl, by kernel_rfl⟩) _ _ _ rfl rfl rfl
    · exact step_fieldAddr rfl (by exact ⟨_, rfl, by kernel_rfl⟩) _ _ _ _ rfl rfl (fun w hw => field_bo1 w _ _)
    · exact step_fieldAddr rfl (by exact ⟨_, rfl, by kernel_rfl⟩) _ _ _ _ rfl rfl (fun w hw => field_r w _ _ 2 (by decide))
    · exact step_load rfl (by exact ⟨_, rfl, by kernel_rfl⟩) _ _ _ rfl rfl (fun w hw => load_i hw.1.rg.cM)
    · exact step_move rfl (by exact ⟨_, rfl, by kernel_rfl⟩) _ rfl (by kernel_rfl)
    · exact step_nilCheck rfl (by exact ⟨_, rfl, by kernel_rfl⟩) _ _ _ rfl rfl rfl
    · exact step_fieldAddr rfl (by exact ⟨_, rfl, by kernel_rfl⟩) _ _ _ _ rfl rfl (fun w hw => field_bo1 w _ _)
    · exact step_fieldAddr rfl (by exact ⟨_, rfl, by kernel_rfl⟩) _ _ _ _ rfl rfl (fun w hw => field_r w _ _ 0 (by decide))
    · exact step_load rfl (by exact ⟨_, rfl, by kernel_rfl⟩) _ _ _ rfl rfl (fun w hw => load_gs hw.1.rg.cL)
    · exact step_bi rfl (by exact ⟨_, rfl, by kernel_rfl⟩) _ _ _ [(.slice adR l.length capR)] rfl (by kernel_rfl) (fun cs w hw => bi_lenG _ cs _ _ capR w)
    · exact step_binOp rfl (by exact ⟨_, rfl, by kernel_rfl⟩) _ _ _ _ _ _ _ rfl rfl rfl (fun w hw => bin_sub64 _ _ _ (by rw [IntKind.wrap_i64]; omega))
    · exact step_binOp rfl (by exact ⟨_, rfl, by kernel_rfl⟩) _ _ _ _ _ _ _ rfl rfl rfl (fun w hw => (bin_eql .i64 _ _).trans (by simp))
    · exact step_pick rfl trivial _ _ _ true rfl (by kernel_rfl) (by kernel_rfl)
    · exact step_assign rfl trivial _ rfl (by kernel_rfl) (fun _ h => h)
  intro W hW
  first | refine hK _ _ ?_ | refine (‹∀ (a : Act) (w : World), Code.wp Tryz.prog _ _ a w → _›) _ _ ?_ | skip
  simp only [finL, List.getD_cons_zero, List.getD_cons_succ, Nat.zero_add, Nat.reduceAdd, List.setIfInBounds_toArray, List.set_cons_zero, List.set_cons_succ]
  obtain ⟨hsW, _, hkW⟩ := hW
  have HA : Hid (NK σ base bb W) := hsW.nk
  clear hsW hs2 hr2 hkp2
  go_wp2
  go_ret
  exact ⟨rfl, HA.out, hkW⟩
end Go.Proofs.YtjfbnikbmadgkaaGreat
