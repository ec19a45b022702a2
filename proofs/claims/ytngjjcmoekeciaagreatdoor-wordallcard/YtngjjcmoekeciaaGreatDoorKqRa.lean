/- Lists of the kind Rows that are kept. -/
import Derived.Test.YtngjjcmoekeciaaGreatDoorKqj
import Derived.Test.YtngjjcmoekeciaaGreatDoorBin
namespace Go.Proofs.YtngjjcmoekeciaaGreatDoor.Kel
open Go.RowKit Go.Shelf Go.Lib

abbrev tRows := Option Addr × Nat × Nat
def cRows (a : tRows) : List Value := [.slice a.1 a.2.1 a.2.2]
def eRows (a : tRows) : Value := .slice a.1 a.2.1 a.2.2
theorem hsRows : ∀ a, (cRows a).length = 1 := fun _ => rfl
theorem h1Rows : ∀ a, ∀ v ∈ cRows a, v.oneCell' = true := by
  intro a v h
  simp only [cRows, List.mem_cons, List.not_mem_nil, or_false] at h
  rcases h with rfl <;> rfl
theorem kiRows : KI 39 27 36 38 1 24 := by
  obtain ⟨i, h1, h2, h3, h4⟩ := info_parts (t := 39) (z := some (.slice none 0 0)) (s := 1) (b := 24) (by kernel_rfl)
  exact ⟨⟨i, _, h1, h2, h3, h4, rfl⟩, Tryz.underlying27, info_parts (by kernel_rfl), Tryz.underlying36, by decide, by decide, by decide, by decide, by decide⟩
theorem fldRows (W : World) (B : Nat) : (Instr.fieldAt 38 (.pointer (some ⟨B, 0, none⟩)) 22).run Tryz.prog W = .ok (.pointer (some ⟨B, 22, none⟩)) W := by go_simp
theorem flcRows (W : World) (B : Nat) : (Instr.fieldAt 38 (.pointer (some ⟨B, 0, none⟩)) 23).run Tryz.prog W = .ok (.pointer (some ⟨B, 23, none⟩)) W := by go_simp
theorem lddRows {V : World} {B j n c : Nat} {a : Option Addr} (h : V.cell? ⟨B, j, none⟩ = some (.slice a n c)) : (Instr.loadAt 36 (.pointer (some ⟨B, j, none⟩))).run Tryz.prog V = .ok (.slice a n c) V := by go_simp
theorem ldsRows {V : World} {B j n c : Nat} {a : Option Addr} (h : V.cell? ⟨B, j, none⟩ = some (.slice a n c)) : (Instr.loadAt 27 (.pointer (some ⟨B, j, none⟩))).run Tryz.prog V = .ok (.slice a n c) V := by go_simp
theorem ixxRows (g n cap k : Nat) (h : k < n) (w : World) : (Instr.indexAt 36 (.slice (some ⟨g, 0, none⟩) n cap) (.int .i64 (k : Int))).run Tryz.prog w = .ok (.pointer (some ⟨g, k, none⟩)) w := by
  have h1 : (k : Int) < (n : Int) := by omega
  go_simp
theorem ixRows (gb off n cap k : Nat) (h : k < n) (W : World) : (Instr.indexAt 27 (.slice (some ⟨gb, off, none⟩) n cap) (.int .i64 (k : Int))).run Tryz.prog W = .ok (.pointer (some ⟨gb, off + k, none⟩)) W := by
  have h1 : (k : Int) < (n : Int) := by omega
  have h2 : 0 ≤ (k : Int) := by omega
  go_simp
theorem lnRows (t : TypeId) (bs : Array Bool) (a : Option Addr) (n c : Nat) (w : World) : (builtin .len #[27] t bs #[.slice a n c]).run Tryz.prog w = .ok (.value (.int .i64 (n : Int))) w := by
  show ((do pure (.value (← Builtin.len_ #[27] t #[.slice a n c]))) : Sem Next).run Tryz.prog w = _
  go_simp
theorem unnRows (a : Bool) (w : World) : (Op.unary .not (.bool a)).run Tryz.prog w = .ok (.bool (!a)) w := by
  cases a <;> simp [go_sem]
theorem cesRows {W : World} {b off : Nat} {l : List tRows} (h : FA W b off (fc cRows l)) {k : Nat} {a : tRows} (hk : l[k]? = some a) : W.cell? ⟨b, off + k, none⟩ = some (.slice a.1 a.2.1 a.2.2) := by
  have key : ∀ j v, (cRows a)[j]? = some v → W.cell? ⟨b, off + k * 1 + j, none⟩ = some v := fun j v hj => by
    rw [Nat.add_assoc]
    exact h _ _ ((fc_get hsRows l k a hk j (List.getElem?_eq_some_iff.1 hj).1).trans hj)
  have := key 0 _ rfl
  simpa using this
theorem ldRows {W : World} {b off : Nat} {l : List tRows} (h : FA W b off (fc cRows l)) {k : Nat} {a : tRows} (hk : l[k]? = some a) : (Instr.loadAt 39 (.pointer (some ⟨b, off + k, none⟩))).run Tryz.prog W = .ok (eRows a) W := by
  have c0 := cesRows h hk
  obtain ⟨o, ho⟩ : ∃ o, off + k = o := ⟨_, rfl⟩
  rw [ho] at c0 ⊢
  unfold eRows
  go_simp
theorem putRows {W : World} {base g n cap : Nat} {l : List tRows} (h : W.ownsRow base 39 1 (.slice (some ⟨g, 0, none⟩) n cap) n (fc cRows l)) (hn : n = l.length) {j : Nat} (hj : j < n) (a : tRows) :
    ∃ V, (Instr.storeAt 39 (.pointer (some ⟨g, 0 + j, none⟩)) (eRows a)).run Tryz.prog W = .ok () V ∧ V.ownsRow base 39 1 (.slice (some ⟨g, 0, none⟩) n cap) n (fc cRows (l.set j a)) ∧ W.grownBy V (some g) := by
  have := row_put hsRows h1Rows h hn hj a (eRows a) rfl (by kernel_rfl)
  rw [Nat.mul_one] at this
  exact this
theorem newRows (W : World) (cs : Array Value) (t : TypeId) : ∀ j u, cs.toList[j]? = some u → (W.alloc (.cells cs t)).cell? ((⟨W.heap.size, 0, none⟩ : Addr).add j) = some u := by
  intro j u h
  have hg : (W.alloc (.cells cs t)).heap[W.heap.size]? = some (.cells cs t) := new_at rfl
  rw [add_pl, Nat.zero_add, cell_at hg j, ← h]
  simp
theorem bslRows (W : World) (a : Option Addr) (n c : Nat) : (Instr.buildSlice 36 1 #[(0, .slice a n c)]).run Tryz.prog W = .ok (.slice (some ⟨W.heap.size, 0, none⟩) 1 1) (W.alloc (.cells #[.slice a n c] 27)) := by go_simp
theorem stcRows {W : World} {bb n c : Nat} {a : Option Addr} {C : Array Value} {v0 : Value} (h : W.heap[bb]? = some (.cells C 38 (0, 0))) (hi : C[23]? = some v0) : (Instr.storeAt 36 (.pointer (some ⟨bb, 23, none⟩)) (.slice a n c)).run Tryz.prog W = .ok () (W.setCell ⟨bb, 23, none⟩ (.slice a n c)) := by
  have c0 : W.cell? ⟨bb, 23, none⟩ = some v0 := (cell_at h 23).trans hi
  have z0 := thaw_at h 23
  go_simp
set_option maxHeartbeats 4000000 in
set_option maxRecDepth 100000 in
theorem keepRows_any {w : World} {base bb : Nat} {u v z : Value} {C : Array Value} {x y : List Value} {L : List (List tRows)} {l : List tRows} (hB : Bb 38 w bb C) (hu : C[22]? = some u) (hv : C[23]? = some v) (h : Kk cRows 1 39 27 base w u v x y L) (hbz : base ≤ w.heap.size) (hz : w.ownsRow base 39 1 z l.length (fc cRows l)) (hl : l.length ≤ 1000000) (hn : ∀ (i g : Nat) (z' : Value), x[i]? = some z' → z.ownBlock = some g → z'.ownBlock ≠ some g) : Calls Tryz.prog 23 #[.pointer (some ⟨bb, 0, none⟩), z] w fun e w' => e = .returned (.tuple #[]) ∧ Kept2 cRows 1 39 27 38 22 base bb C u v z x y L l w w' := by
  have hmx : Tryz.prog.follows .mixedOrders = true := by kernel_rfl
  obtain ⟨ic, hic, hz0, hz1, hz2⟩ := kiRows.iS
  have h6 := h.kl.row
  have h7 := h.cr
  have hap := h.uv
  have hsz : 23 < C.size := (Array.getElem?_eq_some_iff.1 hv).1
  obtain ⟨k, hk⟩ : ∃ k, k = L.length := ⟨_, rfl⟩
  rw [← hk] at h6 h7
  have HK : Hid (k = L.length) := hk
  have hk400 : k ≤ 400 := by rw [hk]; exact h.kl.k
  clear hk
  obtain ⟨a6, c6, rfl, _⟩ := rowForm h6
  obtain ⟨a7, c7, rfl, _⟩ := rowForm h7
  obtain ⟨n, hnn⟩ : ∃ n, n = l.length := ⟨_, rfl⟩
  have HN : Hid (n = l.length) := hnn
  have hzz := hz
  rw [← hnn] at hzz
  clear hnn
  obtain ⟨ad, c, rfl, hrd0, hc⟩ := own_rd hzz
  have HU : Hid (C[22]? = some (.slice a6 k c6)) := hu
  have HV : Hid (C[23]? = some (.slice a7 k c7)) := hv
  have m6 : w.cell? ⟨bb, 22, none⟩ = some (.slice a6 k c6) := (cell_at hB 22).trans hu
  have HKK : Hid (Kk cRows 1 39 27 base w (.slice a6 k c6) (.slice a7 k c7) x y L) := h
  have HNO : Hid (∀ (i g : Nat) (z' : Value), x[i]? = some z' → (Value.slice ad n c).ownBlock = some g → z'.ownBlock ≠ some g) := hn
  have HZ : Hid (w.ownsRow base 39 1 (.slice ad n c) n (fc cRows l)) := hzz
  clear hu hv hn h hz hzz
  by_cases h4 : k < 400
  · have hki : (k : Int) < 400 := by omega
    have z6 := thaw_at hB 22
    have HKB : Hid (Bb 38 w bb C) := hB
    have hlb := lt_at hB
    obtain ⟨XX, hXX⟩ : ∃ XX, x ++ [Value.slice ad n c] = XX := ⟨_, rfl⟩
    have HXX : Hid (x ++ [Value.slice ad n c] = XX) := hXX
    have HRD : Hid (RdF w ad (fc cRows l)) := hrd0
    clear hXX hB hrd0
    go_enter Tryz.func23, Tryz.ntmps23
    go_wp2_with (at_builtin; refine wpList_append_own_at _ rfl _ _ 36 rfl base 27 ic _ 1 24 Tryz.underlying36 hic hz0 hz1 hz2 rfl (by decide) _ _ _ rfl (h6.alloc _) ⟨w.heap.size, 0, none⟩ 1 1 [_] rfl rfl (newRows _ #[_] _) (by simp [Value.oneCell']) (by unfold maxLen; omega) (by omega) (by simp; omega) ?_; intro v' w2 hown' hgrow _ hob; obtain ⟨g', cap', rfl⟩ := rowSucc hown'; have hkb2 : Bb 38 w2 bb C := (hgrow.block _ (by simp; omega) (fun e => bb_row HKB.out h6 (by decide) e.symm)).trans (old_at HKB.out); have m62 : w2.cell? ⟨bb, 22, none⟩ = some (.slice a6 k c6) := (cell_at hkb2 22).trans HU.out; have z62 := thaw_at hkb2 22)
    have hkb3 := heap_setCell_same _ _ 22 _ _ (.slice (some ⟨g', 0, none⟩) (k + 1) cap') hkb2
    rw [put2_v HV.out] at hkb3
    have hal1 := al1 w (.cells #[.slice ad n c] 27)
    have h72 : w2.ownsRow base 27 1 (.slice a7 k c7) k y := row_off (h7.alloc _) hgrow (fun b hb hb2 => hap b hb hb2)
    have hkp : Fk bb (.slice a6 k c6) (.slice a7 k c7) w (w2.setCell ⟨bb, 22, none⟩ (.slice (some ⟨g', 0, none⟩) (k + 1) cap')) := (((Fk.refl _ _ _ _).below hal1).grown hgrow (fun q e => .inr (.inl e))).set
    have habide : ∀ (q : Nat) (cur : Array Value), w.heap[q]? = some (.cells cur 39 (0, 0)) → (w2.setCell ⟨bb, 22, none⟩ (.slice (some ⟨g', 0, none⟩) (k + 1) cap')).heap[q]? = w.heap[q]? := fun q cur hq => hkp.block q (lt_at hq) (fun e => by
      subst e
      have := HKB.out.symm.trans hq
      simp only [Option.some.injEq, Obj.cells.injEq] at this
      exact absurd this.2.1 (by decide)) (row_type h6 hq (by decide)) (row_type h7 hq (by decide))
    have hrd : RdF (w2.setCell ⟨bb, 22, none⟩ (.slice (some ⟨g', 0, none⟩) (k + 1) cap')) ad (fc cRows l) := by
      intro hne
      obtain ⟨b, off, e, hb, hat⟩ := HRD.out hne
      have hbk : (Value.slice ad n c).ownBlock = some b := by
        rcases own_form HZ.out with ⟨q, _⟩ | ⟨g, cap, q, _⟩
        · simp only [Value.slice.injEq] at q
          rw [q.1] at e
          cases e
        · simp only [Value.slice.injEq] at q
          rw [q.1] at e ⊢
          simp only [Option.some.injEq, Addr.mk.injEq] at e
          rw [← e.1]
          rfl
      obtain ⟨_, cur, ho⟩ := rowBlk HZ.out b hbk
      exact ⟨b, off, e, Nat.lt_of_lt_of_le hb hkp.size, hat.of (habide b cur ho)⟩
    have hlb7 : ∀ q, (Value.slice a7 k c7).ownBlock = some q → q < w.heap.size := fun q hq => (row_lt h7 q hq).2
    have hownX := hown'
    rw [HXX.out] at hownX
    have hj0 : JZ2 39 27 38 1 22 base bb k n ad (fc cRows l) XX y (.slice (some ⟨g', 0, none⟩) (k + 1) cap') (.slice a7 k c7) (.slice a6 k c6) C w (undef, 0, undef) false false false false (w2.setCell ⟨bb, 22, none⟩ (.slice (some ⟨g', 0, none⟩) (k + 1) cap')) := ⟨⟨hkb3, row_set hownX (bb_row hkb2 hownX (by decide)) _, row_set h72 (bb_row hkb2 h72 (by decide)) _, fun q hq hq2 => (by
      rcases hob with e | e
      · exact hap q (e.symm.trans hq) hq2
      · have h8 := hlb7 q hq2
        rw [e] at hq
        simp at hq
        omega), (fun e => by cases e), (fun e => by cases e), (fun e => by cases e), fun _ => hrd, hkp, by have := hkp.size; omega⟩, (fun e => by cases e)⟩
    have HOB : Hid (∀ q, (Value.slice (some ⟨g', 0, none⟩) (k + 1) cap').ownBlock = some q → (Value.slice a6 k c6).ownBlock = some q ∨ w.heap.size ≤ q) := fun q hq => (by
      rcases hob with e | e
      · exact .inl (e.symm.trans hq)
      · rw [e] at hq
        simp at hq
        exact .inr (by omega))
    have HL : Hid (l.length ≤ 1000000) := hl
    have HC : Hid (ad = none → c = 0) := hc
    clear hkb2 hkb3 h72 hrd hown' hgrow hob m6 z6 m62 z62 h6 h7 hap hkp habide hl hc
    refine wp_region_any hmx ?_
    refine wpAny_tabG (G := (Value × Nat × Value)) (fun g i__ => ([(.pointer (some ⟨bb, 0, none⟩)), (.pointer (some ⟨bb, 0, none⟩)), (.pointer (some ⟨bb, 0, none⟩)), (.pointer (some ⟨bb, 23, none⟩)), (.slice a7 k c7), (.slice ad n c), g.1, (.slice (some ⟨g.2.1, 0, none⟩) 1 1), g.2.2, (.pointer (some ⟨bb, 0, none⟩)), (.pointer (some ⟨bb, 23, none⟩)), undef] : List Value).getD i__ undef) (fun g d W => JZ2 39 27 38 1 22 base bb k n ad (fc cRows l) XX y (.slice (some ⟨g', 0, none⟩) (k + 1) cap') (.slice a7 k c7) (.slice a6 k c6) C w g (d 6) (d 7) (d 8) (d 11) W) (by kernel_rfl) ((undef, 0, undef)) (show JZ2 39 27 38 1 22 base bb k n ad (fc cRows l) XX y (.slice (some ⟨g', 0, none⟩) (k + 1) cap') (.slice a7 k c7) (.slice a6 k c6) C w (undef, 0, undef) false false false false _ from ⟨⟨hj0.kb, hj0.r6, hj0.r7, hj0.ap, hj0.cp, hj0.bl, hj0.fm, hj0.rd, hj0.kp.below (Below.refl _ _).drew, hj0.bz⟩, fun e => (by cases e)⟩) ?step1 ?fin1
    case step1 =>
      intro i o ho
      have hi : i < 12 := getElem?_lt ho
      match i, hi, ho with
      | 0, _, ho =>
        cases ho
        refine stepG_of (fun g d hdep => ?_)
        exact step_move rfl trivial _ rfl (by kernel_rfl)
      | 1, _, ho =>
        cases ho
        refine stepG_of (fun g d hdep => ?_)
        exact step_move rfl trivial _ rfl (by kernel_rfl)
      | 2, _, ho =>
        cases ho
        refine stepG_of (fun g d hdep => ?_)
        exact step_nilCheck rfl trivial _ _ _ rfl rfl rfl
      | 3, _, ho =>
        cases ho
        refine stepG_of (fun g d hdep => ?_)
        exact step_fieldAddr rfl trivial _ _ _ _ rfl rfl (fun w hw => flcRows w _)
      | 4, _, ho =>
        cases ho
        exact stepG_ofC (fun g d hun hdep hcl => step_load rfl trivial _ _ _ rfl rfl (fun w hw => lddRows (by have h11 : d 11 = false := (by cases h : d 11 with | false => rfl | true => exact absurd (hcl 11 _ rfl h 4 (by kernel_rfl)) (by rw [hun]; simp)); have := hw.kb; rw [h11] at this; exact (cell_at this 23).trans (put2_1 hsz _ _))))
      | 5, _, ho =>
        cases ho
        refine stepG_of (fun g d hdep => ?_)
        exact step_move rfl trivial _ rfl (by kernel_rfl)
      | 6, _, ho =>
        cases ho
        exact stepG_append rfl rfl _ _ _ (fun _ => .slice none 0 0) (fun _ => .slice ad n c) rfl (fun g => by kernel_rfl) (fun g => by kernel_rfl) (fun g d W hJ hun hdep hcl => by have h7 : d 7 = false := (by cases h : d 7 with | false => rfl | true => exact absurd (hcl 7 _ rfl h 6 (by kernel_rfl)) (by rw [hun]; simp)); have hJ' := hJ; rw [hun, h7] at hJ'; have hcp := cp_any kiRows hsRows h1Rows (cc := c) 27 (hJ'.rd rfl) HL.out HC.out; rw [← HN.out] at hcp; obtain ⟨v', W', hr, hv, hro, hb⟩ := hcp; refine ⟨(v', g.2), W', hr, (fun j hj => match j, hj with | 6, hj => (by rw [hj] at hun; cases hun)  | 0, _ => rfl | 1, _ => rfl | 2, _ => rfl | 3, _ => rfl | 4, _ => rfl | 5, _ => rfl | 7, _ => rfl | 8, _ => rfl | 9, _ => rfl | 10, _ => rfl | 11, _ => rfl | _ + 12, _ => rfl), ?_⟩; have h8 : d 8 = false := (by cases h : d 8 with | false => rfl | true => exact absurd (hcl 8 _ rfl h 6 (by kernel_rfl)) (by rw [hun]; simp)); show JZ2 39 27 38 1 22 base bb k n ad (fc cRows l) XX y _ _ _ C w _ true (d 7) (d 8) (d 11) W'; rw [h7, h8]; rw [h8] at hJ'; exact hJ'.copy hb hv hro)
      | 7, _, ho =>
        cases ho
        exact stepG_buildG rfl rfl _ _ (fun g => g.1) rfl (fun g => by kernel_rfl) (fun g d W hJ hun hdep hcl => by have h6 : d 6 = true := hdep 6 (by kernel_rfl); have hJ' := hJ; rw [h6] at hJ'; obtain ⟨⟨a', c', e1⟩, _⟩ := hJ'.cp rfl; refine ⟨(g.1, W.heap.size, g.2.2), W.alloc (.cells #[g.1] 27), (by rw [e1]; exact bslRows _ _ _ _), (fun j hj => match j, hj with | 7, hj => (by rw [hj] at hun; cases hun)  | 0, _ => rfl | 1, _ => rfl | 2, _ => rfl | 3, _ => rfl | 4, _ => rfl | 5, _ => rfl | 6, _ => rfl | 8, _ => rfl | 9, _ => rfl | 10, _ => rfl | 11, _ => rfl | _ + 12, _ => rfl), ?_⟩; show JZ2 39 27 38 1 22 base bb k n ad (fc cRows l) XX y _ _ _ C w _ (d 6) true (d 8) (d 11) _; rw [h6]; exact hJ'.build)
      | 8, _, ho =>
        cases ho
        exact stepG_append rfl rfl _ _ _ (fun _ => .slice a7 k c7) (fun g => .slice (some ⟨g.2.1, 0, none⟩) 1 1) rfl (fun g => by kernel_rfl) (fun g => by kernel_rfl) (fun g d W hJ hun hdep hcl => by have h7 : d 7 = true := hdep 7 (by kernel_rfl); have h6 : d 6 = true := hdep 6 (by kernel_rfl); have h11 : d 11 = false := (by cases h : d 11 with | false => rfl | true => exact absurd (hcl 11 _ rfl h 8 (by kernel_rfl)) (by rw [hun]; simp)); have hJ' := hJ; rw [h6, h7, hun, h11] at hJ'; obtain ⟨x, V, hr, hA⟩ := hJ'.app kiRows h4 36; refine ⟨(g.1, g.2.1, x), V, hr, (fun j hj => match j, hj with | 8, hj => (by rw [hj] at hun; cases hun)  | 0, _ => rfl | 1, _ => rfl | 2, _ => rfl | 3, _ => rfl | 4, _ => rfl | 5, _ => rfl | 6, _ => rfl | 7, _ => rfl | 9, _ => rfl | 10, _ => rfl | 11, _ => rfl | _ + 12, _ => rfl), ?_⟩; show JZ2 39 27 38 1 22 base bb k n ad (fc cRows l) XX y _ _ _ C w _ (d 6) (d 7) true (d 11) V; rw [h6, h7, h11]; exact hA)
      | 9, _, ho =>
        cases ho
        refine stepG_of (fun g d hdep => ?_)
        exact step_nilCheck rfl trivial _ _ _ rfl rfl rfl
      | 10, _, ho =>
        cases ho
        refine stepG_of (fun g d hdep => ?_)
        exact step_fieldAddr rfl trivial _ _ _ _ rfl rfl (fun w hw => flcRows w _)
      | 11, _, ho =>
        cases ho
        refine stepG_of (fun g d hdep => ?_)
        exact step_store rfl trivial rfl _ _ _ _ _ rfl rfl rfl (fun W hw => by have h6 : d 6 = true := hdep 6 (by kernel_rfl); have h7 : d 7 = true := hdep 7 (by kernel_rfl); have h8 : d 8 = true := hdep 8 (by kernel_rfl); have hw' := hw; rw [h6, h7, h8] at hw'; obtain ⟨V, hr, hA⟩ := hw'.store kiRows (fun a n c => stcRows hw'.kb (put2_1 hsz _ _)); refine ⟨V, hr, ?_⟩; show JZ2 39 27 38 1 22 base bb k n ad (fc cRows l) XX y _ _ _ C w _ (d 6) (d 7) (d 8) true V; rw [h6, h7, h8]; exact hA)
    intro g d W hall hW
    first | refine hK _ _ ?_ | refine (‹∀ (a : Act) (w : World), Code.wp Tryz.prog _ _ a w → _›) _ _ ?_ | skip
    simp only [finL, List.getD_cons_zero, List.getD_cons_succ, Nat.zero_add, Nat.reduceAdd, List.setIfInBounds_toArray, List.set_cons_zero, List.set_cons_succ]
    rw [hall 6 (by decide), hall 7 (by decide), hall 8 (by decide), hall 11 (by decide)] at hW
    have HJ : Hid (JZ2 39 27 38 1 22 base bb k n ad (fc cRows l) XX y (.slice (some ⟨g', 0, none⟩) (k + 1) cap') (.slice a7 k c7) (.slice a6 k c6) C w g true true true true W) := hW
    clear hW hall hj0 hownX
    go_wp2
    go_end0
    have hW := HJ.out
    have h6 := HKK.out.kl.row
    have h7 := HKK.out.cr
    rw [← HK.out] at h6 h7
    have hab : ∀ (q : Nat) (cur : Array Value), w.heap[q]? = some (.cells cur 39 (0, 0)) → W.heap[q]? = w.heap[q]? := fun q cur hq => hW.kp.block q (lt_at hq) (fun e => by
      subst e
      have := HKB.out.symm.trans hq
      simp only [Option.some.injEq, Obj.cells.injEq] at this
      exact absurd this.2.1 (by decide)) (row_type h6 hq (by decide)) (row_type h7 hq (by decide))
    have e6 := hW.r6
    have e7 := hW.r7
    simp only [if_true] at e7
    rw [← HXX.out, HK.out] at e6
    rw [HK.out] at e7
    have hnz := HZ.out
    have hcz := (hW.cp rfl).2
    rw [HN.out] at hnz hcz e6
    refine ⟨rfl, _, g.2.2, x ++ [.slice ad l.length c], y ++ [g.1], L ++ [l], hW.kb, HKK.out.app (V := W) hab (row_at hnz (fun q hq => ?_)) (row_base hcz hbz) HL.out (by rw [← HK.out]; exact h4) (by rw [← HN.out]; exact HNO.out) (by rw [HK.out]; exact e6) e7 hW.ap, hW.kp, ⟨fun i z' hz' => ?_, HOB.out, hW.fr rfl, fun i z' hz' => ?_⟩, .inr rfl⟩
    · obtain ⟨_, cur, ho⟩ := rowBlk hnz q hq
      exact hab q cur ho
    · rcases get_snoc _ _ _ _ hz' with ⟨_, q2⟩ | ⟨_, q2⟩
      · exact .inr ⟨i, q2⟩
      · exact .inl (by rw [q2, HN.out])
    · rcases get_snoc _ _ _ _ hz' with ⟨_, q2⟩ | ⟨_, q2⟩
      · exact .inl ⟨i, q2⟩
      · exact .inr (fun q hq => by
          rw [q2] at hq
          exact (row_lt (hW.cp rfl).2 q hq).1)
  · have hki : ¬ (k : Int) < 400 := by omega
    have HBB : Hid (Bb 38 w bb C) := hB
    clear h6 h7 hB hrd0 hap
    go_enter Tryz.func23, Tryz.ntmps23
    go_wp2
    go_end0
    refine ⟨rfl, _, _, x, y, L, ?_, HKK.out, Fk.refl _ _ _ _, ⟨fun i z' hz' => .inr ⟨i, hz'⟩, fun q e => .inl e, fun q e => .inl e, fun i z' hz' => .inl ⟨i, hz'⟩⟩, .inl rfl⟩
    have e2 : put2 C 22 (.slice a6 k c6) (.slice a7 k c7) = C := by
      rw [← put2_v HV.out]
      refine Array.ext_getElem? fun j => ?_
      by_cases e : j = 22
      · subst e
        rw [Array.getElem?_setIfInBounds_self_of_lt (by omega), HU.out]
      · rw [Array.getElem?_setIfInBounds_ne (fun h => e h.symm)]
    rw [e2]
    exact HBB.out
end Go.Proofs.YtngjjcmoekeciaaGreatDoor.Kel
