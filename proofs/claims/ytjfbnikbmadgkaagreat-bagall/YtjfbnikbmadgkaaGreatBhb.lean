/- The document's Move: what it answers. -/
import Derived.Test.YtjfbnikbmadgkaaGreatBha
namespace Go.Proofs.YtjfbnikbmadgkaaGreat
open Go.RowKit Go.Shelf

/-- A list into which one is put, as far as it has been told. -/
def insd {α : Type} (l : List α) (x : α) (j k : Nat) : List α := if k ≤ j then l.take k else l.take j ++ x :: (l.take k).drop j
section
variable {α β : Type} {l : List α} {m : List β} {x y : α} {j k : Nat}
theorem insd_0 (l : List α) (x : α) (j : Nat) : insd l x j 0 = [] := by simp [insd]
theorem insd_lo (h : k < j) (hy : l[k]? = some y) : insd l x j (k + 1) = insd l x j k ++ [y] := by
  unfold insd
  rw [if_pos (by omega), if_pos (by omega), List.take_add_one, hy]
  rfl
theorem insd_j (l : List α) (x : α) (j : Nat) : insd l x j j = l.take j := by simp [insd]
theorem insd_mid (hy : l[j]? = some y) : insd l x j (j + 1) = l.take j ++ [x] ++ [y] := by
  have hj := (List.getElem?_eq_some_iff.1 hy).1
  unfold insd
  rw [if_neg (by omega), List.take_add_one, hy, List.drop_append_of_le_length (by simp; omega), List.drop_eq_nil_of_le (by simp; omega)]
  simp
theorem insd_last (hj : l.length ≤ j) : insd l x j (j + 1) = l.take j ++ [x] := by
  unfold insd
  rw [if_neg (by omega), List.drop_eq_nil_of_le (by simp; omega)]
theorem insd_hi (h : j < k) (hy : l[k]? = some y) : insd l x j (k + 1) = insd l x j k ++ [y] := by
  have hk := (List.getElem?_eq_some_iff.1 hy).1
  unfold insd
  rw [if_neg (by omega), if_neg (by omega), List.take_add_one, hy, List.drop_append_of_le_length (by simp; omega)]
  simp
theorem insd_end (h : j < k) (hk : l.length ≤ k) : insd l x j k = l.take j ++ x :: l.drop j := by
  unfold insd
  rw [if_neg (by omega), List.take_of_length_le hk]
theorem insd_get {P : α → β → Prop} {z : β} (hlen : m.length = l.length) (hp : ∀ (k : Nat) (x : α) (y : β), l[k]? = some x → m[k]? = some y → P x y) (hx : P x z) : ∀ (k : Nat) (u : α) (v : β), (l.take j ++ x :: l.drop j)[k]? = some u → (m.take j ++ z :: m.drop j)[k]? = some v → P u v := by
  intro k u v h1 h2
  have e1 : (l.take j).length = (m.take j).length := by simp [hlen]
  by_cases hk : k < (l.take j).length
  · rw [List.getElem?_append_left hk] at h1
    rw [List.getElem?_append_left (by omega)] at h2
    rw [List.getElem?_take] at h1 h2
    split at h1
    · rename_i hkj
      rw [if_pos hkj] at h2
      exact hp k u v h1 h2
    · cases h1
  · rw [List.getElem?_append_right (by omega)] at h1 h2
    rw [← e1] at h2
    cases hq : k - (l.take j).length with
    | zero =>
      rw [hq] at h1 h2
      cases h1
      cases h2
      exact hx
    | succ n =>
      rw [hq] at h1 h2
      rw [List.getElem?_cons_succ, List.getElem?_drop] at h1 h2
      exact hp _ u v h1 h2
theorem insd_len {z : β} (hlen : m.length = l.length) (j k : Nat) : (insd m z j k).length = (insd l x j k).length := by
  unfold insd
  split <;> simp [hlen]
theorem insd_mem {u : α} (h : u ∈ l.take j ++ x :: l.drop j) : u = x ∨ u ∈ l := by
  rcases List.mem_append.1 h with q | q
  · exact .inr (List.mem_of_mem_take q)
  · rcases List.mem_cons.1 q with q | q
    · exact .inl q
    · exact .inr (List.mem_of_mem_drop q)
end
/-- One more is told. -/
theorem IT.app {w2 W u : World} {l : List Gr} {av : List (Option Addr × Nat)} {v v' : Value} {x : Gr} {a : Option Addr × Nat} {o : Obj} (h : IT w2 l av v W) (hg : (W.alloc o).grownBy u v.ownBlock) (hr : u.ownsRow w2.heap.size 62 4 v' (l.length + 1) (flG l av ++ gv x a.1 a.2)) : IT w2 (l ++ [x]) (av ++ [a]) v' u := by
  have hz := h.bl.size
  refine ⟨?_, by simp [h.len], (h.bl.alloc hz _).grown hg (by simp; omega) (fun q e => own_block h.row q e)⟩
  rw [flG_app _ _ _ _ h.len, List.length_append]
  exact hr
section
variable {w : World} {base lb o : Nat} {ad : Option Addr} {cap : Nat} {last most : Int} {l : List Gr} {av : List (Option Addr × Nat)}
set_option maxHeartbeats 4000000 in
set_option maxRecDepth 100000 in
theorem rMove_no (h : Rg w base lb o ad cap last most l av) (i to : Int) (hn : ¬ ((0 ≤ i ∧ i < (l.length : Int)) ∧ (0 ≤ to ∧ to < (l.length : Int)))) : Calls Tryz.prog 24 #[.pointer (some ⟨lb, o, none⟩), .int .i64 i, .int .i64 to] w fun e w' => e = .returned (.int .i64 91) ∧ w' = w := by
  have h1 := has_any h i
  have h2 := has_any h to
  by_cases hi : 0 ≤ i ∧ i < (l.length : Int)
  · have ht : ¬ (0 ≤ to ∧ to < (l.length : Int)) := fun q => hn ⟨hi, q⟩
    rw [decide_eq_true hi] at h1
    rw [decide_eq_false ht] at h2
    clear hn hi ht
    go_enter Tryz.func24, Tryz.ntmps24
    go_wp2_with (first | (go_at_call 84; (with_reducible refine h1.mono ?_); rintro e u1 ⟨rfl, rfl⟩) | (go_at_call 84; (with_reducible refine h2.mono ?_); rintro e u2 ⟨rfl, rfl⟩))
    go_ret
    exact ⟨rfl, rfl⟩
  · rw [decide_eq_false hi] at h1
    clear hn hi h2
    go_enter Tryz.func24, Tryz.ntmps24
    go_wp2_with (go_at_call 84; (with_reducible refine h1.mono ?_); rintro e u1 ⟨rfl, rfl⟩)
    go_ret
    exact ⟨rfl, rfl⟩
theorem Rg.at4 {g k : Nat} {x : Gr} {a : Option Addr × Nat} (h : Rg w base lb o (some ⟨g, 0, none⟩) cap last most l av) (hk : l[k]? = some x) (ha : av[k]? = some a) : w.cell? ⟨g, k * 4, none⟩ = some (.int .i64 x.1) ∧ w.cell? ⟨g, k * 4 + 1, none⟩ = some (.int .i64 x.2.1) ∧ w.cell? ⟨g, k * 4 + 2, none⟩ = some (.int .i64 x.2.2.1) ∧ w.cell? ⟨g, k * 4 + 3, none⟩ = some (.slice a.1 x.2.2.2.length a.2) := by
  obtain ⟨g', a', e, ha', c0, c1, c2, c3, _⟩ := h.get hk
  cases e
  rw [ha] at ha'
  cases ha'
  exact ⟨c0, c1, c2, c3⟩
theorem insd_le {α : Type} (l : List α) (x : α) (j k : Nat) : (insd l x j k).length ≤ l.length + 1 := by
  unfold insd
  split
  · rw [List.length_take]; omega
  · rw [List.length_append, List.length_cons, List.length_drop, List.length_take, List.length_take]
    omega
set_option maxHeartbeats 8000000 in
set_option maxRecDepth 100000 in
theorem rMove_ok (h : Rg w base lb o ad cap last most l av) (hbs : base ≤ w.heap.size) (k0 j : Nat) (x : Gr) (hx : l[k0]? = some x) (hj : j < l.length) : Calls Tryz.prog 24 #[.pointer (some ⟨lb, o, none⟩), .int .i64 (k0 : Int), .int .i64 (j : Int)] w fun e w' => e = .returned (.int .i64 0) ∧ ∃ ad' cap' av', Rg w' base lb o ad' cap' last most ((l.take k0 ++ l.drop (k0 + 1)).take j ++ x :: (l.take k0 ++ l.drop (k0 + 1)).drop j) av' ∧ Tr lb o (ob ad) (ob ad') w w' := by
  obtain ⟨ic, hic, hz0, hz1, hz2⟩ := info_parts infoG
  have hle := h.le
  have hmo := h.most1
  have hkl : k0 < l.length := (List.getElem?_eq_some_iff.1 hx).1
  have h1 := has_any h (k0 : Int)
  have h2 := has_any h (j : Int)
  rw [decide_eq_true (by omega)] at h1 h2
  have htk := rTake_any h (k0 : Int) hbs
  rw [sTk_ok hx] at htk
  have hfx := h.few x (List.mem_of_getElem? hx)
  have hlt := h.lt
  obtain ⟨l1, hl1⟩ : ∃ l1, l.take k0 ++ l.drop (k0 + 1) = l1 := ⟨_, rfl⟩
  have hn1 : l1.length + 1 = l.length := by rw [← hl1]; simp; omega
  rw [hl1] at htk ⊢
  obtain ⟨xi, xf, xt, xd⟩ := x
  unfold gV at htk
  dsimp only at htk hfx
  clear hx hl1 h
  go_enter Tryz.func24, Tryz.ntmps24
  go_wp2_with (first | (go_at_call 84; (with_reducible refine h1.mono ?_); rintro e v1 ⟨rfl, hv1⟩; obtain rfl := hv1.symm) | (go_at_call 84; (with_reducible refine h2.mono ?_); rintro e v2 ⟨rfl, hv2⟩; obtain rfl := hv2.symm) | (go_at_call 20; (with_reducible refine htk.mono ?_); rintro e u1 ⟨a, c, rfl, hda, hnc, ad1, cap1, av1, hR1, hT1⟩; obtain ⟨V1, hV1⟩ : ∃ V1, u1.alloc (.cells #[.int .i64 0, .int .i64 0, .int .i64 0, .slice none 0 0] 62) = V1 := ⟨_, rfl⟩; have hbV1 : Below u1.heap.size u1 V1 := (by rw [← hV1]; exact al1' _ _); have hG1 : GB V1 u1.heap.size 0 0 0 (.slice none 0 0) := (by rw [← hV1]; exact new_at rfl); have f0 := hG1.c0; have f1 := hG1.c1; have f2 := hG1.c2; have f3 := hG1.c3; have z0 := hG1.thaw 0; have z1 := hG1.thaw 1; have z2 := hG1.thaw 2; have z3 := hG1.thaw 3; obtain ⟨w2, hw2⟩ : ∃ w2, W4 V1 u1.heap.size xi xf xt (.slice a xd.length c) = w2 := ⟨_, rfl⟩; have HG2 : Hid (GB w2 u1.heap.size xi xf xt (.slice a xd.length c)) := (by rw [← hw2]; exact hG1.set xi xf xt _); have HB2 : Hid (Below u1.heap.size u1 w2) := (by rw [← hw2]; exact below4 hbV1 (Nat.le_refl _) _ _ _ _); have HR1 : Hid (Rg u1 base lb o ad1 cap1 last most l1 av1) := hR1; have HT1 : Hid (Tr lb o (ob ad) (ob ad1) w u1) := hT1; have HDA : Hid (RdY u1 a xd ∧ (a = none → c = 0)) := ⟨hda, hnc⟩; clear hda hnc hR1 hT1))
  go_loopw [9, 10] (fun v i wz => ∃ (k : Nat), i = .int .i64 (k : Int) ∧ k ≤ l1.length + 1 ∧ IT w2 (insd l1 (xi, xf, xt, xd) j k) (insd av1 (a, c) j k) v wz) (fun _ i _ => l1.length + 1 - vnat i)
  case atStart =>
    refine ⟨0, rfl, Nat.zero_le _, ?_⟩
    rw [insd_0, insd_0]
    exact ⟨World.ownsRow_nil _ _ _ _, rfl, by rw [← hw2]; exact Below.refl _ _⟩
  case round =>
    obtain ⟨k, rfl, hk, hI⟩ := hrel
    have hR2 := HR1.out.carry HB2.out
    have hRw := hR2.carry hI.bl
    have hlen1 := hRw.len
    have cLw := hRw.cL
    have hGw := HG2.out.carry hI.bl
    have s0 := hGw.c0
    have s1 := hGw.c1
    have s2 := hGw.c2
    have s3 := hGw.c3
    obtain ⟨aI, cI, rfl⟩ := row_form hI.row
    have hul := insd_le l1 (xi, xf, xt, xd) j k
    have hrow := hI.row
    have hbz := hI.bl.size
    have HI : Hid (IT w2 (insd l1 (xi, xf, xt, xd) j k) (insd av1 (a, c) j k) (.slice aI (insd l1 (xi, xf, xt, xd) j k).length cI) wr) := hI
    have HR2 : Hid (Rg w2 base lb o ad1 cap1 last most l1 av1) := hR2
    clear hI hGw hR2
    by_cases hk2 : k ≤ l1.length
    · have hki : (k : Int) ≤ (l1.length : Int) := by omega
      by_cases hk3 : k < l1.length
      · have hki3 : (k : Int) < (l1.length : Int) := by omega
        obtain ⟨⟨yi, yf, yt, yd⟩, hy⟩ : ∃ y, l1[k]? = some y := ⟨_, List.getElem?_eq_getElem hk3⟩
        obtain ⟨gR, b, eg, hb2, d0, d1, d2, d3, _⟩ := hRw.get hy
        subst eg
        dsimp only at d0 d1 d2 d3
        have hix2 := idx_Gz gR l1.length cap1 k hk3
        have HY : Hid (l1[k]? = some (yi, yf, yt, yd)) := hy
        have HBk : Hid (av1[k]? = some b) := hb2
        clear hy hb2 hRw
        by_cases hke : k = j
        · subst hke
          go_wp2_with (first | (at_builtin; refine wpList_append_own_at _ rfl _ _ 43 rfl w2.heap.size 62 ic _ 4 48 Tryz.underlying43 hic hz0 hz1 hz2 rfl (by decide) _ _ (flG (insd l1 (xi, xf, xt, xd) k k ++ [(xi, xf, xt, xd)]) (insd av1 (a, c) k k ++ [(a, c)])) rfl (hrow2.alloc _) ⟨u.heap.size, 0, none⟩ 1 1 [.int .i64 yi, .int .i64 yf, .int .i64 yt, .slice b.1 yd.length b.2] rfl rfl (gram_src (new_at rfl)) (by simp [Value.oneCell']) (by unfold maxLen; omega) (by omega) (by simp; omega) ?_; intro v' uu hown hgu2 _ hob; obtain ⟨a4, c4, rfl⟩ := row_form hown; have hI2 := hI1.app (x := (yi, yf, yt, yd)) (a := b) hgu2 (by rw [List.length_append, List.length_singleton]; exact hown)) | (at_builtin; refine wpList_append_own_at _ rfl _ _ 43 rfl w2.heap.size 62 ic _ 4 48 Tryz.underlying43 hic hz0 hz1 hz2 rfl (by decide) _ _ (flG (insd l1 (xi, xf, xt, xd) k k) (insd av1 (a, c) k k)) rfl (hrow.alloc _) ⟨wr.heap.size, 0, none⟩ 1 1 [.int .i64 xi, .int .i64 xf, .int .i64 xt, .slice a xd.length c] rfl rfl (gram_src (new_at rfl)) (by simp [Value.oneCell']) (by unfold maxLen; omega) (by omega) (by simp; omega) ?_; intro v' u hown hgu _ hob; obtain ⟨a3, c3, rfl⟩ := row_form hown; have hI1 := HI.out.app (x := (xi, xf, xt, xd)) (a := (a, c)) hgu hown; have hrow2 := hI1.row; have hbz2 := hI1.bl.size; rw [List.length_append, List.length_singleton] at hrow2; have hRu := HR2.out.carry hI1.bl; have cLu := hRu.cL; obtain ⟨e0, e1, e2, e3⟩ := hRu.at4 HY.out HBk.out; dsimp only at e0 e1 e2 e3))
          go_roundw
          case rel =>
            refine ⟨k + 1, by simp, by omega, ?_⟩
            rw [insd_mid HY.out, insd_mid HBk.out, ← insd_j l1 (xi, xf, xt, xd) k, ← insd_j av1 (a, c) k]
            exact hI2
          case measure => simp [vnat]; omega
        · have hke' : ¬ (k : Int) = (j : Int) := by omega
          go_wp2_with (at_builtin; refine wpList_append_own_at _ rfl _ _ 43 rfl w2.heap.size 62 ic _ 4 48 Tryz.underlying43 hic hz0 hz1 hz2 rfl (by decide) _ _ (flG (insd l1 (xi, xf, xt, xd) j k) (insd av1 (a, c) j k)) rfl (hrow.alloc _) ⟨wr.heap.size, 0, none⟩ 1 1 [.int .i64 yi, .int .i64 yf, .int .i64 yt, .slice b.1 yd.length b.2] rfl rfl (gram_src (new_at rfl)) (by simp [Value.oneCell']) (by unfold maxLen; omega) (by omega) (by simp; omega) ?_; intro v' u hown hgu _ hob; obtain ⟨a3, c3, rfl⟩ := row_form hown; have hI1 := HI.out.app (x := (yi, yf, yt, yd)) (a := b) hgu hown)
          go_roundw
          case rel =>
            refine ⟨k + 1, by simp, by omega, ?_⟩
            rcases Nat.lt_or_gt_of_ne hke with q | q
            · rw [insd_lo q HY.out, insd_lo q HBk.out]
              exact hI1
            · rw [insd_hi q HY.out, insd_hi q HBk.out]
              exact hI1
          case measure => simp [vnat]; omega
      · have hki3 : ¬ (k : Int) < (l1.length : Int) := by omega
        by_cases hke : k = j
        · subst hke
          go_wp2_with (at_builtin; refine wpList_append_own_at _ rfl _ _ 43 rfl w2.heap.size 62 ic _ 4 48 Tryz.underlying43 hic hz0 hz1 hz2 rfl (by decide) _ _ (flG (insd l1 (xi, xf, xt, xd) k k) (insd av1 (a, c) k k)) rfl (hrow.alloc _) ⟨wr.heap.size, 0, none⟩ 1 1 [.int .i64 xi, .int .i64 xf, .int .i64 xt, .slice a xd.length c] rfl rfl (gram_src (new_at rfl)) (by simp [Value.oneCell']) (by unfold maxLen; omega) (by omega) (by simp; omega) ?_; intro v' u hown hgu _ hob; obtain ⟨a3, c3, rfl⟩ := row_form hown; have hI1 := HI.out.app (x := (xi, xf, xt, xd)) (a := (a, c)) hgu hown; have hRu := HR2.out.carry hI1.bl; have cLu := hRu.cL)
          go_roundw
          case rel =>
            refine ⟨k + 1, by simp, by omega, ?_⟩
            rw [insd_last (by omega), insd_last (by omega), ← insd_j l1 (xi, xf, xt, xd) k, ← insd_j av1 (a, c) k]
            exact hI1
          case measure => simp [vnat]; omega
        · have hke' : ¬ (k : Int) = (j : Int) := by omega
          go_wp2
          go_roundw
          case rel =>
            refine ⟨k + 1, by simp, by omega, ?_⟩
            have e1 := insd_end (l := l1) (x := (xi, xf, xt, xd)) (j := j) (k := k) (by omega) (by omega)
            have e2 := insd_end (l := av1) (x := (a, c)) (j := j) (k := k) (by omega) (by omega)
            rw [insd_end (l := l1) (k := k + 1) (by omega) (by omega), insd_end (l := av1) (k := k + 1) (by omega) (by omega), ← e1, ← e2]
            exact HI.out
          case measure => simp [vnat]; omega
    · have hkk : k = l1.length + 1 := by omega
      have hki : ¬ (k : Int) ≤ (l1.length : Int) := by omega
      have hzo := hRw.thaw o
      obtain ⟨u5, hu5⟩ : ∃ u5, wr.setCell ⟨lb, o, none⟩ (.slice aI (insd l1 (xi, xf, xt, xd) j k).length cI) = u5 := ⟨_, rfl⟩
      have HU5 : Hid (wr.setCell ⟨lb, o, none⟩ (.slice aI (insd l1 (xi, xf, xt, xd) j k).length cI) = u5) := hu5
      have he1 := insd_end (l := l1) (x := (xi, xf, xt, xd)) (j := j) (k := k) (by omega) (by omega)
      have he2 := insd_end (l := av1) (x := (a, c)) (j := j) (k := k) (by omega) (by omega)
      have hbw : Below u1.heap.size u1 wr := bel2 HB2.out HI.out.bl
      have hbase : base ≤ u1.heap.size := Nat.le_trans hbs HT1.out.size
      have hrl := HI.out.row
      have hll := HI.out.len
      rw [he1, he2] at hrl hll
      obtain ⟨hR5, hT5⟩ := HR1.out.turnB hbw (row_base hrl HB2.out.size) hbase hll (insd_get (P := fun x a => RdY u1 a.1 x.2.2.2 ∧ (a.1 = none → a.2 = 0)) HR1.out.len (fun j x a h1 h2 => HR1.out.dat j x a h1 h2) HDA.out) (fun z hz => by
        rcases insd_mem hz with q | q
        · rw [q]
          exact hfx
        · exact HR1.out.few z q) (by rw [← he1]; omega)
      rw [← he1, HU5.out] at hR5 hT5
      have HR5 : Hid (_) := hR5
      have HT5 : Hid (_) := HT1.out.trans hT5
      rw [he1] at HR5
      clear hR5 hT5 hRw he1 he2 hrl hll hkk hn1
      go_wp2
      go_ret
      first | exact ⟨rfl, _, _, _, HR5.out, HT5.out⟩ | exact ⟨rfl, _, ⟨_, _, HR5.out⟩, HT5.out⟩ | exact ⟨_, ⟨_, _, HR5.out⟩, HT5.out⟩
end
end Go.Proofs.YtjfbnikbmadgkaaGreat
