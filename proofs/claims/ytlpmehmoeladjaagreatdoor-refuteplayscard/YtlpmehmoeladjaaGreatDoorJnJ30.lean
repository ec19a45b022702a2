/- RefutePlays: the program's and the document's, beside each other. -/
import Derived.Test.YtlpmehmoeladjaaGreatDoorJnJ29
import Derived.Test.YtlpmehmoeladjaaGreatDoorJnJ25
import Derived.Test.YtlpmehmoeladjaaGreatDoorJnJ1
import Derived.Test.YtlpmehmoeladjaaGreatDoorJnJ27
import Derived.Test.YtlpmehmoeladjaaGreatDoorJnJ13
import Derived.Test.YtlpmehmoeladjaaGreatDoorJnJ12
namespace Go.Proofs.YtlpmehmoeladjaaGreatDoor
open Go.RowKit Go.Shelf Go.Lib

/-- Both: the program's list, disk and boot; the document's. -/
structure Pl (w : World) (P bp g q lb rr cc kb rx N : Nat) (L1 : List N3) (d1 : Dst) (b1 : Bo) (L2 : List N3) (d2 : Dst) (b2 : Bo) (ad : Option Addr) (cap : Nat) (V : World) : Prop where
  bk : Bk V bp g L1
  bt : Bt V q (some ⟨P, 0, none⟩) b1
  dk : Dk V P d1
  rf : RfD V lb 0 w.heap.size rr cc d2
  bb : BB V kb 0 0 lb b2
  rb : RB V rx (.slice ad N cap)
  rl : RdN V ad L2
  ra : ∀ a, ad = some a → a.block ≠ g ∧ ∃ cur, V.heap[a.block]? = some (.cells cur 60 (0, 0))
  bl : Below w.heap.size w V
theorem ty_ne {V : World} {x y : Nat} {cx cy : Array Value} {s t : TypeId} {z1 z2 : Nat × Nat} (hx : V.heap[x]? = some (.cells cx s z1)) (hy : V.heap[y]? = some (.cells cy t z2)) (h : s ≠ t) : x ≠ y := fun e => by
  rw [e, hy] at hx
  simp only [Option.some.injEq, Obj.cells.injEq] at hx
  exact h hx.2.1.symm
section
variable {w V V' : World} {P bp g q lb rr cc kb rx N : Nat} {L1 L2 L1' L2' : List N3} {d1 d2 d1' d2' : Dst} {b1 b2 b1' b2' : Bo} {ad ad' : Option Addr} {cap cap' : Nat}
/-- What is left where other blocks turn alone. -/
theorem Pl.keep (h : Pl w P bp g q lb rr cc kb rx N L1 d1 b1 L2 d2 b2 ad cap V) (σ : Nat → Prop) (hs : V.heap.size ≤ V'.heap.size) (hk : ∀ k, k < V.heap.size → ¬ σ k → V'.heap[k]? = V.heap[k]?) :
    (¬ σ bp → ¬ σ g → Bk V' bp g L1) ∧ (¬ σ q → Bt V' q (some ⟨P, 0, none⟩) b1) ∧ (¬ σ P → Dk V' P d1) ∧ (¬ σ lb → ¬ σ rr → RfD V' lb 0 w.heap.size rr cc d2) ∧ (¬ σ kb → BB V' kb 0 0 lb b2) ∧ (¬ σ rx → RB V' rx (.slice ad N cap)) ∧ ((∀ a, ad = some a → ¬ σ a.block) → RdN V' ad L2 ∧ ∀ a, ad = some a → a.block ≠ g ∧ ∃ cur, V'.heap[a.block]? = some (.cells cur 60 (0, 0))) := by
  refine ⟨fun h1 h2 => ⟨(hk _ h.bk.plt h1).trans h.bk.obj, (hk _ h.bk.glt h2).trans h.bk.row⟩, fun h1 => (hk _ (lt_at h.bt) h1).trans h.bt, fun h1 => ⟨(hk _ h.dk.lt h1).trans h.dk.obj, h.dk.len, h.dk.byt⟩, fun h1 h2 => h.rf.same (hk _ h.rf.lt.1 h1) (hk _ h.rf.lt.2 h2), fun h1 => (hk _ (lt_at h.bb) h1).trans h.bb, fun h1 => (hk _ (lt_at h.rb) h1).trans h.rb, fun h1 => ⟨fun hl => ?_, fun a ha => ?_⟩⟩
  · obtain ⟨b, off, rfl, hb, hat⟩ := h.rl hl
    have e := hk b hb (h1 _ rfl)
    refine ⟨b, off, rfl, Nat.lt_of_lt_of_le hb hs, fun k x hx => ?_⟩
    obtain ⟨k1, k2, k3⟩ := hat k x hx
    exact ⟨(World.cell?_of_block (a := ⟨b, _, none⟩) e).trans k1, (World.cell?_of_block (a := ⟨b, _, none⟩) e).trans k2, (World.cell?_of_block (a := ⟨b, _, none⟩) e).trans k3⟩
  · obtain ⟨h2, cur, h3⟩ := h.ra a ha
    exact ⟨h2, cur, (hk _ (lt_at h3) (h1 a ha)).trans h3⟩
theorem Pl.carry (h : Pl w P bp g q lb rr cc kb rx N L1 d1 b1 L2 d2 b2 ad cap V) (hb : Below V.heap.size V V') : Pl w P bp g q lb rr cc kb rx N L1 d1 b1 L2 d2 b2 ad cap V' := by
  obtain ⟨k1, k2, k3, k4, k5, k6, k7⟩ := h.keep (fun _ => False) hb.size (fun k hk _ => hb.block k hk)
  have n : ¬ False := fun e => e
  obtain ⟨k8, k9⟩ := k7 (fun _ _ => n)
  exact ⟨k1 n n, k2 n, k3 n, k4 n n, k5 n, k6 n, k8, k9, h.bl.trans (hb.mono h.bl.size)⟩
/-- The program's disk turns. -/
theorem Pl.pd (h : Pl w P bp g q lb rr cc kb rx N L1 d1 b1 L2 d2 b2 ad cap V) (hP : w.heap.size ≤ P) (ht : Tp P V V') (hd : Dk V' P d1') : Pl w P bp g q lb rr cc kb rx N L1 d1' b1 L2 d2 b2 ad cap V' := by
  obtain ⟨k1, k2, k3, k4, k5, k6, k7⟩ := h.keep (fun k => k = P) ht.size (fun k hk hn => ht.block k hk hn)
  obtain ⟨c1, lk⟩ := h.rf.lk
  obtain ⟨_, c2, rb⟩ := h.rf.rb
  obtain ⟨k8, k9⟩ := k7 (fun a ha => by obtain ⟨_, c, e⟩ := h.ra a ha; exact ty_ne e h.dk.obj (by decide))
  exact ⟨k1 (ty_ne h.bk.obj h.dk.obj (by decide)) (ty_ne h.bk.row h.dk.obj (by decide)), k2 (ty_ne h.bt h.dk.obj (by decide)), hd, k4 (ty_ne lk h.dk.obj (by decide)) (ty_ne rb h.dk.obj (by decide)), k5 (ty_ne h.bb h.dk.obj (by decide)), k6 (ty_ne h.rb h.dk.obj (by decide)), k8, k9, h.bl.trans (ht.below hP h.bl.size)⟩
/-- The document's disk turns. -/
theorem Pl.rd (h : Pl w P bp g q lb rr cc kb rx N L1 d1 b1 L2 d2 b2 ad cap V) (hl : w.heap.size ≤ lb) (ht : Tf lb 0 rr V V') (hd : RfD V' lb 0 w.heap.size rr cc d2') : Pl w P bp g q lb rr cc kb rx N L1 d1 b1 L2 d2' b2 ad cap V' := by
  obtain ⟨k1, k2, k3, k4, k5, k6, k7⟩ := h.keep (fun k => k = lb ∨ k = rr) ht.size (fun k hk hn => ht.block k hk (fun e => hn (.inl e)) (fun e => hn (.inr e)))
  obtain ⟨c1, lk⟩ := h.rf.lk
  obtain ⟨hr, c2, rb⟩ := h.rf.rb
  have nn : ∀ {k : Nat} {c : Array Value} {t : TypeId} {z : Nat × Nat}, V.heap[k]? = some (.cells c t z) → t ≠ 28 → t ≠ 5 → ¬ (k = lb ∨ k = rr) := fun e t1 t2 h => h.elim (ty_ne e lk t1) (ty_ne e rb t2)
  obtain ⟨k8, k9⟩ := k7 (fun a ha => by obtain ⟨_, c, e⟩ := h.ra a ha; exact nn e (by decide) (by decide))
  exact ⟨k1 (nn h.bk.obj (by decide) (by decide)) (nn h.bk.row (by decide) (by decide)), k2 (nn h.bt (by decide) (by decide)), k3 (nn h.dk.obj (by decide) (by decide)), hd, k5 (nn h.bb (by decide) (by decide)), k6 (nn h.rb (by decide) (by decide)), k8, k9, h.bl.trans (ht.below hl hr h.bl.size)⟩
/-- The program's list turns. -/
theorem Pl.mg (h : Pl w P bp g q lb rr cc kb rx N L1 d1 b1 L2 d2 b2 ad cap V) (hg : w.heap.size ≤ g) (ht : V.grownBy V' (some g)) (hk : Bk V' bp g L1') : Pl w P bp g q lb rr cc kb rx N L1' d1 b1 L2 d2 b2 ad cap V' := by
  obtain ⟨k1, k2, k3, k4, k5, k6, k7⟩ := h.keep (fun k => k = g) ht.size (fun k hk hn => ht.block k hk (by simpa using hn))
  obtain ⟨c1, lk⟩ := h.rf.lk
  obtain ⟨_, c2, rb⟩ := h.rf.rb
  obtain ⟨k8, k9⟩ := k7 (fun a ha => (h.ra a ha).1)
  exact ⟨hk, k2 (ty_ne h.bt h.bk.row (by decide)), k3 (ty_ne h.dk.obj h.bk.row (by decide)), k4 (ty_ne lk h.bk.row (by decide)) (ty_ne rb h.bk.row (by decide)), k5 (ty_ne h.bb h.bk.row (by decide)), k6 (ty_ne h.rb h.bk.row (by decide)), k8, k9, h.bl.trans (grown_low ht hg h.bl.size)⟩
/-- The document's book is put. -/
theorem Pl.put (h : Pl w P bp g q lb rr cc kb rx N L1 d1 b1 L2 d2 b2 ad cap V) (hx : w.heap.size ≤ rx) (hl : RdN V ad' L2') (ha : ∀ a, ad' = some a → a.block ≠ g ∧ ∃ cur, V.heap[a.block]? = some (.cells cur 60 (0, 0))) : Pl w P bp g q lb rr cc kb rx N L1 d1 b1 L2' d2 b2 ad' cap' (V.setCell ⟨rx, 0, none⟩ (.slice ad' N cap')) := by
  have ht := Tp.set rx 0 V (.slice ad' N cap')
  obtain ⟨k1, k2, k3, k4, k5, k6, k7⟩ := h.keep (fun k => k = rx) ht.size (fun k hk hn => ht.block k hk hn)
  obtain ⟨c1, lk⟩ := h.rf.lk
  obtain ⟨_, c2, rb⟩ := h.rf.rb
  have nx : ∀ a, ad' = some a → a.block ≠ rx := fun a e => by obtain ⟨_, c, e⟩ := ha a e; exact ty_ne e h.rb (by decide)
  refine ⟨k1 (ty_ne h.bk.obj h.rb (by decide)) (ty_ne h.bk.row h.rb (by decide)), k2 (ty_ne h.bt h.rb (by decide)), k3 (ty_ne h.dk.obj h.rb (by decide)), k4 (ty_ne lk h.rb (by decide)) (ty_ne rb h.rb (by decide)), k5 (ty_ne h.bb h.rb (by decide)), h.rb.set _, fun hn => ?_, fun a e => ?_, h.bl.trans (ht.below hx h.bl.size)⟩
  · obtain ⟨b, off, rfl, hb, hat⟩ := hl hn
    exact ⟨b, off, rfl, Nat.lt_of_lt_of_le hb ht.size, hat.aside (nx _ rfl)⟩
  · obtain ⟨h1, cur, h2⟩ := ha a e
    exact ⟨h1, cur, (ht.block _ (lt_at h2) (nx a e)).trans h2⟩
/-- The program defends. -/
theorem Pl.df (h : Pl w P bp g q lb rr cc kb rx N L1 d1 b1 L2 d2 b2 ad cap V) (hP : w.heap.size ≤ P) (hg : w.heap.size ≤ g) (hq : w.heap.size ≤ q) (ht : Td g q P V V') (hk : Bk V' bp g L1') (hd : Dk V' P d1') (hb : Bt V' q (some ⟨P, 0, none⟩) b1') : Pl w P bp g q lb rr cc kb rx N L1' d1' b1' L2 d2 b2 ad cap V' := by
  obtain ⟨k1, k2, k3, k4, k5, k6, k7⟩ := h.keep (fun k => k = g ∨ k = q ∨ k = P) ht.size (fun k hk hn => ht.block k hk (fun e => hn (.inl e)) (fun e => hn (.inr (.inl e))) (fun e => hn (.inr (.inr e))))
  obtain ⟨c1, lk⟩ := h.rf.lk
  obtain ⟨_, c2, rb⟩ := h.rf.rb
  have nn : ∀ {k : Nat} {c : Array Value} {t : TypeId} {z : Nat × Nat}, V.heap[k]? = some (.cells c t z) → t ≠ 60 → t ≠ 85 → t ≠ 79 → ¬ (k = g ∨ k = q ∨ k = P) := fun e t1 t2 t3 hh => hh.elim (ty_ne e h.bk.row t1) (fun hh => hh.elim (ty_ne e h.bt t2) (ty_ne e h.dk.obj t3))
  obtain ⟨k8, k9⟩ := k7 (fun a ha hh => by obtain ⟨h1, c, e⟩ := h.ra a ha; exact hh.elim h1 (fun hh => hh.elim (ty_ne e h.bt (by decide)) (ty_ne e h.dk.obj (by decide))))
  exact ⟨hk, hb, hd, k4 (nn lk (by decide) (by decide) (by decide)) (nn rb (by decide) (by decide) (by decide)), k5 (nn h.bb (by decide) (by decide) (by decide)), k6 (nn h.rb (by decide) (by decide) (by decide)), k8, k9, h.bl.trans (ht.below hg hP hq h.bl.size)⟩
/-- The document defends. -/
theorem Pl.rdf (h : Pl w P bp g q lb rr cc kb rx N L1 d1 b1 L2 d2 b2 ad cap V) (hl : w.heap.size ≤ lb) (hk : w.heap.size ≤ kb) (ht : T3 kb lb rr V V') (hd : RfD V' lb 0 w.heap.size rr cc d2') (hb : BB V' kb 0 0 lb b2') : Pl w P bp g q lb rr cc kb rx N L1 d1 b1 L2 d2' b2' ad cap V' := by
  obtain ⟨k1, k2, k3, k4, k5, k6, k7⟩ := h.keep (fun k => k = kb ∨ k = lb ∨ k = rr) ht.size (fun k hk hn => ht.block k hk (fun e => hn (.inl e)) (fun e => hn (.inr (.inl e))) (fun e => hn (.inr (.inr e))))
  obtain ⟨c1, lk⟩ := h.rf.lk
  obtain ⟨hr, c2, rb⟩ := h.rf.rb
  have nn : ∀ {k : Nat} {c : Array Value} {t : TypeId} {z : Nat × Nat}, V.heap[k]? = some (.cells c t z) → t ≠ 37 → t ≠ 28 → t ≠ 5 → ¬ (k = kb ∨ k = lb ∨ k = rr) := fun e t1 t2 t3 hh => hh.elim (ty_ne e h.bb t1) (fun hh => hh.elim (ty_ne e lk t2) (ty_ne e rb t3))
  obtain ⟨k8, k9⟩ := k7 (fun a ha => by obtain ⟨h1, c, e⟩ := h.ra a ha; exact nn e (by decide) (by decide) (by decide))
  exact ⟨k1 (nn h.bk.obj (by decide) (by decide) (by decide)) (nn h.bk.row (by decide) (by decide) (by decide)), k2 (nn h.bt (by decide) (by decide) (by decide)), k3 (nn h.dk.obj (by decide) (by decide) (by decide)), hd, hb, k6 (nn h.rb (by decide) (by decide) (by decide)), k8, k9, h.bl.trans (ht.below hk hl hr h.bl.size)⟩
/-- The document's list lies beside its boot and its disk. -/
theorem Pl.nb (h : Pl w P bp g q lb rr cc kb rx N L1 d1 b1 L2 d2 b2 ad cap V) : ∀ a, ad = some a → a.block ≠ kb ∧ a.block ≠ lb ∧ a.block ≠ rr := fun a ha => by
  obtain ⟨c1, lk⟩ := h.rf.lk
  obtain ⟨_, c2, rb⟩ := h.rf.rb
  obtain ⟨_, c, e⟩ := h.ra a ha
  exact ⟨ty_ne e h.bb (by decide), ty_ne e lk (by decide), ty_ne e rb (by decide)⟩
end
/-- The numbers. -/
structure KP (N : Nat) (L : List N3) (d : Dst) (b : Bo) (m : Nat) : Prop where
  bo : Bok L
  len : L.length = N
  lv : ∃ n, n ≤ m + 1 ∧ Lv d n b
  w0 : 0 ≤ d.writes
  w1 : d.writes ≤ 2 + 2 * (m : Int)
section
variable {N m : Nat} {L : List N3} {d : Dst} {b : Bo}
theorem KP.back (h : KP N L d b m) : KP N L { d with off := false } b m := by
  obtain ⟨n, hn, hl⟩ := h.lv
  exact ⟨h.bo, h.len, ⟨n, hn, ⟨hl.ss, hl.n1, hl.fz, hl.may, hl.ro, hl.ta⟩⟩, h.w0, h.w1⟩
theorem KP.fuse (h : KP N L d b m) {k : Int} (hk : k ≤ 9223372036854775807) : KP N L (dFuse d k) b m := by
  obtain ⟨n, hn, hl⟩ := h.lv
  refine ⟨h.bo, h.len, ⟨n, hn, ⟨hl.ss, hl.n1, fun e => ?_, hl.may, hl.ro, hl.ta⟩⟩, h.w0, h.w1⟩
  have e1 : 0 ≤ k := of_decide_eq_true e
  have e2 : (dFuse d k).fuse = k := if_pos e1
  rw [e2]
  exact ⟨e1, hk⟩
theorem KP.merge (h : KP N L d b m) (x : List N3) : KP N (mrg L x) d b m := ⟨mrg_bok h.bo x, (mrg_len h.bo x).trans h.len, h.lv, h.w0, h.w1⟩
theorem KP.defend (h : KP N L d b m) (hN : N ≤ 100) (hm : m ≤ 900000) (self : Int) : KP N (dDf L self d b).l (dDf L self d b).d (dDf L self d b).b (m + 1) := by
  obtain ⟨n, hn, hlv⟩ := h.lv
  have w0 := h.w0
  have w1 := h.w1
  unfold dDf
  rcases hdn : dueN L self with _ | x
  · exact ⟨h.bo, h.len, ⟨n, by omega, hlv⟩, w0, by dsimp only; omega⟩
  dsimp only
  obtain ⟨htk, hx1, h0, _, ht1, ht2, hx3⟩ := due_tk h.bo (by rw [h.len]; exact hN) hdn
  obtain ⟨n', hn1, hn2, hlv2, hw1, hw2, hre⟩ := hlv.raised (by omega) ht1 ht2
  rcases hre with ⟨he, _, _⟩ | ⟨he, _, _⟩
  · rw [if_pos he]
    exact ⟨tke_bok h.bo x, (tke_len L x).trans h.len, ⟨n', by omega, hlv2⟩, by dsimp only; omega, by dsimp only; omega⟩
  · rw [if_neg (by rw [he]; decide)]
    exact ⟨h.bo, h.len, ⟨n', by omega, hlv2⟩, by dsimp only; omega, by dsimp only; omega⟩
end
end Go.Proofs.YtlpmehmoeladjaaGreatDoor
namespace Go.Proofs.YtlpmehmoeladjaaGreatDoor
open Go.RowKit Go.Shelf

set_option maxHeartbeats 4000000 in
set_option maxRecDepth 100000 in
theorem same_any (ad ad2 : Option Addr) (cap cap2 : Nat) (l : List (Int × Int × Int)) (w : World) (h : RdN w ad l) (h2 : RdN w ad2 l) (hl : l.length ≤ 6000000000000) : Calls Tryz.prog 18 #[.slice ad l.length cap, .slice ad2 l.length cap2] w fun e w' => e = .returned (.bool true) ∧ Below w.heap.size w w' := by
  have hmx : Tryz.prog.follows .mixedOrders = true := by kernel_rfl
  go_enter Tryz.func18, Tryz.ntmps18
  go_wp2
  go_loopw [5] (fun i wz => ∃ (k : Nat), i = .int .i64 k ∧ k ≤ l.length ∧ Below w.heap.size w wz) (fun i _ => l.length - vnatR i)
  case atStart => exact ⟨0, rfl, Nat.zero_le _, Below.refl _ _⟩
  case round =>
    obtain ⟨k, rfl, hk, hbw⟩ := hrel
    by_cases hkl : k < l.length
    · have hne : l ≠ [] := fun e => by subst e; simp at hkl
      obtain ⟨b, off, e1, hbl, hat⟩ := h.carry hbw hne
      obtain ⟨c, of, e2, hcl, hat2⟩ := h2.carry hbw hne
      subst e1 e2
      have hj : JI w b off l c of l wr := ⟨hbl, hat, hcl, hat2, hbw⟩
      obtain ⟨⟨o, t, q⟩, hx⟩ : ∃ x, l[k]? = some x := ⟨_, List.getElem?_eq_getElem hkl⟩
      have hki : (k : Int) < (l.length : Int) := by omega
      clear hat hat2
      go_wp2
      rename_i Q0 K0 hK
      refine wp_region_any hmx ?_
      refine wpAny_pure (fun i__ => ([(.slice (some ⟨b, off, none⟩) l.length cap), (.int .i64 (k : Int)), (.pointer (some ⟨b, off + k * 3, none⟩)), (nt o t q), (.slice (some ⟨c, of, none⟩) l.length cap2), (.int .i64 (k : Int)), (.pointer (some ⟨c, of + k * 3, none⟩)), (nt o t q), (.bool true), (.bool false)] : List Value).getD i__ undef) (fun W => JI w b off l c of l W) (by kernel_rfl) (hj.carry (Below.refl _ _).drew) ?_ ?_
      · refine (stepsFrom_cons ?_ (stepsFrom_cons ?_ (stepsFrom_cons ?_ (stepsFrom_cons ?_ (stepsFrom_cons ?_ (stepsFrom_cons ?_ (stepsFrom_cons ?_ (stepsFrom_cons ?_ (stepsFrom_cons ?_ (stepsFrom_cons ?_ trivial))))))))))
        · exact step_move rfl trivial _ rfl (by kernel_rfl)
        · exact step_move rfl trivial _ rfl (by kernel_rfl)
        · exact step_indexAddr rfl trivial _ _ _ _ _ rfl rfl rfl (fun w hw => idx_n b off l.length cap k hkl w)
        · exact step_load rfl trivial _ _ _ rfl rfl (fun w hw => load_at hw.at' hx)
        · exact step_move rfl trivial _ rfl (by kernel_rfl)
        · exact step_move rfl trivial _ rfl (by kernel_rfl)
        · exact step_indexAddr rfl trivial _ _ _ _ _ rfl rfl rfl (fun w hw => idx_n c of l.length cap2 k hkl w)
        · exact step_load rfl trivial _ _ _ rfl rfl (fun w hw => load_at hw.at2 hx)
        · exact step_binOp rfl trivial _ _ _ _ _ _ _ rfl rfl rfl (fun w hw => (bin_eqn _ _ _ _ _ _).trans (by simp))
        · exact step_unOp rfl trivial _ _ _ _ rfl rfl (fun w hw => un_not _ w)
      intro W hW
      first | refine hK _ _ ?_ | refine (‹∀ (a : Act) (w : World), Code.wp Tryz.prog _ _ a w → _›) _ _ ?_
      simp only [finL, List.getD_cons_zero, List.getD_cons_succ, Nat.zero_add, Nat.reduceAdd, List.setIfInBounds_toArray, List.set_cons_zero, List.set_cons_succ]
      clear hK
      go_wp2
      go_roundw
      case rel => exact ⟨k + 1, by simp, by omega, hW.below⟩
      case measure => simp [vnatR]; omega
    · have hkk : k = l.length := by omega
      subst hkk
      go_wp2
      go_ret
      exact ⟨rfl, hbw⟩
end Go.Proofs.YtlpmehmoeladjaaGreatDoor
namespace Go.Proofs.YtlpmehmoeladjaaGreatDoor
open Go.RowKit Go.Shelf Go.Lib

/-- All that is played with is new. -/
structure Hi (w : World) (P g q lb kb rx : Nat) : Prop where
  p : w.heap.size ≤ P
  g : w.heap.size ≤ g
  q : w.heap.size ≤ q
  l : w.heap.size ≤ lb
  k : w.heap.size ≤ kb
  x : w.heap.size ≤ rx
  w0 : 0 < w.heap.size
/-- Blocks that no call of a round turns: a step's box, notices' boxes but the book's own list. -/
def Kq (g : Nat) (V V' : World) : Prop := ∀ (k : Nat) (cs : Array Value) (t : TypeId), V.heap[k]? = some (.cells cs t (0, 0)) → (t = 50 ∨ (t = 60 ∧ k ≠ g)) → V'.heap[k]? = some (.cells cs t (0, 0))
theorem Kq.op {g k : Nat} {V V' : World} {cs : Array Value} (h : Kq g V V') (hk : V.heap[k]? = some (.cells cs 50 (0, 0))) : V'.heap[k]? = some (.cells cs 50 (0, 0)) := h k cs _ hk (.inl rfl)
theorem Kq.nb {g k : Nat} {V V' : World} {o t q : Int} (h : Kq g V V') (hk : NB V k o t q) (hn : k ≠ g) : NB V' k o t q := h k _ _ hk (.inr ⟨rfl, hn⟩)
section
variable {w V V' : World} {P bp g q lb rr cc kb rx N m : Nat} {L L' l : List N3} {d d' : Dst} {b b' : Bo} {ad aL : Option Addr} {cap cL : Nat} {a : Addr} {self : Int}
theorem Pl.kq (h : Pl w P bp g q lb rr cc kb rx N L d b L' d' b' ad cap V) (hk : ∀ k, k < V.heap.size → k ≠ g → k ≠ q → k ≠ P → k ≠ lb → k ≠ rr → k ≠ kb → k ≠ rx → V'.heap[k]? = V.heap[k]?) : Kq g V V' := by
  obtain ⟨c1, lk⟩ := h.rf.lk
  obtain ⟨_, c2, rb⟩ := h.rf.rb
  rintro k cs t e (rfl | ⟨rfl, hn⟩)
  · exact (hk k (lt_at e) (ty_ne e h.bk.row (by decide)) (ty_ne e h.bt (by decide)) (ty_ne e h.dk.obj (by decide)) (ty_ne e lk (by decide)) (ty_ne e rb (by decide)) (ty_ne e h.bb (by decide)) (ty_ne e h.rb (by decide))).trans e
  · exact (hk k (lt_at e) hn (ty_ne e h.bt (by decide)) (ty_ne e h.dk.obj (by decide)) (ty_ne e lk (by decide)) (ty_ne e rb (by decide)) (ty_ne e h.bb (by decide)) (ty_ne e h.rb (by decide))).trans e
theorem Pl.restore (hi : Hi w P g q lb kb rx) (h : Pl w P bp g q lb rr cc kb rx N L d b L' d' b' ad cap V) : Calls Tryz.prog 11 #[.pointer (some ⟨P, 0, none⟩)] V fun e w' => e = .returned (.tuple #[]) ∧ Pl w P bp g q lb rr cc kb rx N L { d with off := false } b L' d' b' ad cap w' ∧ Kq g V w' :=
  (restore_any h.dk).mono (by rintro e w' ⟨rfl, h1, h2⟩; exact ⟨rfl, h.pd hi.p h2 h1, h.kq (fun k hk _ _ n _ _ _ _ => h2.block k hk n)⟩)
theorem Pl.on (hi : Hi w P g q lb kb rx) (h : Pl w P bp g q lb rr cc kb rx N L d b L' d' b' ad cap V) : Pl w P bp g q lb rr cc kb rx N L d b L' { d' with off := false } b' ad cap (V.setCell ⟨lb, 1, none⟩ (.bool false)) := by
  have h1 := h.rf.set1 false
  rw [Nat.zero_add] at h1
  exact h.rd hi.l (Tf.set lb 0 rr 1 V _ (by omega) (by omega)) h1
theorem Pl.fuse (hi : Hi w P g q lb kb rx) (h : Pl w P bp g q lb rr cc kb rx N L d b L' d' b' ad cap V) (k : Int) : Calls Tryz.prog 12 #[.pointer (some ⟨P, 0, none⟩), .int .i64 k] V fun e w' => e = .returned (.tuple #[]) ∧ Pl w P bp g q lb rr cc kb rx N L (dFuse d k) b L' d' b' ad cap w' ∧ Kq g V w' :=
  (fuse_any h.dk k).mono (by rintro e w' ⟨rfl, h1, h2⟩; exact ⟨rfl, h.pd hi.p h2 h1, h.kq (fun k hk _ _ n _ _ _ _ => h2.block k hk n)⟩)
theorem Pl.set (hi : Hi w P g q lb kb rx) (h : Pl w P bp g q lb rr cc kb rx N L d b L' d' b' ad cap V) (k : Int) : Calls Tryz.prog 13 #[.pointer (some ⟨lb, 0, none⟩), .int .i64 k] V fun e w' => e = .returned (.tuple #[]) ∧ Pl w P bp g q lb rr cc kb rx N L d b L' (dFuse d' k) b' ad cap w' ∧ Kq g V w' :=
  (rset_any h.rf k).mono (by rintro e w' ⟨rfl, h1, h2⟩; exact ⟨rfl, h.rd hi.l h2 h1, h.kq (fun k hk _ _ _ n m _ _ => h2.block k hk n m)⟩)
theorem Pl.merge (hi : Hi w P g q lb kb rx) (h : Pl w P bp g q lb rr cc kb rx N L d b L' d' b' ad cap V) (hr : RdN w aL l) (hl : l.length ≤ 300) : Calls Tryz.prog 14 #[.pointer (some ⟨bp, 0, none⟩), .slice aL l.length cL] V fun e w' => (∃ (NN : Nat) (EE : Int), e = .returned (.tuple #[.agg #[.int .u32 (wd NN 0 : Nat), .int .u32 (wd NN 1 : Nat), .int .u32 (wd NN 2 : Nat), .int .u32 (wd NN 3 : Nat)], .int .i64 EE])) ∧ Pl w P bp g q lb rr cc kb rx N (mrg L l) d b L' d' b' ad cap w' ∧ Kq g V w' :=
  (merge_some h.bk aL cL l (hr.carry h.bl) (hr.ne hi.g) (by omega)).mono (by rintro e w' ⟨h1, h2, h3⟩; exact ⟨h1, h.mg hi.g h3 h2, h.kq (fun k hk n _ _ _ _ _ _ => h3.block k hk (by simpa using n))⟩)
theorem Pl.rmerge (h : Pl w P bp g q lb rr cc kb rx N L d b L' d' b' ad cap V) (hr : RdN w aL l) (hl : l.length ≤ 300) (hk : L'.length = N) (h0 : 0 < N) (hN : N ≤ 100) (hc : N ≤ cap) : Calls Tryz.prog 15 #[.agg #[.slice ad N cap], .slice aL l.length cL] V fun e w' => ∃ ad' cap', ∃ (S : Nat) (E : Int), e = .returned (.tuple #[.agg #[.slice ad' N cap'], .agg #[.int .u32 (wd S 0 : Nat), .int .u32 (wd S 1 : Nat), .int .u32 (wd S 2 : Nat), .int .u32 (wd S 3 : Nat)], .int .i64 E]) ∧ RdN w' ad' (mrg L' l) ∧ N ≤ cap' ∧ (∀ a, ad' = some a → a.block ≠ g ∧ ∃ cur, w'.heap[a.block]? = some (.cells cur 60 (0, 0))) ∧ Pl w P bp g q lb rr cc kb rx N L d b L' d' b' ad cap w' ∧ Kq g V w' :=
  (rmerge_some ad N cap L' h.rl hk h0 hN hc aL cL l (hr.carry h.bl) (by omega)).mono (by
    rintro e w' ⟨ad', cap', S, E, rfl, h1, h2, h3, h4⟩
    refine ⟨ad', cap', S, E, rfl, h1, h2, ?_, h.carry h4, h.kq (fun k hk _ _ _ _ _ _ _ => h4.block k hk)⟩
    rcases h3 with rfl | h3
    · exact (h.carry h4).ra
    · intro a ha
      obtain ⟨h5, h6⟩ := h3 a ha
      exact ⟨by have := h.bk.glt; omega, h6⟩)
theorem Pl.defend (hi : Hi w P g q lb kb rx) (h : Pl w P bp g q lb rr cc kb rx N L d b L' d' b' ad cap V) (hs : Sn w a) (hk : KP N L d b m) (hN : N ≤ 100) (hm : m ≤ 900000) : Calls Tryz.prog 16 #[.pointer (some ⟨bp, 0, none⟩), .int .i64 self, .pointer (some ⟨q, 0, none⟩)] V fun e w' => e = .returned (dDf L self d b).v ∧ Pl w P bp g q lb rr cc kb rx N (dDf L self d b).l (dDf L self d b).d (dDf L self d b).b L' d' b' ad cap w' ∧ Kq g V w' := by
  obtain ⟨n, hn, hlv⟩ := hk.lv
  have e1 := hk.w0
  have e2 := hk.w1
  have w0 := hi.w0
  have p := hi.p
  have g0 := hi.g
  have q0 := hi.q
  exact (defend_any h.bk hk.bo (by rw [hk.len]; exact hN) h.bt h.dk hlv.fz e1 (by omega) (hs.carry h.bl) (by omega) (by omega) (by omega) self).mono (by
    rintro e w' ⟨rfl, k1, k2, k3, k4⟩
    exact ⟨rfl, h.df hi.p hi.g hi.q k4 k1 k2 k3, h.kq (fun k hk n1 n2 n3 _ _ _ _ => k4.block k hk n1 n2 n3)⟩)
theorem Pl.rdefend (hi : Hi w P g q lb kb rx) (h : Pl w P bp g q lb rr cc kb rx N L d b L' d' b' ad cap V) (hk : KP N L' d' b' m) (h0 : 0 < N) (hN : N ≤ 100) (hm : m ≤ 900000) (hc : N ≤ cap) : Calls Tryz.prog 17 #[.agg #[.slice ad N cap], .int .i64 self, .pointer (some ⟨kb, 0, none⟩), .pointer (some ⟨lb, 0, none⟩)] V fun e w' => ∃ ad' cap', e = .returned (.tuple #[.agg #[.slice ad' N cap'], nt (dDf L' self d' b').x.1 (dDf L' self d' b').x.2.1 (dDf L' self d' b').x.2.2, .bool (dDf L' self d' b').did, .int .i64 (dDf L' self d' b').e]) ∧ RdN w' ad' (dDf L' self d' b').l ∧ N ≤ cap' ∧ (∀ a, ad' = some a → a.block ≠ g ∧ ∃ cur, w'.heap[a.block]? = some (.cells cur 60 (0, 0))) ∧ Pl w P bp g q lb rr cc kb rx N L d b L' (dDf L' self d' b').d (dDf L' self d' b').b ad cap w' ∧ Kq g V w' := by
  obtain ⟨n, hn, hlv⟩ := hk.lv
  have e1 := hk.w0
  have e2 := hk.w1
  exact (rDefend_any h.rl hk.len h0 hN hc hk.bo h.nb h.bb h.rf hlv.fz e1 (by omega) self).mono (by
    rintro e w' ⟨ad', cap', rfl, k1, k2, k3, k4, k5, k6⟩
    have hp := h.rdf hi.l hi.k k6 k4 k5
    refine ⟨ad', cap', rfl, k1, k2, ?_, hp, h.kq (fun k hk _ _ _ n1 n2 n3 _ => k6.block k hk n3 n1 n2)⟩
    rcases k3 with rfl | k3
    · exact hp.ra
    · intro a ha
      obtain ⟨h5, h6⟩ := k3 a ha
      exact ⟨by have := h.bk.glt; omega, h6⟩)
end
/-- While both are looked at: two lists that are made on the way. -/
structure JPq (V0 : World) (L : List N3) (l : List Nat) (y : (Option Addr × Nat) × (Nat × Nat)) (p q : Bool) (V : World) : Prop where
  bl : Below V0.heap.size V0 V
  li : p = true → RdN V y.1.1 L
  im : q = true → RdB V (some ⟨y.2.1, 0, none⟩) l
section
variable {V0 V V' : World} {L : List N3} {l : List Nat} {y : (Option Addr × Nat) × (Nat × Nat)} {p q : Bool}
theorem JPq.carry (h : JPq V0 L l y p q V) (hb : Below V.heap.size V V') : JPq V0 L l y p q V' := ⟨bel2 h.bl hb, fun e => (h.li e).carry hb, fun e => (h.im e).carry hb⟩
end
theorem load_kR {V : World} {kb lb : Nat} {b : Bo} (h : BB V kb 0 0 lb b) : (Instr.loadAt 35 (.pointer (some ⟨kb, 0, none⟩))).run Tryz.prog V = .ok (.agg #[.int .i64 b.r.li, .int .i64 b.r.ro, .int .i64 b.r.ta]) V := by
  obtain ⟨_, _, c0, c1, c2, _⟩ := h.cs
  go_simp
theorem load_rB {V : World} {lb base r c : Nat} {d : Dst} (h : RfD V lb 0 base r c d) : (Instr.loadAt 26 (.pointer (some ⟨lb, 0, none⟩))).run Tryz.prog V = .ok (.slice (some ⟨r, 0, none⟩) 256 c) V := by
  have c0 := h.b
  go_simp
theorem field_k3 (V : World) (kb : Nat) : (Instr.fieldAt 37 (.pointer (some ⟨kb, 0, none⟩)) 3).run Tryz.prog V = .ok (.pointer (some ⟨kb, 5, none⟩)) V := by go_simp
theorem field_k0 (V : World) (kb : Nat) : (Instr.fieldAt 37 (.pointer (some ⟨kb, 0, none⟩)) 0).run Tryz.prog V = .ok (.pointer (some ⟨kb, 0, none⟩)) V := by go_simp
theorem bin_neqN {x y : Operand} {w : World} (o t k : Int) : binRun Tryz.prog .neq 60 x y (nt o t k) (nt o t k) w = .ok (.bool false) w := by
  unfold binRun nt
  go_simp
theorem bin_neqR {x y : Operand} {w : World} (o t k : Int) : binRun Tryz.prog .neq 35 x y (.agg #[.int .i64 o, .int .i64 t, .int .i64 k]) (.agg #[.int .i64 o, .int .i64 t, .int .i64 k]) w = .ok (.bool false) w := by
  unfold binRun
  go_simp
theorem bin_neqB {x y : Operand} {w : World} (a : Bool) : binRun Tryz.prog .neq 4 x y (.bool a) (.bool a) w = .ok (.bool false) w := by
  unfold binRun
  cases a <;> go_simp
theorem bin_neqI {x y : Operand} {w : World} {t : TypeId} (a : Int) : binRun Tryz.prog .neq t x y (.int .i64 a) (.int .i64 a) w = .ok (.bool false) w := by
  unfold binRun
  simp [go_sem]
end Go.Proofs.YtlpmehmoeladjaaGreatDoor
