/- BagGoes: what is needed. -/
import Derived.Test.YtenahcdmdhlieabOpy
import Derived.Test.YtenahcdmdhlieabMrk
namespace Go.Proofs.Ytenahcdmdhlieab
open Go.RowKit
open Go.Shelf Go.Lib
attribute [local go_sem] Oper.semAt_some
/-- What was sent. -/
def snt (ls : List (List Nat)) : List Gr := ls.mapIdx fun k d => ((k : Int) + 1, (k : Int), -(k : Int), d)
theorem snt_len (ls : List (List Nat)) : (snt ls).length = ls.length := by simp [snt]
theorem snt_app (ls : List (List Nat)) (d : List Nat) : snt (ls ++ [d]) = snt ls ++ [((ls.length : Int) + 1, (ls.length : Int), -(ls.length : Int), d)] := by simp [snt, List.mapIdx_append]
theorem snt_get {ls : List (List Nat)} {k : Nat} {d : List Nat} (h : ls[k]? = some d) : (snt ls)[k]? = some ((k : Int) + 1, (k : Int), -(k : Int), d) := by simp [snt, h]
theorem un_neg (k : Nat) (hk : k ≤ 100) (W : World) : (Op.unary .neg (.int .i64 (k : Int))).run Try.prog W = .ok (.int .i64 (-(k : Int))) W := by
  have : IntKind.i64.wrap (-(k : Int)) = -(k : Int) := i64_id _ (by omega) (by omega)
  go_simp
theorem load_Y {V : World} {B : Nat} {a : Option Addr} {n c : Nat} (h : V.heap[B]? = some (.cells #[.slice a n c] 22 (0, 0))) : (Instr.loadAt 22 (.pointer (some ⟨B, 0, none⟩))).run Try.prog V = .ok (.slice a n c) V := by
  have c0 := cell_at h 0
  simp at c0
  go_simp
theorem load_bp {V : World} {B p : Nat} (h : V.heap[B]? = some (.cells #[.pointer (some ⟨p, 0, none⟩)] 24 (0, 0))) : (Instr.loadAt 24 (.pointer (some ⟨B, 0, none⟩))).run Try.prog V = .ok (.pointer (some ⟨p, 0, none⟩)) V := by
  have c0 := cell_at h 0
  simp at c0
  go_simp
theorem bi_lenYY (t : TypeId) (bs : Array Bool) (a : Option Addr) (n c : Nat) (w : World) : (builtin .len #[22] t bs #[.slice a n c]).run Try.prog w = .ok (.value (.int .i64 (n : Int))) w := by
  show ((do pure (.value (← Builtin.len_ #[22] t #[.slice a n c]))) : Sem Next).run Try.prog w = _
  go_simp
theorem retBo {f : Func} {p : Tmp} {R : Ending → World → Prop} {a : Act} {w : World} {b : Nat} {x : Bool} (hres : f.results = #[.cell p 4]) (hp : a.tmps.getD p undef = .pointer (some ⟨b, 0, none⟩)) (hd : a.defers = []) (h : w.heap[b]? = some (.cells #[.bool x] 4 (0, 0))) (hR : R (.returned (.bool x)) w) : bodyPost Try.prog f R .ret a w := by
  refine bodyPost_ret (v := .bool x) ?_ hd hR
  have hp' : a.tmps[p]?.getD undef = .pointer (some ⟨b, 0, none⟩) := by simpa using hp
  have c0 := cell_at h 0
  simp at c0
  simp [results, hres, hp', asAddr]
  go_simp
theorem set_b {W : World} {b : Nat} {v : Value} {t : TypeId} (h : W.heap[b]? = some (.cells #[v] t (0, 0))) (u : Value) : (W.setCell ⟨b, 0, none⟩ u).heap[b]? = some (.cells #[u] t (0, 0)) := by
  have := heap_setCell_same _ _ 0 _ _ u h
  simpa using this
/-- All blocks but those of bags and their lists lie as they lay. -/
def Sv (W W' : World) : Prop := ∀ (k : Nat) (cur : Array Value) (t : TypeId) (z : Nat × Nat), t ≠ 44 → t ≠ 49 → W.heap[k]? = some (.cells cur t z) → W'.heap[k]? = some (.cells cur t z)
theorem Bg.sv {W W' : World} {base p : Nat} {ad : Option Addr} {cap : Nat} {room last : Int} {ps : List Nat} {l : List Gr} (h : Bg W base p ad cap room last ps l) {g' : Option Nat} (ht : Tn p (ob ad) g' W W') : Sv W W' := fun _ _ _ _ h1 h2 hk => h.stays ht hk h1 h2
theorem GmAt.cl {W W' : World} {q : Nat} {x : Gr} (h : GmAt W q x) (hc : Cl W W') : GmAt W' q x := by
  obtain ⟨a, c, h⟩ := h
  refine ⟨a, c, hc _ _ _ _ h.obj, fun hn => ?_, h.byt, h.few⟩
  obtain ⟨b, off, h1, ⟨cur, h2⟩, h3⟩ := h.dat hn
  exact ⟨b, off, h1, ⟨cur, hc _ _ _ _ h2⟩, h3.carry ((hc _ _ _ _ h2).trans h2.symm)⟩
theorem Bg.cl {W W' : World} {base p : Nat} {ad : Option Addr} {cap : Nat} {room last : Int} {ps : List Nat} {l : List Gr} (h : Bg W base p ad cap room last ps l) (hc : Cl W W') : Bg W' base p ad cap room last ps l :=
  ⟨h.pb, hc _ _ _ _ h.obj, hc.row h.row, h.len, fun k q x h1 h2 => (h.gr k q x h1 h2).cl hc, h.le, h.most⟩
theorem AL.keep {W W' : World} {base bx2 bx : Nat} {a : Option Addr} {c : Nat} {ps : List Nat} {l : List Gr} (h : AL W base bx2 bx a c ps l) (hc : Cl W W') : AL W' base bx2 bx a c ps l :=
  ⟨hc _ _ _ _ h.b2, hc _ _ _ _ h.b1, hc.row h.cl.row, h.cl.len, fun k q x h1 h2 => (h.cl.gr k q x h1 h2).cl hc⟩
theorem AL.tn {W W' : World} {base b0 bx2 bx p : Nat} {a ad ad' : Option Addr} {c cap : Nat} {psA ps : List Nat} {lA l : List Gr} {room last : Int} (h : AL W base bx2 bx a c psA lA) (hB : Bg W b0 p ad cap room last ps l) (ht : Tn p (ob ad) (ob ad') W W') (hs : ∀ g, ob ad = some g → ob a ≠ some g) : AL W' base bx2 bx a c psA lA ∧ ∀ g, ob ad' = some g → ob a ≠ some g := by
  have hgt : ∀ g, ob a = some g → g < W.heap.size ∧ W'.heap[g]? = W.heap[g]? := fun g e => by
    obtain ⟨_, cur, h3⟩ := own_blk h.cl.row g (by rw [ob_eq]; exact e)
    refine ⟨lt_at h3, ht.block g (lt_at h3) (fun e2 => ?_) (fun e2 => hs g e2.symm e)⟩
    subst e2
    rw [hB.obj] at h3
    cases h3
  refine ⟨⟨hB.sv ht _ _ _ _ (by decide) (by decide) h.b2, hB.sv ht _ _ _ _ (by decide) (by decide) h.b1, ⟨h.cl.row.1, ?_⟩, h.cl.len, fun k q x h1 h2 => (h.cl.gr k q x h1 h2).tn hB ht⟩, fun g e e2 => ?_⟩
  · rcases h.cl.row.2 with k1 | ⟨g, cap, cur, k1, k2, k3, k4⟩
    · exact .inl k1
    · refine .inr ⟨g, cap, cur, k1, k2, ((hgt g ?_).2).trans k3, k4⟩
      simp only [Value.slice.injEq] at k1
      rw [k1.1]
      rfl
  · rcases ht.own with q | q
    · exact hs g (q ▸ e) e2
    · have := q g e
      have := (hgt g e2).1
      omega
theorem frame_eq (X : Array Value) (h : X.size = 120) : ∃ U : Nat → Value, (∀ i, U i = X.getD i undef) ∧ X = #[U 0, U 1, U 2, U 3, U 4, U 5, U 6, U 7, U 8, U 9, U 10, U 11, U 12, U 13, U 14, U 15, U 16, U 17, U 18, U 19, U 20, U 21, U 22, U 23, U 24, U 25, U 26, U 27, U 28, U 29, U 30, U 31, U 32, U 33, U 34, U 35, U 36, U 37, U 38, U 39, U 40, U 41, U 42, U 43, U 44, U 45, U 46, U 47, U 48, U 49, U 50, U 51, U 52, U 53, U 54, U 55, U 56, U 57, U 58, U 59, U 60, U 61, U 62, U 63, U 64, U 65, U 66, U 67, U 68, U 69, U 70, U 71, U 72, U 73, U 74, U 75, U 76, U 77, U 78, U 79, U 80, U 81, U 82, U 83, U 84, U 85, U 86, U 87, U 88, U 89, U 90, U 91, U 92, U 93, U 94, U 95, U 96, U 97, U 98, U 99, U 100, U 101, U 102, U 103, U 104, U 105, U 106, U 107, U 108, U 109, U 110, U 111, U 112, U 113, U 114, U 115, U 116, U 117, U 118, U 119] := by
  refine ⟨fun i => X.getD i undef, fun _ => rfl, ?_⟩
  have e : X = ((List.range 120).map (fun i => X.getD i undef)).toArray := by
    apply Array.ext
    · simp [h]
    · intro i h1 h2
      simp [Array.getD, h1]
  exact e
/-- What lies where, while All is gone through. -/
structure JG (w wb : World) (a1 : Int) (ad0 : Option Addr) (n cap0 p bb bx2 bx B0 : Nat) (a : Option Addr) (c : Nat) (psA : List Nat) (lA : List Gr) (ad : Option Addr) (W : World) : Prop where
  dt : W.heap[w.heap.size]? = some (.cells #[.slice ad0 n cap0] 22 (0, 0))
  st : W.heap[w.heap.size + 1]? = some (.cells #[.int .i64 a1] 3 (0, 0))
  rs : W.heap[w.heap.size + 2]? = some (.cells #[.bool false] 4 (0, 0))
  bb : W.heap[bb]? = some (.cells #[.pointer (some ⟨p, 0, none⟩)] 24 (0, 0))
  bg : ∃ cap la ps l, Bg W wb.heap.size p ad cap 50 la ps l
  al : AL W B0 bx2 bx a c psA lA
  sep : ∀ g, ob ad = some g → ob a ≠ some g
  be : Below w.heap.size w W
section
variable {w wb : World} {a1 : Int} {ad0 : Option Addr} {n cap0 p bb bx2 bx B0 : Nat} {a : Option Addr} {c : Nat} {psA : List Nat} {lA : List Gr} {ad : Option Addr} {W : World}
theorem JG.cl {V : World} (h : JG w wb a1 ad0 n cap0 p bb bx2 bx B0 a c psA lA ad W) (hc : Cl W V) (hb : Below w.heap.size w V) : JG w wb a1 ad0 n cap0 p bb bx2 bx B0 a c psA lA ad V := by
  obtain ⟨cap, la, ps, l, hB⟩ := h.bg
  exact ⟨hc _ _ _ _ h.dt, hc _ _ _ _ h.st, hc _ _ _ _ h.rs, hc _ _ _ _ h.bb, ⟨cap, la, ps, l, hB.cl hc⟩, h.al.keep hc, h.sep, hb⟩
theorem JG.carry {V : World} (h : JG w wb a1 ad0 n cap0 p bb bx2 bx B0 a c psA lA ad W) (hb : Below W.heap.size W V) : JG w wb a1 ad0 n cap0 p bb bx2 bx B0 a c psA lA ad V := h.cl (Cl.of hb) (bel2 h.be hb)
theorem JG.tn {V : World} {ad' : Option Addr} {cap cap' : Nat} {la la' : Int} {ps ps' : List Nat} {l l' : List Gr} (h : JG w wb a1 ad0 n cap0 p bb bx2 bx B0 a c psA lA ad W) (hw : w.heap.size ≤ wb.heap.size) (hB : Bg W wb.heap.size p ad cap 50 la ps l) (ht : Tn p (ob ad) (ob ad') W V) (hB' : Bg V wb.heap.size p ad' cap' 50 la' ps' l') : JG w wb a1 ad0 n cap0 p bb bx2 bx B0 a c psA lA ad' V := by
  obtain ⟨k1, k2⟩ := h.al.tn hB ht h.sep
  have hs := hB.sv ht
  exact ⟨hs _ _ _ _ (by decide) (by decide) h.dt, hs _ _ _ _ (by decide) (by decide) h.st, hs _ _ _ _ (by decide) (by decide) h.rs, hs _ _ _ _ (by decide) (by decide) h.bb, ⟨_, _, _, _, hB'⟩, k1, k2, h.be.trans ((hB.below ht).mono hw)⟩
end
theorem ne_blk {W : World} {k k' : Nat} {cur cur' : Array Value} {t t' : TypeId} (h : W.heap[k]? = some (.cells cur t (0, 0))) (h' : W.heap[k']? = some (.cells cur' t' (0, 0))) (ht : t ≠ t') : k ≠ k' := fun e => by
  subst e
  rw [h] at h'
  cases h'
  exact ht rfl
/-- All blocks of cells but those of ints lie as they lay. -/
def Ct (W W' : World) : Prop := ∀ (k : Nat) (cur : Array Value) (t : TypeId) (z : Nat × Nat), t ≠ 3 → W.heap[k]? = some (.cells cur t z) → W'.heap[k]? = some (.cells cur t z)
theorem Ct.set {W : World} {B : Nat} {v : Value} (h : W.heap[B]? = some (.cells #[v] 3 (0, 0))) (u : Value) : Ct W (W.setCell ⟨B, 0, none⟩ u) := fun k cur t z ht hk => (Below.heap_setCell W ⟨B, 0, none⟩ u k (fun e => by
  have e : k = B := e
  subst e
  rw [h] at hk
  cases hk
  exact ht rfl)).trans hk
theorem Ct.row {W W' : World} (h : Ct W W') {base : Nat} {e : TypeId} {size : Nat} {v : Value} {n : Nat} {xs : List Value} (he : e ≠ 3) (ho : W.ownsRow base e size v n xs) : W'.ownsRow base e size v n xs := by
  refine ⟨ho.1, ?_⟩
  rcases ho.2 with h1 | ⟨g, cap, cur, h1, h2, h3, h4⟩
  · exact .inl h1
  · exact .inr ⟨g, cap, cur, h1, h2, h _ _ _ _ he h3, h4⟩
theorem GmAt.ct {W W' : World} {q : Nat} {x : Gr} (h : GmAt W q x) (hc : Ct W W') : GmAt W' q x := by
  obtain ⟨a, c, h⟩ := h
  refine ⟨a, c, hc _ _ _ _ (by decide) h.obj, fun hn => ?_, h.byt, h.few⟩
  obtain ⟨b, off, h1, ⟨cur, h2⟩, h3⟩ := h.dat hn
  exact ⟨b, off, h1, ⟨cur, hc _ _ _ _ (by decide) h2⟩, h3.carry ((hc _ _ _ _ (by decide) h2).trans h2.symm)⟩
section
variable {w wb : World} {a1 : Int} {ad0 : Option Addr} {n cap0 p bb bx2 bx B0 : Nat} {a : Option Addr} {c : Nat} {psA : List Nat} {lA : List Gr} {ad : Option Addr} {W : World}
theorem JG.seti {B : Nat} {v : Value} (h : JG w wb a1 ad0 n cap0 p bb bx2 bx B0 a c psA lA ad W) (hB : W.heap[B]? = some (.cells #[v] 3 (0, 0))) (hne : B ≠ w.heap.size + 1) (hw : w.heap.size ≤ B) (u : Value) : JG w wb a1 ad0 n cap0 p bb bx2 bx B0 a c psA lA ad (W.setCell ⟨B, 0, none⟩ u) := by
  have hc := Ct.set hB u
  obtain ⟨cap, la, ps, l, hb⟩ := h.bg
  exact ⟨hc _ _ _ _ (by decide) h.dt, (Below.heap_setCell W ⟨B, 0, none⟩ u _ (Ne.symm hne)).trans h.st, hc _ _ _ _ (by decide) h.rs, hc _ _ _ _ (by decide) h.bb, ⟨cap, la, ps, l, hb.pb, hc _ _ _ _ (by decide) hb.obj, hc.row (by decide) hb.row, hb.len, fun k q x h1 h2 => (hb.gr k q x h1 h2).ct hc, hb.le, hb.most⟩,
    ⟨hc _ _ _ _ (by decide) h.al.b2, hc _ _ _ _ (by decide) h.al.b1, hc.row (by decide) h.al.cl.row, h.al.cl.len, fun k q x h1 h2 => (h.al.cl.gr k q x h1 h2).ct hc⟩, h.sep, h.be.setCell (p := ⟨B, 0, none⟩) hw u⟩
theorem Marks.tn {W W' : World} {lo b0 p : Nat} {ks : List Nat} {ad ad' : Option Addr} {cap : Nat} {room last : Int} {ps : List Nat} {l : List Gr} (h : Marks lo ks W) (hB : Bg W b0 p ad cap room last ps l) (ht : Tn p (ob ad) (ob ad') W W') : Marks lo ks W' :=
  ⟨h.nd, h.lo, fun k hk => (ht.block k (h.lt k hk) (fun e => by have := h.on k hk; rw [e, hB.obj] at this; cases this) (fun e => by obtain ⟨_, cur, h3⟩ := hB.blk e.symm; have := h.on k hk; rw [h3] at this; cases this)).trans (h.on k hk)⟩
end
end Go.Proofs.Ytenahcdmdhlieab
