/- tell.taker's function: a word is taken off, where it fits. -/
import Derived.Test.YtnkpohkodkjkfaaGreatDoorJpJ18
import Derived.Test.YtnkpohkodkjkfaaGreatDoorJpJ13
import Derived.Test.YtnkpohkodkjkfaaGreatDoorJpJ14
import Derived.Test.YtnkpohkodkjkfaaGreatDoorJpJ22
import Derived.Laws.Tables
import Derived.Test.YtnkpohkodkjkfaaGreatDoorJpJ11
import Derived.Test.YtnkpohkodkjkfaaGreatDoorJpJ12
import Derived.Test.YtnkpohkodkjkfaaGreatDoorJpJ17
set_option maxHeartbeats 40000000
set_option maxRecDepth 100000
set_option linter.unusedVariables false
namespace Go.Proofs.YtnkpohkodkjkfaaGreatDoor
open Go.RowKit Go.Shelf Go.Lib

/-- A call of what a slot holds, whose answer is found out on the way. -/
theorem stepG_callv {G : Type} {P : Program} {md : Region.Mode} {ops : Array Oper} {Q : Exit → Act → World → Prop} {X0 : Array Value} {val : G → Nat → Value} {J : G → (Nat → Bool) → World → Prop} {i : Nat} {o : Oper}
    (hi : ops[i]? = some o) (hg : ∀ g, GOk md ops X0 (val g) i o) (f : FuncId) (x : Operand) (xs : Array Operand) (ts : Array TypeId) (cap : Array Value) (vs : G → List Value) (ho : o.op = .call { callee := .value x, args := xs, argTypes := ts })
    (hx0 : ∀ g, rdo md ops X0 (val g) i o x = some (.func (.func f) #[] cap)) (hx : ∀ g, xs.toList.map (rdo md ops X0 (val g) i o) = (vs g).map some) (hen : ∀ args w, (callFunc f args).run P w = .ok (.enter f args) w)
    (hc : ∀ g d w, J g d w → d i = false → (∀ j, bindsOn md o j = true → d j = true) → (∀ j oj, ops[j]? = some oj → d j = true → ∀ k, bindsOn md oj k = true → d k = true) → Calls P f ((vs g).toArray ++ cap) w fun e w' => ∃ g', e = .returned (val g' i) ∧ (∀ j, d j = true → val g' j = val g j) ∧ J g' (fun j => if j = i then true else d j) w') : StepG P md ops Q X0 val J i o := by
  intro g d a w hJ hun hdep hcl hS
  unfold wpOp
  rw [hi]
  have hS' : Seen md ops X0 (val g) i o a := hS
  simp only [wanted_of hS' (hg g), if_true]
  refine .inl ?_
  unfold Oper.wp execOp
  have e : xs.map a.eval = (vs g).toArray := by
    apply Array.toList_inj.1
    rw [Array.toList_map]
    exact hS'.evals _ _ (hx g)
  have e2 : a.eval x = .func (.func f) #[] cap := hS'.eval (hx0 g)
  simp only [ho, resolve, e, e2, Deferred.ofValue, Sem.run_bind, Sem.run_pure, Result.andThen_ok, invoke, Array.empty_append, hen, Oper.upon_enter]
  refine (hc g d w hJ hun hdep hcl).mono ?_
  rintro e' w' ⟨g', rfl, h1, h2⟩
  exact ⟨g', h1, rfl, h2⟩
/-- A word: its kind, its text, its line, its column. -/
abbrev Tk4 := Int × ByteArray × Int × Int
def tkC (x : Tk4) : Array Value := #[.int .i64 x.1, .string x.2.1, .int .i64 x.2.2.1, .int .i64 x.2.2.2]
def tk4 (x : Tk4) : Value := tkV x.1 x.2.1 x.2.2.1 x.2.2.2
/-- Words in memory. -/
def RdK (W : World) (ad : Option Addr) (l : List Tk4) : Prop := l ≠ [] → ∃ b off, ad = some ⟨b, off, none⟩ ∧ b < W.heap.size ∧ ∀ k x, l[k]? = some x → ∀ (j : Nat) (v : Value), (tkC x)[j]? = some v → W.cell? ⟨b, off + k * 4 + j, none⟩ = some v
theorem RdK.at {W V : World} {ad : Option Addr} {l : List Tk4} (h : RdK W ad l) (hs : W.heap.size ≤ V.heap.size) (hb : ∀ b off, ad = some ⟨b, off, none⟩ → b < W.heap.size → V.heap[b]? = W.heap[b]?) : RdK V ad l := fun hl => by
  obtain ⟨b, off, e, h1, h2⟩ := h hl
  exact ⟨b, off, e, Nat.lt_of_lt_of_le h1 hs, fun k x hk j v hv => (World.cell?_of_block (a := ⟨b, _, none⟩) (hb b off e h1)).trans (h2 k x hk j v hv)⟩
theorem RdK.carry {W V : World} {ad : Option Addr} {l : List Tk4} (h : RdK W ad l) (hb : Below W.heap.size W V) : RdK V ad l := h.at hb.size (fun b _ _ h1 => hb.block b h1)
/-- What turns the one block nb alone. -/
structure Ob (nb : Nat) (W V : World) : Prop where
  os : V.os = W.os
  tape : V.tape = W.tape
  output : V.output = W.output
  size : W.heap.size ≤ V.heap.size
  block : ∀ q, q < W.heap.size → q ≠ nb → V.heap[q]? = W.heap[q]?
theorem Ob.refl (nb : Nat) (W : World) : Ob nb W W := ⟨rfl, rfl, rfl, Nat.le_refl _, fun _ _ _ => rfl⟩
theorem Ob.trans {nb : Nat} {U W V : World} (h : Ob nb U W) (k : Ob nb W V) : Ob nb U V := ⟨k.os.trans h.os, k.tape.trans h.tape, k.output.trans h.output, Nat.le_trans h.size k.size, fun q h1 h2 => (k.block q (Nat.lt_of_lt_of_le h1 h.size) h2).trans (h.block q h1 h2)⟩
theorem Ob.of {nb : Nat} {W V : World} (hb : Below W.heap.size W V) : Ob nb W V := ⟨hb.os, hb.tape, hb.output, hb.size, fun q h1 _ => hb.block q h1⟩
theorem Ob.below {nb B : Nat} {w W V : World} (h : Ob nb W V) (hb : Below B w W) (h1 : B ≤ nb) (h2 : B ≤ W.heap.size) : Below B w V := hb.trans ⟨h.os, h.tape, h.output, h.size, fun k hk => h.block k (by omega) (by omega)⟩
/-- The words that are left: behind the first i. -/
structure Tk (nb wb : Nat) (l : List Tk4) (i : Nat) (W : World) : Prop where
  nx : W.heap[nb]? = some (.cells #[.int .i64 (i : Int)] 3 (0, 0))
  wd : ∃ ad cap, W.heap[wb]? = some (.cells #[.slice ad l.length cap] 52 (0, 0)) ∧ RdK W ad l ∧ ∀ b off, ad = some ⟨b, off, none⟩ → b ≠ nb
theorem Tk.carry {nb wb : Nat} {l : List Tk4} {i : Nat} {W V : World} (h : Tk nb wb l i W) (hb : Below W.heap.size W V) : Tk nb wb l i V := by
  obtain ⟨ad, cap, h1, h2, h3⟩ := h.wd
  exact ⟨(hb.block _ (lt_at h.nx)).trans h.nx, ad, cap, (hb.block _ (lt_at h1)).trans h1, h2.carry hb, h3⟩
theorem infoTk : (Tryz.prog.info? 56).map (·.size) = some 4 := by kernel_rfl
theorem idx_tk (b off n cap k : Nat) (h : k < n) (W : World) : (Instr.indexAt 52 (.slice (some ⟨b, off, none⟩) n cap) (.int .i64 (k : Int))).run Tryz.prog W = .ok (.pointer (some ⟨b, off + k * 4, none⟩)) W := by
  have h1 : (k : Int) < (n : Int) := by omega
  have h2 : 0 ≤ (k : Int) := by omega
  go_simp
theorem load_tk {W : World} {b o : Nat} {x : Tk4} (h : ∀ (j : Nat) (v : Value), (tkC x)[j]? = some v → W.cell? ⟨b, o + j, none⟩ = some v) : (Instr.loadAt 56 (.pointer (some ⟨b, o, none⟩))).run Tryz.prog W = .ok (tk4 x) W := by
  have c0 : W.cell? ⟨b, o, none⟩ = some (.int .i64 x.1) := h 0 _ rfl
  have c1 : W.cell? ⟨b, o + 1, none⟩ = some (.string x.2.1) := h 1 _ rfl
  have c2 : W.cell? ⟨b, o + 2, none⟩ = some (.int .i64 x.2.2.1) := h 2 _ rfl
  have c3 : W.cell? ⟨b, o + 3, none⟩ = some (.int .i64 x.2.2.2) := h 3 _ rfl
  unfold tk4 tkV
  go_simp
theorem box_tk {W : World} {b : Nat} {x : Tk4} (h : W.heap[b]? = some (.cells (tkC x) 56 (0, 0))) : (Instr.loadAt 56 (.pointer (some ⟨b, 0, none⟩))).run Tryz.prog W = .ok (tk4 x) W := load_tk (fun j v hv => by rw [Nat.zero_add, cell_at h j]; exact hv)
theorem un_notT (b : Bool) (W : World) : (Op.unary .not (.bool b)).run Tryz.prog W = .ok (.bool (!b)) W := by go_simp
theorem retTk {f : Func} {q : Tmp} {R : Ending → World → Prop} {a : Act} {w : World} {b : Nat} {x : Tk4} (hres : f.results = #[.cell q 56]) (hp : a.tmps.getD q undef = .pointer (some ⟨b, 0, none⟩)) (hd : a.defers = []) (h : w.heap[b]? = some (.cells (tkC x) 56 (0, 0))) (hR : R (.returned (tk4 x)) w) : bodyPost Tryz.prog f R .ret a w :=
  bodyPost_ret (results_cell_row hres a.tmps w b _ _ (0, 0) _ hp h Tryz.underlying56 rfl (by kernel_rfl)) hd hR
end Go.Proofs.YtnkpohkodkjkfaaGreatDoor
namespace Go.Proofs.YtnkpohkodkjkfaaGreatDoor
open Go.RowKit Go.Shelf

theorem txt_sz (l : List Int) : (txt l).size = (wr l).length := by
  have h : (txt l).data.toList.length = (txt l).size := by simp
  rw [← h, txt_data]
theorem wr_one (c : Int) : wr [c] = (Utf8.encode c).data.toList := by simp [wr]
theorem wr_pos (c : Int) : 1 ≤ (wr [c]).length := by rw [wr_one, enc_len]; exact (clen_pos _).1
theorem wr_ge : ∀ l : List Int, l.length ≤ (wr l).length
  | [] => by simp
  | c :: l => by
    have h1 := wr_ge l
    have h2 := wr_pos c
    have e : wr (c :: l) = wr [c] ++ wr l := by simp [wr]
    rw [e, List.length_append, List.length_cons]
    omega
/-- A character within a text of runes. -/
theorem txt_at (A B : List Int) (c : Int) (hc : (code c : Int) = c) : ((rn (txt (A ++ c :: B)) (wr A).length : Nat) : Int) = c ∧ wdt (txt (A ++ c :: B)) (wr A).length = (wr [c]).length ∧ (wr A).length < (txt (A ++ c :: B)).size := by
  have h := dec_enc (txt (A ++ c :: B)) (wr A) (wr B) c (by rw [txt_data, wr_append]; rfl)
  have h2 := wr_pos c
  refine ⟨?_, ?_, ?_⟩
  · unfold rn; rw [h]; exact hc
  · unfold wdt; rw [h, wr_one, enc_len]
  · rw [txt_sz, wr_append, show c :: B = [c] ++ B from rfl, wr_append, List.length_append, List.length_append]; omega
theorem txt_ext (A x B : List Int) : (txt (A ++ (x ++ B))).extract (wr A).length ((wr A).length + (wr x).length) = txt x := by
  apply ByteArray.ext
  apply Array.toList_inj.1
  rw [ByteArray.data_extract, Array.toList_extract, txt_data, txt_data, wr_append, wr_append]
  rw [List.extract_eq_take_drop, List.drop_left' rfl, Nat.add_sub_cancel_left, List.take_left' rfl]
theorem txt_rest (A B : List Int) : (txt (A ++ B)).extract (wr A).length (txt (A ++ B)).size = txt B := by
  have h := txt_ext A B []
  rw [List.append_nil] at h
  rw [← h]
  congr 1
  rw [txt_sz, wr_append, List.length_append]
theorem cut_run : ∀ (x A B : List Int) (f nx : Nat) (acc : List Tok), (∀ c ∈ x, (code c : Int) = c) → (wr (A ++ x)).length ≤ nx → cutAt (txt (A ++ (x ++ B))) (f + x.length) (wr A).length nx A.length acc = cutAt (txt (A ++ (x ++ B))) f (wr (A ++ x)).length nx (A.length + x.length) acc
  | [], A, B, f, nx, acc, _, _ => by rw [List.append_nil]; rfl
  | c :: x, A, B, f, nx, acc, hx, hn => by
    obtain ⟨h1, h2, h3⟩ := txt_at A (x ++ B) c (hx c List.mem_cons_self)
    have h4 := wr_pos c
    have e1 : A ++ (c :: x ++ B) = A ++ c :: (x ++ B) := rfl
    have e2 : A ++ c :: (x ++ B) = (A ++ [c]) ++ (x ++ B) := by simp
    have e3 : A ++ c :: x = (A ++ [c]) ++ x := by simp
    have e4 : (wr (A ++ [c])).length = (wr A).length + (wr [c]).length := by rw [wr_append, List.length_append]
    rw [e3] at hn ⊢
    have hle : (wr (A ++ [c])).length ≤ (wr ((A ++ [c]) ++ x)).length := by rw [wr_append (A ++ [c]) x, List.length_append]; omega
    rw [List.length_cons, show f + (x.length + 1) = (f + x.length) + 1 from rfl, e1, cut_skip _ _ _ _ _ _ h3 (by omega), h2, ← e4, e2]
    have ih := cut_run x (A ++ [c]) B f nx acc (fun d hd => hx d (List.mem_cons_of_mem _ hd)) hn
    rw [List.length_append, List.length_singleton] at ih
    rw [ih]
    congr 1
    omega
theorem cut_word (x A B : List Int) (f nx : Nat) (acc : List Tok) (k : Int) (c : Int) (x' : List Int) (hx : x = c :: x') (hc : ∀ c ∈ x, (code c : Int) = c) (hn : nx ≤ (wr A).length) (hs : stepR (txt (A ++ (x ++ B))) (wr A).length = .word k (wr x).length) : cutAt (txt (A ++ (x ++ B))) (f + x.length) (wr A).length nx A.length acc = cutAt (txt (A ++ (x ++ B))) f (wr (A ++ x)).length (wr (A ++ x)).length (A.length + x.length) (acc ++ [(k, txt x, A.length + 1)]) := by
  have he := txt_ext A x B
  subst hx
  obtain ⟨h1, h2, h3⟩ := txt_at A (x' ++ B) c (hc c List.mem_cons_self)
  have e1 : A ++ (c :: x' ++ B) = A ++ c :: (x' ++ B) := rfl
  have e2 : A ++ c :: (x' ++ B) = (A ++ [c]) ++ (x' ++ B) := by simp
  have e3 : A ++ c :: x' = (A ++ [c]) ++ x' := by simp
  have e4 : (wr (A ++ [c])).length = (wr A).length + (wr [c]).length := by rw [wr_append, List.length_append]
  have e5 : (wr (A ++ c :: x')).length = (wr A).length + (wr (c :: x')).length := by rw [wr_append, List.length_append]
  rw [List.length_cons, show f + (x'.length + 1) = (f + x'.length) + 1 from rfl, cut_step _ _ _ _ _ _ (by rw [e1]; exact h3) (by omega), hs]
  dsimp only
  rw [he, e1, h2, ← e4, ← e5, e2, e3]
  have ih := cut_run x' (A ++ [c]) B f (wr ((A ++ [c]) ++ x')).length (acc ++ [(k, txt (c :: x'), A.length + 1)]) (fun d hd => hc d (List.mem_cons_of_mem _ hd)) (Nat.le_refl _)
  rw [List.length_append, List.length_singleton] at ih
  rw [ih]
  congr 1
  omega
/-- Nothing behind that a word goes on with. -/
def Sp : List Int → Prop
  | [] => True
  | c :: _ => (code c : Int) = c ∧ ¬ (cls c = 4 ∨ cls c = 3)
theorem run_txt : ∀ (x A B : List Int) (f n : Nat), (∀ c ∈ x, (code c : Int) = c ∧ (cls c = 4 ∨ cls c = 3)) → Sp B → (txt (A ++ (x ++ B))).size ≤ (wr A).length + f → runAt (txt (A ++ (x ++ B))) f (wr A).length n = ((wr (A ++ x)).length, n + x.length)
  | [], A, B, f, n, _, hB, hf => by
    rw [List.append_nil, List.nil_append, List.length_nil, Nat.add_zero]
    cases f with
    | zero => rfl
    | succ f =>
      cases B with
      | nil =>
        have e : (txt (A ++ [])).size = (wr A).length := by rw [List.append_nil, txt_sz]
        rw [runAt, if_pos (by omega), e]
      | cons c B =>
        obtain ⟨h1, h2, h3⟩ := txt_at A B c hB.1
        rw [runAt, if_neg (by omega), h1, if_neg hB.2]
  | c :: x, A, B, f, n, hx, hB, hf => by
    obtain ⟨h1, h2, h3⟩ := txt_at A (x ++ B) c (hx c List.mem_cons_self).1
    have h4 := wr_pos c
    have e1 : A ++ (c :: x ++ B) = A ++ c :: (x ++ B) := rfl
    have e2 : A ++ c :: (x ++ B) = (A ++ [c]) ++ (x ++ B) := by simp
    have e3 : A ++ c :: x = (A ++ [c]) ++ x := by simp
    have e4 : (wr (A ++ [c])).length = (wr A).length + (wr [c]).length := by rw [wr_append, List.length_append]
    rw [e1] at hf ⊢
    obtain ⟨g, rfl⟩ : ∃ g, f = g + 1 := ⟨f - 1, by omega⟩
    rw [runAt, if_neg (by omega), h1, if_pos (hx c List.mem_cons_self).2, h2, ← e4, e2, e3]
    rw [e2] at hf
    rw [run_txt x (A ++ [c]) B g (n + 1) (fun d hd => hx d (List.mem_cons_of_mem _ hd)) hB (by omega), List.length_cons]
    congr 1
    omega
theorem runR_txt (x B : List Int) (hx : ∀ c ∈ x, (code c : Int) = c ∧ (cls c = 4 ∨ cls c = 3)) (hB : Sp B) : runR (txt (x ++ B)) = ((wr x).length, x.length) := by
  have h := run_txt x [] B ((txt (x ++ B)).size + 1) 0 hx hB (by simp only [List.nil_append]; omega)
  unfold runR
  rw [List.nil_append, List.nil_append, Nat.zero_add] at h
  exact h
theorem kind_name {c : Int} (h : cls c = 4) : kindR c = 2 := by
  have h1 : c ≠ 34 := fun e => by subst e; exact absurd h (by decide)
  have h2 : c ≠ 35 := fun e => by subst e; exact absurd h (by decide)
  unfold kindR
  rw [if_neg h1, if_neg h2, h]
  rfl
theorem kind_dig {c : Int} (h : cls c = 3) : kindR c = 3 := by
  have h1 : c ≠ 34 := fun e => by subst e; exact absurd h (by decide)
  have h2 : c ≠ 35 := fun e => by subst e; exact absurd h (by decide)
  unfold kindR
  rw [if_neg h1, if_neg h2, h]
  rfl
theorem kind_mark {c : Int} (h : cls c = 5) (h1 : c ≠ 34) (h2 : c ≠ 35) : kindR c = 5 := by
  unfold kindR
  rw [if_neg h1, if_neg h2, h]
  rfl
theorem step_name (x A B : List Int) (c : Int) (x' : List Int) (e : x = c :: x') (hc : cls c = 4) (hx : ∀ c ∈ x, (code c : Int) = c ∧ (cls c = 4 ∨ cls c = 3)) (hl : x.length ≤ 128) (hB : Sp B) : stepR (txt (A ++ (x ++ B))) (wr A).length = .word 2 (wr x).length := by
  have hr := runR_txt x B hx hB
  have ht := txt_rest A (x ++ B)
  have h1 : ((rn (txt (A ++ (x ++ B))) (wr A).length : Nat) : Int) = c := by
    subst e
    exact (txt_at A (x' ++ B) c (hx c List.mem_cons_self).1).1
  unfold stepR
  rw [h1, kind_name hc, if_neg (by decide), if_neg (by decide), if_pos rfl, ht, hr, if_neg (by dsimp only; omega)]
theorem step_num (x A B : List Int) (c : Int) (x' : List Int) (e : x = c :: x') (hx : ∀ c ∈ x, (code c : Int) = c ∧ cls c = 3) (hB : Sp B) (hn : numR (txt x) ≠ none) : stepR (txt (A ++ (x ++ B))) (wr A).length = .word 3 (wr x).length := by
  have hr := runR_txt x B (fun d hd => ⟨(hx d hd).1, .inr (hx d hd).2⟩) hB
  have ht := txt_rest A (x ++ B)
  have he := txt_ext A x B
  have hc : cls c = 3 := (hx c (by rw [e]; exact List.mem_cons_self)).2
  have h1 : ((rn (txt (A ++ (x ++ B))) (wr A).length : Nat) : Int) = c := by
    subst e
    exact (txt_at A (x' ++ B) c (hx c List.mem_cons_self).1).1
  unfold stepR
  rw [h1, kind_dig hc, if_neg (by decide), if_neg (by decide), if_neg (by decide), if_pos rfl, ht, hr]
  dsimp only
  rw [he, if_neg hn]
theorem step_mark (A B : List Int) (c : Int) (hk : (code c : Int) = c) (hc : cls c = 5) (h34 : c ≠ 34) (h35 : c ≠ 35) (hl : (wr [c]).length = 1) : stepR (txt (A ++ ([c] ++ B))) (wr A).length = .word 5 (wr [c]).length := by
  have h1 := (txt_at A B c hk).1
  unfold stepR
  rw [List.singleton_append, h1, kind_mark hc h34 h35, if_neg (by decide), if_neg (by decide), if_neg (by decide), if_neg (by decide), if_neg (by decide), if_pos rfl, hl]
theorem step_gap (A B : List Int) : stepR (txt (A ++ 32 :: B)) (wr A).length = .gap := by
  have h1 := (txt_at A B 32 (by decide)).1
  unfold stepR
  rw [h1, if_pos (by decide)]
/-- Words and blanks between them, as runes; the kind 0: a blank. -/
abbrev Pc := Int × List Int
def pcR : List Pc → List Int
  | [] => []
  | (_, x) :: r => x ++ pcR r
/-- A word that is one. -/
def okW (k : Int) (x B : List Int) : Prop :=
  (k = 0 ∧ x = [32]) ∨ (k = 2 ∧ (∃ c x', x = c :: x' ∧ cls c = 4) ∧ (∀ c ∈ x, cls c = 4 ∨ cls c = 3) ∧ x.length ≤ 128 ∧ Sp B) ∨ (k = 3 ∧ (∃ c x', x = c :: x') ∧ (∀ c ∈ x, cls c = 3) ∧ numR (txt x) ≠ none ∧ Sp B) ∨ (k = 5 ∧ ∃ c, x = [c] ∧ cls c = 5 ∧ c ≠ 34 ∧ c ≠ 35 ∧ (wr [c]).length = 1)
def okP : List Pc → Prop
  | [] => True
  | (k, x) :: r => (∀ c ∈ x, (code c : Int) = c ∧ c ≠ 10) ∧ okW k x (pcR r) ∧ okP r
def tks : Nat → List Pc → List Tok
  | _, [] => []
  | n, (k, x) :: r => (if k = 0 then [] else [(k, txt x, n + 1)]) ++ tks (n + x.length) r
theorem cut_pcs : ∀ (r : List Pc) (A : List Int) (acc : List Tok) (nx f : Nat), okP r → nx ≤ (wr A).length → (pcR r).length < f → cutAt (txt (A ++ pcR r)) f (wr A).length nx A.length acc = (acc ++ tks A.length r, 0, 0)
  | [], A, acc, nx, f, _, _, hf => by
    obtain ⟨g, rfl⟩ : ∃ g, f = g + 1 := ⟨f - 1, by omega⟩
    rw [pcR, List.append_nil, cut_end _ _ _ _ _ _ (by rw [txt_sz]; omega), tks, List.append_nil]
  | (k, x) :: r, A, acc, nx, f, hk, hn, hf => by
    obtain ⟨h1, h2, h3⟩ := hk
    rw [pcR, List.length_append] at hf
    have hf2 : ∃ g, f = g + x.length := ⟨f - x.length, by omega⟩
    obtain ⟨g, rfl⟩ := hf2
    have hz : ∀ nx', nx' ≤ (wr (A ++ x)).length → ∀ acc', cutAt (txt (A ++ (x ++ pcR r))) g (wr (A ++ x)).length nx' (A.length + x.length) acc' = (acc' ++ tks (A.length + x.length) r, 0, 0) := fun nx' hn' acc' => by
      have ih := cut_pcs r (A ++ x) acc' nx' g h3 hn' (by omega)
      rw [List.append_assoc, List.length_append] at ih
      exact ih
    have hw : ∀ c x', x = c :: x' → stepR (txt (A ++ (x ++ pcR r))) (wr A).length = .word k (wr x).length → k ≠ 0 → cutAt (txt (A ++ (x ++ pcR r))) (g + x.length) (wr A).length nx A.length acc = (acc ++ tks A.length ((k, x) :: r), 0, 0) := fun c x' e hs hk0 => by
      rw [cut_word x A (pcR r) g nx acc k c x' e (fun d hd => (h1 d hd).1) hn hs, hz _ (Nat.le_refl _), tks, if_neg hk0, List.append_assoc]
    rw [pcR]
    rcases h2 with ⟨rfl, rfl⟩ | ⟨rfl, ⟨c, x', e, hc⟩, hl, h128, hB⟩ | ⟨rfl, ⟨c, x', e⟩, hl, hnum, hB⟩ | ⟨rfl, c, rfl, hc, h34, h35, hl⟩
    · obtain ⟨_, k2, k3⟩ := txt_at A (pcR r) 32 (by decide)
      have hs := step_gap A (pcR r)
      have hz' := hz nx (by rw [wr_append, List.length_append]; omega) acc
      rw [wr_append, List.length_append] at hz'
      rw [List.singleton_append] at hz' ⊢
      rw [List.length_singleton, cut_step _ _ _ _ _ _ k3 (by omega), hs]
      dsimp only
      rw [k2, tks, if_pos rfl, List.nil_append]
      exact hz'
    · exact hw c x' e (step_name x A (pcR r) c x' e hc (fun d hd => ⟨(h1 d hd).1, hl d hd⟩) h128 hB) (by decide)
    · exact hw c x' e (step_num x A (pcR r) c x' e (fun d hd => ⟨(h1 d hd).1, hl d hd⟩) hB hnum) (by decide)
    · exact hw c [] rfl (step_mark A (pcR r) c (h1 c List.mem_cons_self).1 hc h34 h35 hl) (by decide)
theorem cut_told (r : List Pc) (h : okP r) : cutR (txt (pcR r)) = (tks 0 r, 0, 0) := by
  have := cut_pcs r [] [] 0 ((txt (pcR r)).size + 1) h (Nat.zero_le _) (by rw [txt_sz]; have := wr_ge (pcR r); omega)
  unfold cutR
  rw [List.nil_append, List.nil_append] at this
  exact this
theorem pc_no10 : ∀ (r : List Pc), okP r → ∀ c ∈ pcR r, (code c : Int) = c ∧ c ≠ 10
  | [], _, c, hc => by cases hc
  | (k, x) :: r, h, c, hc => by
    rw [pcR] at hc
    rcases List.mem_append.1 hc with hc | hc
    · exact h.1 c hc
    · exact pc_no10 r h.2.2 c hc
theorem enc_no10 {c : Int} (h : (code c : Int) ≠ 10) : ∀ b ∈ (Utf8.encode c).data.toList, b ≠ 10 := by
  have hok := code_ok c
  rw [enc_list]
  generalize code c = k at *
  intro b hb e
  subst e
  have hof : ∀ n : Nat, n < 256 → n ≠ 10 → (10 : UInt8) ≠ UInt8.ofNat n := fun n h1 h2 e => by
    have := congrArg UInt8.toNat e
    rw [ofNat8 n h1] at this
    exact h2 this.symm
  split at hb
  · rcases List.mem_singleton.1 hb with e
    exact hof _ (by omega) (by omega) e
  · split at hb
    · simp only [List.mem_cons, List.not_mem_nil, or_false] at hb
      rcases hb with e | e <;> exact hof _ (by omega) (by omega) e
    · split at hb
      · simp only [List.mem_cons, List.not_mem_nil, or_false] at hb
        rcases hb with e | e | e <;> exact hof _ (by omega) (by omega) e
      · simp only [List.mem_cons, List.not_mem_nil, or_false] at hb
        rcases hb with e | e | e | e <;> exact hof _ (by omega) (by omega) e
theorem wr_no10 : ∀ (l : List Int), (∀ c ∈ l, (code c : Int) = c ∧ c ≠ 10) → ∀ b ∈ wr l, b ≠ 10
  | [], _, b, hb => by cases hb
  | c :: l, h, b, hb => by
    rw [wr] at hb
    rcases List.mem_append.1 hb with hb | hb
    · exact enc_no10 (by have := h c List.mem_cons_self; omega) b hb
    · exact wr_no10 l (fun d hd => h d (List.mem_cons_of_mem _ hd)) b hb
theorem lines_told (r : List Pc) (h : okP r) : linesOf (txt (pcR r)) = [txt (pcR r)] := by
  have hn : nlAt (txt (pcR r)) < 0 := by
    rcases Int.lt_or_le (nlAt (txt (pcR r))) 0 with k | k
    · exact k
    · obtain ⟨o, ho⟩ := Int.eq_ofNat_of_zero_le k
      have h2 := (Lib.indexByte_some (o := o) ho).1
      have hm := List.mem_of_getElem? h2
      rw [txt_data] at hm
      exact absurd rfl (wr_no10 _ (pc_no10 r h) 10 hm)
  unfold linesOf
  exact lines_last hn
/-- The words of a text that is told, its line's end with them. -/
def wds (r : List Pc) : List Tk4 := (tks 0 r).map (fun x => (x.1, x.2.1, (1 : Int), ((x.2.2 : Nat) : Int))) ++ [(1, ⟨#[10]⟩, 1, (((pcR r).length + 1 : Nat) : Int))]
theorem flat_tk (ln : Nat) : ∀ l : List Tok, flatT ln l = (l.map (fun x => ((x.1, x.2.1, (ln : Int), ((x.2.2 : Nat) : Int)) : Tk4))).flatMap (fun x => (tkC x).toList)
  | [] => rfl
  | (k, t, c) :: l => by
    rw [flatT, flat_tk ln l, List.map_cons, List.flatMap_cons]
    rfl
theorem starts_told (l : List Int) : (starts (txt l)).length = l.length := by
  have h := (starts_wr (txt l) l [] (txt l).size (by rw [txt_data]; rfl) (by simp)).1
  exact h
theorem told_rows (r : List Pc) (h : okP r) (hne : tks 0 r ≠ []) : badL (linesOf (txt (pcR r))) = none ∧ kkL (linesOf (txt (pcR r))) = (wds r).length ∧ xxL 0 (linesOf (txt (pcR r))) = (wds r).flatMap (fun x => (tkC x).toList) := by
  have hl : (tks 0 r).length ≠ 0 := fun e => hne (List.eq_nil_of_length_eq_zero e)
  rw [lines_told r h]
  refine ⟨?_, ?_, ?_⟩
  · rw [badL, cut_told r h]; rfl
  · rw [kkL, kkL, lineN, cut_told r h]
    dsimp only
    rw [if_neg hl, wds, List.length_append, List.length_map]
    rfl
  · rw [xxL, xxL, lineT, cut_told r h]
    dsimp only
    rw [if_neg hl, wds, List.flatMap_append, List.append_nil, flat_tk (0 + 1) (tks 0 r), starts_told]
    rfl
end Go.Proofs.YtnkpohkodkjkfaaGreatDoor
namespace Go.Proofs.YtnkpohkodkjkfaaGreatDoor
open Go.RowKit Go.Shelf Go.Lib

/-- Behind the word: what lies where. -/
structure JK (nb wb b4 b5 : Nat) (l : List Tk4) (i : Nat) (x : Tk4) (w W : World) : Prop where
  tk : Tk nb wb l i W
  r4 : W.heap[b4]? = some (.cells #[.int .i64 0, .string ⟨#[]⟩, .int .i64 0, .int .i64 0] 56 (0, 0))
  r5 : W.heap[b5]? = some (.cells (tkC x) 56 (0, 0))
  ob : Ob nb w W
theorem JK.carry {nb wb b4 b5 : Nat} {l : List Tk4} {i : Nat} {x : Tk4} {w W V : World} (h : JK nb wb b4 b5 l i x w W) (hb : Below W.heap.size W V) : JK nb wb b4 b5 l i x w V := ⟨h.tk.carry hb, (hb.block _ (lt_at h.r4)).trans h.r4, (hb.block _ (lt_at h.r5)).trans h.r5, h.ob.trans (Ob.of hb)⟩
set_option maxHeartbeats 8000000 in
set_option maxRecDepth 100000 in
theorem take_yes (f : FuncId) (fc : Array Value) (hen : ∀ args w, (callFunc f args).run Tryz.prog w = .ok (.enter f args) w) {nb wb : Nat} {l : List Tk4} {i : Nat} {w : World} (h : Tk nb wb l i w) (x : Tk4) (hx : l[i]? = some x) (hl : l.length ≤ 1000000) (hf : ∀ V, Ob nb w V → Calls Tryz.prog f (#[tk4 x] ++ fc) V fun e w' => e = .returned (.bool true) ∧ Below V.heap.size V w') : Calls Tryz.prog 47 #[.func (.func f) #[] fc, .pointer (some ⟨nb, 0, none⟩), .pointer (some ⟨wb, 0, none⟩)] w fun e w' => e = .returned (tk4 x) ∧ Tk nb wb l (i + 1) w' ∧ Ob nb w w' := by
  have hmx : Tryz.prog.follows .mixedOrders = true := by kernel_rfl
  have hil : i < l.length := (List.getElem?_eq_some_iff.1 hx).1
  obtain ⟨ad, cap, hw1, hw2, hw3⟩ := h.wd
  obtain ⟨b, off, rfl, hb, hat⟩ := hw2 (fun e => by rw [e] at hil; simp at hil)
  have hbn := hw3 b off rfl
  have hnw : nb ≠ wb := fun e => by
    have := h.nx
    rw [e, hw1] at this
    simp only [Option.some.injEq, Obj.cells.injEq] at this
    exact absurd this.2.1 (by decide)
  have hnl := lt_at h.nx
  have hwl := lt_at hw1
  have HW0 : Hid (w.heap[wb]? = some (.cells #[.slice (some ⟨b, off, none⟩) l.length cap] 52 (0, 0))) := hw1
  have HRK : Hid (RdK w (some ⟨b, off, none⟩) l) := hw2
  have HAT : Hid (∀ (j : Nat) (v : Value), (tkC x)[j]? = some v → w.cell? ⟨b, off + i * 4 + j, none⟩ = some v) := hat i x hx
  obtain ⟨n, hN⟩ : ∃ n, l.length = n := ⟨_, rfl⟩
  rw [hN] at hil hl hw1
  obtain ⟨W1, hW1⟩ : ∃ W1, w.alloc (.cells #[.int .i64 0, .string ⟨#[]⟩, .int .i64 0, .int .i64 0] 56) = W1 := ⟨_, rfl⟩
  have hb1 : Below w.heap.size w W1 := by rw [← hW1]; exact al1t _ _
  have hs1 : W1.heap.size = w.heap.size + 1 := by rw [← hW1]; simp
  have hr1 : W1.heap[w.heap.size]? = some (.cells #[.int .i64 0, .string ⟨#[]⟩, .int .i64 0, .int .i64 0] 56 (0, 0)) := by rw [← hW1]; exact new_at rfl
  obtain ⟨W2, hW2⟩ : ∃ W2, W1.alloc (.cells #[.int .i64 0, .string ⟨#[]⟩, .int .i64 0, .int .i64 1] 56) = W2 := ⟨_, rfl⟩
  have hb2 : Below W1.heap.size W1 W2 := by rw [← hW2]; exact al1t _ _
  have hr5 : W2.heap[W1.heap.size]? = some (.cells #[.int .i64 0, .string ⟨#[]⟩, .int .i64 0, .int .i64 1] 56 (0, 0)) := by rw [← hW2]; exact new_at rfl
  have hb02 : Below w.heap.size w W2 := hb1.trans (hb2.mono (by omega))
  have hr4 := (hb2.block _ (lt_at hr1)).trans hr1
  have n2 := (hb02.block _ hnl).trans h.nx
  have d2 := (hb02.block _ hwl).trans hw1
  obtain ⟨W3, hW3⟩ : ∃ W3, W2.setRow W1.heap.size (tkC x) = W3 := ⟨_, rfl⟩
  have o3 : ∀ q, q ≠ W1.heap.size → W3.heap[q]? = W2.heap[q]? := fun q hq => by rw [← hW3]; exact Go.setRow_other _ _ _ _ hq
  have r53 : W3.heap[W1.heap.size]? = some (.cells (tkC x) 56 (0, 0)) := by rw [← hW3]; exact setRow_heap _ _ _ _ _ _ hr5
  have s3 : W3.heap.size = W2.heap.size := by rw [← hW3]; simp [World.setRow]
  have n3 := (o3 nb (by omega)).trans n2
  obtain ⟨W4, hW4⟩ : ∃ W4, W3.setCell ⟨nb, 0, none⟩ (.int .i64 ((i : Int) + 1)) = W4 := ⟨_, rfl⟩
  have o4 : ∀ q, q ≠ nb → W4.heap[q]? = W3.heap[q]? := fun q hq => by rw [← hW4]; exact Below.heap_setCell _ _ _ _ hq
  have s4 : W4.heap.size = W3.heap.size := by rw [← hW4]; simp [World.setCell]
  have n4 : W4.heap[nb]? = some (.cells #[.int .i64 ((i : Int) + 1)] 3 (0, 0)) := by
    rw [← hW4]
    have := heap_setCell_same _ _ 0 _ _ (.int .i64 ((i : Int) + 1)) n3
    simpa using this
  have hs2 := hb2.size
  have hob : Ob nb w W4 := ⟨by rw [← hW4, ← hW3]; exact hb02.os, by rw [← hW4, ← hW3]; exact hb02.tape, by rw [← hW4, ← hW3]; exact hb02.output, by omega, fun q h1 h2 => (o4 q h2).trans ((o3 q (by omega)).trans (hb02.block q h1))⟩
  have hj4 : JK nb wb w.heap.size W1.heap.size l (i + 1) x w W4 := ⟨⟨by rw [n4]; simp, some ⟨b, off, none⟩, cap, (hob.block wb hwl (Ne.symm hnw)).trans (by rw [hN]; exact hw1), HRK.out.at hob.size (fun b' off' e h1 => by cases e; exact hob.block b h1 hbn), fun b' off' e => by cases e; exact hbn⟩, (o4 _ (by omega)).trans ((o3 _ (by omega)).trans hr4), (o4 _ (by omega)).trans r53, hob⟩
  have HJ4 : Hid (JK nb wb w.heap.size W1.heap.size l (i + 1) x w W4) := hj4
  have HX : Hid (∀ V, Ob nb w V → Calls Tryz.prog f (#[tk4 x] ++ fc) V fun e w' => e = .returned (.bool true) ∧ Below V.heap.size V w') := hf
  have HEN : Hid (∀ args w, (callFunc f args).run Tryz.prog w = .ok (.enter f args) w) := hen
  have q1 : W2.cell? ⟨nb, 0, none⟩ = some (.int .i64 (i : Int)) := (cell_at n2 0).trans rfl
  have q2 : W2.cell? ⟨wb, 0, none⟩ = some (.slice (some ⟨b, off, none⟩) n cap) := (cell_at d2 0).trans rfl
  have q3 : W3.cell? ⟨nb, 0, none⟩ = some (.int .i64 (i : Int)) := (cell_at n3 0).trans rfl
  have z3 := thaw_at n3 0
  have hii : (i : Int) < (n : Int) := by omega
  have hix := idx_tk b off n cap i hil
  have e0 : W2.cell? ⟨b, off + i * 4, none⟩ = some (.int .i64 x.1) := (hb02.cell (p := ⟨b, _, none⟩) hb).trans (HAT.out 0 _ rfl)
  have e1 : W2.cell? ⟨b, off + i * 4 + 1, none⟩ = some (.string x.2.1) := (hb02.cell (p := ⟨b, _, none⟩) hb).trans (HAT.out 1 _ rfl)
  have e2 : W2.cell? ⟨b, off + i * 4 + 2, none⟩ = some (.int .i64 x.2.2.1) := (hb02.cell (p := ⟨b, _, none⟩) hb).trans (HAT.out 2 _ rfl)
  have e3 : W2.cell? ⟨b, off + i * 4 + 3, none⟩ = some (.int .i64 x.2.2.2) := (hb02.cell (p := ⟨b, _, none⟩) hb).trans (HAT.out 3 _ rfl)
  clear hj4 hf hen hat hw2 hw3 hx h hr1 hb1 hb2 hb02 hob o3 o4 n4 n3 r53 hr4 hN d2 n2 hs1 s3 s4 hs2
  go_enter Tryz.func47, Tryz.ntmps47
  go_wp2_with (refine wpList_store_row rfl 56 (.tmp 5) (.tmp 14) rfl W1.heap.size (tkC x) rfl rfl 56 _ hr5 infoTk rfl (by simp [tkC, Value.oneCell']) ?_; rw [hW3])
  rename_i Q0 K0 hK
  refine wp_region_any hmx ?_
  refine wpAny_tabG (G := (Unit)) (fun g i__ => ([(.func (.func f) #[] fc), (tk4 x), (.bool true), (.bool false), (tk4 x), (.tuple #[])] : List Value).getD i__ undef) (fun _ d V => JK nb wb w.heap.size W1.heap.size l (i + 1) x w V) (by kernel_rfl) (()) (HJ4.out.carry (Below.refl _ _).drew) ?step4 ?fin4
  case step4 =>
    intro i o ho
    have hi : i < 6 := getElem?_lt ho
    match i, hi, ho with
    | 0, _, ho =>
      cases ho
      refine stepG_of (fun g d hdep => ?_)
      exact step_move rfl trivial _ rfl (by kernel_rfl)
    | 1, _, ho =>
      cases ho
      refine stepG_of (fun g d hdep => ?_)
      exact step_load rfl trivial _ _ _ rfl rfl (fun v hw => box_tk hw.r5)
    | 2, _, ho =>
      cases ho
      exact stepG_callv rfl (fun _ => trivial) f _ _ _ fc (fun _ => [tk4 x]) rfl (fun g => by kernel_rfl) (fun g => by kernel_rfl) HEN.out (fun g d V hJ hun hdep hcl => (HX.out V hJ.ob).mono (by rintro e w' ⟨rfl, hb'⟩; exact ⟨(), rfl, (fun _ _ => rfl), hJ.carry hb'⟩))
    | 3, _, ho =>
      cases ho
      refine stepG_of (fun g d hdep => ?_)
      exact step_unOp rfl trivial _ _ _ _ rfl rfl (fun v hw => un_notT true v)
    | 4, _, ho =>
      cases ho
      refine stepG_of (fun g d hdep => ?_)
      exact step_load rfl trivial _ _ _ rfl rfl (fun v hw => box_tk hw.r5)
    | 5, _, ho =>
      cases ho
      exact stepG_call rfl (fun _ => trivial) 48 _ _ (fun _ => [.bool false, .int .i64 80, tk4 x]) rfl (fun g => by kernel_rfl) (enters_of Tryz.func48 (by kernel_rfl) rfl) (fun g d V hJ hun hdep hcl => (trefuse_no 80 x.1 x.2.2.1 x.2.2.2 x.2.1 V).mono (by rintro e w' ⟨rfl, hb'⟩; exact ⟨(), rfl, (fun _ _ => rfl), hJ.carry hb'⟩))
  intro g d W hall hW
  first | refine hK _ _ ?_ | refine (‹∀ (a : Act) (w : World), Code.wp Tryz.prog _ _ a w → _›) _ _ ?_ | skip
  simp only [finL, List.getD_cons_zero, List.getD_cons_succ, Nat.zero_add, Nat.reduceAdd, List.setIfInBounds_toArray, List.set_cons_zero, List.set_cons_succ]
  have hjW : JK nb wb w.heap.size W1.heap.size l (i + 1) x w W := hW
  have hlw := box_tk hjW.r5
  unfold tk4 tkV at hlw
  have p0 : W.cell? ⟨W1.heap.size, 0, none⟩ = some (.int .i64 x.1) := (cell_at hjW.r5 0).trans rfl
  have p1 : W.cell? ⟨W1.heap.size, 1, none⟩ = some (.string x.2.1) := (cell_at hjW.r5 1).trans rfl
  have p2 : W.cell? ⟨W1.heap.size, 2, none⟩ = some (.int .i64 x.2.2.1) := (cell_at hjW.r5 2).trans rfl
  have p3 : W.cell? ⟨W1.heap.size, 3, none⟩ = some (.int .i64 x.2.2.2) := (cell_at hjW.r5 3).trans rfl
  have hr4 := hjW.r4
  obtain ⟨W6, hW6⟩ : ∃ W6, W.setRow w.heap.size (tkC x) = W6 := ⟨_, rfl⟩
  have o6 : ∀ q, q ≠ w.heap.size → W6.heap[q]? = W.heap[q]? := fun q hq => by rw [← hW6]; exact Go.setRow_other _ _ _ _ hq
  have r6 : W6.heap[w.heap.size]? = some (.cells (tkC x) 56 (0, 0)) := by rw [← hW6]; exact setRow_heap _ _ _ _ _ _ hr4
  have s6 : W6.heap.size = W.heap.size := by rw [← hW6]; simp [World.setRow]
  have hsW := hjW.ob.size
  have HF : Hid (Tk nb wb l (i + 1) W6 ∧ Ob nb w W6) := by
    have hob6 : Ob nb w W6 := ⟨by rw [← hW6]; exact hjW.ob.os, by rw [← hW6]; exact hjW.ob.tape, by rw [← hW6]; exact hjW.ob.output, by omega, fun q h1 h2 => (o6 q (by omega)).trans (hjW.ob.block q h1 h2)⟩
    exact ⟨⟨(o6 nb (by omega)).trans hjW.tk.nx, some ⟨b, off, none⟩, cap, (o6 wb (by omega)).trans ((hjW.ob.block wb hwl (Ne.symm hnw)).trans HW0.out), HRK.out.at hob6.size (fun b' off' e h1 => by cases e; exact hob6.block b h1 hbn), fun b' off' e => by cases e; exact hbn⟩, hob6⟩
  clear hW hjW hall hK HJ4 s6 o6 hsW
  go_wp2_with (refine wpList_store_row rfl 56 (.tmp 4) (.tmp 23) rfl w.heap.size (tkC x) rfl rfl 56 _ hr4 infoTk rfl (by simp [tkC, Value.oneCell']) ?_; rw [hW6])
  refine retTk (x := x) rfl rfl rfl r6 ?_
  exact ⟨rfl, HF.out⟩
end Go.Proofs.YtnkpohkodkjkfaaGreatDoor
