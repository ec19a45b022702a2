/- The three notes behind their interface: assertions and calls. -/
import Derived.Test.YtndogopllcpiiaaWrx
import Derived.Test.YtndogopllcpiiaaWrn
import Derived.Test.YtndogopllcpiiaaWrf
import Derived.Test.YtndogopllcpiiaaWrj
import Derived.Test.YtndogopllcpiiaaRnv
import Derived.Test.YtndogopllcpiiaaOpb
namespace Go.Proofs.Ytndogopllcpiiaa
open Go.RowKit Go.Shelf

def qZ : Value := .agg #[.int .i64 0, .int .i64 0, .slice none 0 0]
def pZ : Value := .agg #[.int .i64 0, .int .i64 0, .int .u32 0, .int .u32 0, .int .u32 0, .int .u32 0, .slice none 0 0]
def uZ : Value := .agg #[.int .i64 0, .slice none 0 0]
theorem asQ_Q (v : Value) (w : World) : (Instr.typeAssert (.iface 47 v) 25 47 true).run Try.prog w = .ok (.tuple #[v, .bool true]) w := by kernel_rfl
theorem asQ_P (v : Value) (w : World) : (Instr.typeAssert (.iface 47 v) 25 50 true).run Try.prog w = .ok (.tuple #[pZ, .bool false]) w := by kernel_rfl
theorem asQ_U (v : Value) (w : World) : (Instr.typeAssert (.iface 47 v) 25 53 true).run Try.prog w = .ok (.tuple #[uZ, .bool false]) w := by kernel_rfl
theorem asP_Q (v : Value) (w : World) : (Instr.typeAssert (.iface 50 v) 25 47 true).run Try.prog w = .ok (.tuple #[qZ, .bool false]) w := by kernel_rfl
theorem asP_P (v : Value) (w : World) : (Instr.typeAssert (.iface 50 v) 25 50 true).run Try.prog w = .ok (.tuple #[v, .bool true]) w := by kernel_rfl
theorem asP_U (v : Value) (w : World) : (Instr.typeAssert (.iface 50 v) 25 53 true).run Try.prog w = .ok (.tuple #[uZ, .bool false]) w := by kernel_rfl
theorem asU_Q (v : Value) (w : World) : (Instr.typeAssert (.iface 53 v) 25 47 true).run Try.prog w = .ok (.tuple #[qZ, .bool false]) w := by kernel_rfl
theorem asU_P (v : Value) (w : World) : (Instr.typeAssert (.iface 53 v) 25 50 true).run Try.prog w = .ok (.tuple #[pZ, .bool false]) w := by kernel_rfl
theorem asU_U (v : Value) (w : World) : (Instr.typeAssert (.iface 53 v) 25 53 true).run Try.prog w = .ok (.tuple #[v, .bool true]) w := by kernel_rfl
theorem asN_Q (w : World) : (Instr.typeAssert .nilIface 25 47 true).run Try.prog w = .ok (.tuple #[qZ, .bool false]) w := by kernel_rfl
theorem asN_P (w : World) : (Instr.typeAssert .nilIface 25 50 true).run Try.prog w = .ok (.tuple #[pZ, .bool false]) w := by kernel_rfl
theorem asN_U (w : World) : (Instr.typeAssert .nilIface 25 53 true).run Try.prog w = .ok (.tuple #[uZ, .bool false]) w := by kernel_rfl
theorem nil_no (t : TypeId) (v : Value) (w : World) : (binOp .eql 25 (.iface t v) .nilIface).run Try.prog w = .ok (.bool false) w := by kernel_rfl
theorem nil_yes (w : World) : (binOp .eql 25 .nilIface .nilIface).run Try.prog w = .ok (.bool true) w := by kernel_rfl
theorem invQ_Kind (v : Value) (w : World) : (method 226 47 v "Kind").run Try.prog w = .ok (32, v) w := by kernel_rfl
theorem invQ_Sender (v : Value) (w : World) : (method 226 47 v "Sender").run Try.prog w = .ok (95, v) w := by kernel_rfl
theorem invQ_Bytes (v : Value) (w : World) : (method 226 47 v "Bytes").run Try.prog w = .ok (29, v) w := by kernel_rfl
theorem invQ_Notices (v : Value) (w : World) : (method 226 47 v "Notices").run Try.prog w = .ok (50, v) w := by kernel_rfl
theorem kindQ_any (f r : Int) (a : Option Addr) (m c : Nat) (w : World) : Calls Try.prog 32 #[.agg #[.int .i64 f, .int .i64 r, .slice a m c]] w fun e w' => e = .returned (.int .i64 1) ∧ Below w.heap.size w w' := by
  go_enter Try.func32, Try.ntmps32
  go_wp2
  go_ret
  exact ⟨rfl, by first | exact Below.refl _ _ | exact al1' w _⟩
theorem senderQ_any (f r : Int) (a : Option Addr) (m c : Nat) (w : World) : Calls Try.prog 95 #[.agg #[.int .i64 f, .int .i64 r, .slice a m c]] w fun e w' => e = .returned (.int .i64 f) ∧ Below w.heap.size w w' := by
  go_enter Try.func95, Try.ntmps95
  go_wp2
  go_ret
  exact ⟨rfl, by first | exact Below.refl _ _ | exact al1' w _⟩
theorem invP_Kind (v : Value) (w : World) : (method 226 50 v "Kind").run Try.prog w = .ok (33, v) w := by kernel_rfl
theorem invP_Sender (v : Value) (w : World) : (method 226 50 v "Sender").run Try.prog w = .ok (98, v) w := by kernel_rfl
theorem invP_Bytes (v : Value) (w : World) : (method 226 50 v "Bytes").run Try.prog w = .ok (97, v) w := by kernel_rfl
theorem invP_Notices (v : Value) (w : World) : (method 226 50 v "Notices").run Try.prog w = .ok (51, v) w := by kernel_rfl
theorem kindP_any (f r x0 x1 x2 x3 : Int) (a : Option Addr) (m c : Nat) (w : World) : Calls Try.prog 33 #[.agg #[.int .i64 f, .int .i64 r, .int .u32 x0, .int .u32 x1, .int .u32 x2, .int .u32 x3, .slice a m c]] w fun e w' => e = .returned (.int .i64 2) ∧ Below w.heap.size w w' := by
  go_enter Try.func33, Try.ntmps33
  go_wp2
  go_ret
  exact ⟨rfl, by first | exact Below.refl _ _ | exact al1' w _⟩
theorem senderP_any (f r x0 x1 x2 x3 : Int) (a : Option Addr) (m c : Nat) (w : World) : Calls Try.prog 98 #[.agg #[.int .i64 f, .int .i64 r, .int .u32 x0, .int .u32 x1, .int .u32 x2, .int .u32 x3, .slice a m c]] w fun e w' => e = .returned (.int .i64 f) ∧ Below w.heap.size w w' := by
  go_enter Try.func98, Try.ntmps98
  go_wp2
  go_ret
  exact ⟨rfl, by first | exact Below.refl _ _ | exact al1' w _⟩
theorem invU_Kind (v : Value) (w : World) : (method 226 53 v "Kind").run Try.prog w = .ok (34, v) w := by kernel_rfl
theorem invU_Sender (v : Value) (w : World) : (method 226 53 v "Sender").run Try.prog w = .ok (101, v) w := by kernel_rfl
theorem invU_Bytes (v : Value) (w : World) : (method 226 53 v "Bytes").run Try.prog w = .ok (100, v) w := by kernel_rfl
theorem invU_Notices (v : Value) (w : World) : (method 226 53 v "Notices").run Try.prog w = .ok (52, v) w := by kernel_rfl
theorem kindU_any (f : Int) (a : Option Addr) (m c : Nat) (w : World) : Calls Try.prog 34 #[.agg #[.int .i64 f, .slice a m c]] w fun e w' => e = .returned (.int .i64 3) ∧ Below w.heap.size w w' := by
  go_enter Try.func34, Try.ntmps34
  go_wp2
  go_ret
  exact ⟨rfl, by first | exact Below.refl _ _ | exact al1' w _⟩
theorem senderU_any (f : Int) (a : Option Addr) (m c : Nat) (w : World) : Calls Try.prog 101 #[.agg #[.int .i64 f, .slice a m c]] w fun e w' => e = .returned (.int .i64 f) ∧ Below w.heap.size w w' := by
  go_enter Try.func101, Try.ntmps101
  go_wp2
  go_ret
  exact ⟨rfl, by first | exact Below.refl _ _ | exact al1' w _⟩
end Go.Proofs.Ytndogopllcpiiaa
namespace Go.Proofs.Ytndogopllcpiiaa
open Go.RowKit Go.Shelf

theorem idx_bz (b off len cap k : Nat) (h : k < len) (W : World) : (Instr.indexAt 22 (.slice (some ⟨b, off, none⟩) len cap) (.int .i64 (k : Int))).run Try.prog W = .ok (.pointer (some ⟨b, off + k, none⟩)) W := idx_b b off len cap k h W
theorem un_notB (x : Bool) (w : World) : (Op.unary .not (.bool x)).run Try.prog w = .ok (.bool (!x)) w := rfl
set_option maxHeartbeats 1000000 in
set_option maxRecDepth 100000 in
theorem sameB_yes (ad ad' : Option Addr) (cap cap' : Nat) (l : List Nat) (w : World) (h : RdB w ad l) (h' : RdB w ad' l) (hl : l.length ≤ 4611686018427387904) : Calls Try.prog 20 #[.slice ad l.length cap, .slice ad' l.length cap'] w fun e w' => e = .returned (.bool true) ∧ Below w.heap.size w w' := by
  have hmx : Try.prog.follows .mixedOrders = true := by kernel_rfl
  go_enter Try.func20, Try.ntmps20
  go_wp2
  go_loopw [5] (fun c wz => ∃ k : Nat, c = .int .i64 k ∧ k ≤ l.length ∧ Below w.heap.size w wz) (fun c _ => l.length - vnatW c)
  case atStart => exact ⟨0, rfl, Nat.zero_le _, Below.refl _ _⟩
  case round =>
    obtain ⟨k, rfl, hk, hbw⟩ := hrel
    by_cases hkl : k < l.length
    · have hki : (k : Int) < (l.length : Int) := by omega
      have hne : l ≠ [] := fun e => by subst e; simp at hkl
      obtain ⟨g, off, rfl, hgl, hat⟩ := h hne
      obtain ⟨g', off', rfl, hgl', hat'⟩ := h' hne
      obtain ⟨x, hx⟩ := get_lt hkl
      have c0 := hat k x hx
      have c0' := hat' k x hx
      go_wp2
      refine wp_region_any hmx ?_
      refine wpAny_pure (fun i__ => ([(.slice (some ⟨g, off, none⟩) l.length cap), (.int .i64 (k : Int)), (.pointer (some ⟨g, off + k, none⟩)), (.int .u8 (x : Int)), (.slice (some ⟨g', off', none⟩) l.length cap'), (.int .i64 (k : Int)), (.pointer (some ⟨g', off' + k, none⟩)), (.int .u8 (x : Int)), (.bool true), (.bool false)] : List Value).getD i__ undef) (fun W => Below w.heap.size w W) (by kernel_rfl) hbw.drew ?_ ?_
      · refine (stepsFrom_cons ?_ (stepsFrom_cons ?_ (stepsFrom_cons ?_ (stepsFrom_cons ?_ (stepsFrom_cons ?_ (stepsFrom_cons ?_ (stepsFrom_cons ?_ (stepsFrom_cons ?_ (stepsFrom_cons ?_ (stepsFrom_cons ?_ trivial))))))))))
        · exact step_move rfl trivial _ rfl (by kernel_rfl)
        · exact step_move rfl trivial _ rfl (by kernel_rfl)
        · exact step_indexAddr rfl trivial _ _ _ _ _ rfl rfl rfl (fun w hw => idx_bz g off _ _ k hkl w)
        · exact step_load rfl trivial _ _ _ rfl rfl (fun w hw => load_b ((hw.cell (p := ⟨g, off + k, none⟩) hgl).trans c0))
        · exact step_move rfl trivial _ rfl (by kernel_rfl)
        · exact step_move rfl trivial _ rfl (by kernel_rfl)
        · exact step_indexAddr rfl trivial _ _ _ _ _ rfl rfl rfl (fun w hw => idx_bz g' off' _ _ k hkl w)
        · exact step_load rfl trivial _ _ _ rfl rfl (fun w hw => load_b ((hw.cell (p := ⟨g', off' + k, none⟩) hgl').trans c0'))
        · exact step_binOp rfl trivial _ _ _ _ _ _ _ rfl rfl rfl (fun w hw => (bin_eql .u8 _ _).trans (by simp))
        · exact step_unOp rfl trivial _ _ _ _ rfl rfl (fun w hw => un_notB true w)
      intro W hW
      first | refine hK _ _ ?_ | refine (‹∀ (a : Act) (w : World), Code.wp Try.prog _ _ a w → _›) _ _ ?_
      simp only [finL, List.getD_cons_zero, List.getD_cons_succ, Nat.zero_add, Nat.reduceAdd, List.setIfInBounds_toArray, List.set_cons_zero, List.set_cons_succ]
      go_wp2
      go_roundw
      case rel => exact ⟨k + 1, by simp, by omega, hW⟩
      case measure => simp [vnatW]; omega
    · have hkk : k = l.length := by omega
      subst hkk
      have hki : ¬ ((l.length : Int) < (l.length : Int)) := by omega
      go_wp2
      go_ret
      exact ⟨rfl, hbw⟩
end Go.Proofs.Ytndogopllcpiiaa
namespace Go.Proofs.Ytndogopllcpiiaa
open Go.RowKit Go.Shelf

theorem RdN.own {W : World} {base : Nat} {a : Option Addr} {c : Nat} {l : List (Int × Int × Int)} (h : W.ownsRow base 82 3 (.slice a l.length c) l.length (fl l)) : RdN W a l := by
  intro hne
  rcases own_form h with ⟨_, e⟩ | ⟨g, cap, e, h1, h2, h3⟩
  · exact absurd (List.length_eq_zero_iff.1 e) hne
  · cases e
    exact ⟨g, 0, rfl, h2, nts_own h rfl⟩
theorem bo_ok {kd fr rd N : Nat} {n : Int} {l : List (Int × Int × Int)} {W W' : World} {e : Ending} (h : BO kd n fr rd N l W e W') (hf : flt kd n fr rd N l = 0) : ∃ b2 c2, e = .returned (.tuple #[.slice b2 (byt7 kd n.toNat fr rd N l).length c2, .int .i64 0]) ∧ W'.ownsRow W.heap.size 5 1 (.slice b2 (byt7 kd n.toNat fr rd N l).length c2) (byt7 kd n.toNat fr rd N l).length (cB (byt7 kd n.toNat fr rd N l)) ∧ RdB W' b2 (byt7 kd n.toNat fr rd N l) ∧ (byt7 kd n.toNat fr rd N l).length ≤ c2 ∧ Below W.heap.size W W' := by
  obtain ⟨b, rfl, ho, hb⟩ := h
  rw [fb7, if_pos hf, Int.toNat_natCast, Int.toNat_natCast] at ho
  have ho2 := ho.out
  obtain ⟨ad, cap, rfl, hr⟩ := RdB.own ho2
  refine ⟨ad, cap, by rw [hf], ho2, hr, ?_, hb⟩
  rcases own_form ho2 with ⟨e1, e2⟩ | ⟨g, c, e1, _, _, h3⟩
  · omega
  · cases e1
    exact h3
theorem bo_no {kd N : Nat} {n fr rd : Int} {l : List (Int × Int × Int)} {W W' : World} {e : Ending} (h : BO kd n fr rd N l W e W') (hf : ¬ flt kd n fr rd N l = 0) : ∃ b2 c2, e = .returned (.tuple #[.slice b2 0 c2, .int .i64 (flt kd n fr rd N l)]) ∧ Below W.heap.size W W' := by
  obtain ⟨b, rfl, ho, hb⟩ := h
  rw [fb7, if_neg hf] at ho
  rcases own_form ho.out with ⟨rfl, _⟩ | ⟨g, c, rfl, _, _, _⟩
  · exact ⟨none, 0, rfl, hb⟩
  · exact ⟨_, c, rfl, hb⟩
end Go.Proofs.Ytndogopllcpiiaa
namespace Go.Proofs.Ytndogopllcpiiaa
open Go.RowKit Go.Shelf

theorem al2x (w : World) (a b : Obj) : Below w.heap.size w ((w.alloc a).alloc b) := ((Below.refl w.heap.size w).alloc (Nat.le_refl _) a).alloc (by simp) b
theorem retRN {f : Func} {q : Tmp} {R : Ending → World → Prop} {a : Act} {w : World} {b : Nat} {k fr rd : Int} {N : Nat} {v : Value} (hres : f.results = #[.cell q 41]) (hp : a.tmps.getD q undef = .pointer (some ⟨b, 0, none⟩)) (hd : a.defers = []) (h : w.heap[b]? = some (.cells #[.int .i64 k, .int .i64 fr, .int .i64 rd, .int .u32 (wd N 0 : Nat), .int .u32 (wd N 1 : Nat), .int .u32 (wd N 2 : Nat), .int .u32 (wd N 3 : Nat), v] 41 (0, 0))) (hR : R (.returned (rnv k fr rd N v)) w) : bodyPost Try.prog f R .ret a w :=
  bodyPost_ret (results_cell_row hres a.tmps w b _ _ (0, 0) _ hp h Try.underlying41 rfl (by kernel_rfl)) hd hR
def kdN (k : Int) : Nat := if k = 1 then 1 else if k = 2 then 2 else 3
def krN (k r : Int) : Int := if k = 1 ∨ k = 2 then r else 0
def kNN (k : Int) (N : Nat) : Nat := if k = 2 then N else 0
set_option maxHeartbeats 1000000 in
set_option maxRecDepth 100000 in
theorem kind_any (k f r : Int) (N : Nat) (a : Option Addr) (m c : Nat) (w : World) : Calls Try.prog 12 #[rnv k f r N (.slice a m c)] w fun e w' => e = .returned (rnv (kdN k) f (krN k r) (kNN k N) (.slice a m c)) ∧ Below w.heap.size w w' := by
  by_cases h1 : k = 1
  · subst h1
    rw [show kdN 1 = 1 from rfl, show krN 1 r = r from rfl, show kNN 1 N = 0 from rfl]
    unfold rnv
    go_enter Try.func12, Try.ntmps12
    go_wp2
    exact retRN (N := 0) rfl rfl rfl (new_at (by simp)) ⟨by simp [rnv], al2x w _ _⟩
  by_cases h2 : k = 2
  · subst h2
    rw [show kdN 2 = 2 from rfl, show krN 2 r = r from rfl, show kNN 2 N = N from rfl]
    unfold rnv
    go_enter Try.func12, Try.ntmps12
    go_wp2
    exact retRN (N := N) rfl rfl rfl (new_at (by simp)) ⟨by simp [rnv], al2x w _ _⟩
  rw [show kdN k = 3 by rw [kdN, if_neg h1, if_neg h2], show krN k r = 0 from if_neg (by omega), show kNN k N = 0 from if_neg h2]
  unfold rnv
  by_cases h3 : k < 1
  · go_enter Try.func12, Try.ntmps12
    go_wp2
    exact retRN (N := 0) rfl rfl rfl (new_at (by simp)) ⟨by simp [rnv], al2x w _ _⟩
  by_cases h4 : 3 < k
  · go_enter Try.func12, Try.ntmps12
    go_wp2
    exact retRN (N := 0) rfl rfl rfl (new_at (by simp)) ⟨by simp [rnv], al2x w _ _⟩
  obtain rfl : k = 3 := by omega
  go_enter Try.func12, Try.ntmps12
  go_wp2
  exact retRN (N := 0) rfl rfl rfl (new_at (by simp)) ⟨by simp [rnv], al2x w _ _⟩
set_option maxHeartbeats 1000000 in
set_option maxRecDepth 100000 in
theorem lay_any (kd : Nat) (f r : Int) (N : Nat) (a : Option Addr) (m c : Nat) (w : World) : Calls Try.prog 13 #[rnv kd f r N (.slice a m c)] w fun e w' => e = .returned (noteV kd f r N (.slice a m c)) ∧ Below w.heap.size w w' := by
  unfold noteV rnv
  by_cases h1 : kd = 1
  · rw [if_pos h1]
    subst h1
    go_enter Try.func13, Try.ntmps13
    go_wp2
    go_ret
    exact ⟨rfl, al1' w _⟩
  rw [if_neg h1]
  by_cases h2 : kd = 2
  · rw [if_pos h2]
    subst h2
    go_enter Try.func13, Try.ntmps13
    go_wp2
    go_ret
    exact ⟨rfl, al1' w _⟩
  rw [if_neg h2]
  have q1 : ((kd : Int) == 1) = false := by simp; omega
  have q2 : ((kd : Int) == 2) = false := by simp; omega
  go_enter Try.func13, Try.ntmps13
  go_wp2
  go_ret
  exact ⟨rfl, al1' w _⟩
theorem res2b {tmps : Array Value} {W : World} {a : Nat} {k fr rd : Int} {N : Nat} {v : Value} {y : Value} (h4 : tmps[2]?.getD undef = .pointer (some ⟨a, 0, none⟩)) (h5 : tmps[3]?.getD undef = y) (hx : W.heap[a]? = some (.cells #[.int .i64 k, .int .i64 fr, .int .i64 rd, .int .u32 (wd N 0 : Nat), .int .u32 (wd N 1 : Nat), .int .u32 (wd N 2 : Nat), .int .u32 (wd N 3 : Nat), v] 41 (0, 0))) : (results Try.f17 tmps).run Try.prog W = .ok (.tuple #[rnv k fr rd N v, y]) W := by
  have c0 := cell_at hx 0
  have c1 := cell_at hx 1
  have c2 := cell_at hx 2
  have c3 := cell_at hx 3
  have c4 := cell_at hx 4
  have c5 := cell_at hx 5
  have c6 := cell_at hx 6
  have c7 := cell_at hx 7
  simp at c0 c1 c2 c3 c4 c5 c6 c7
  simp [results, Try.results17, go_sem, h4, h5, c0, c1, c2, c3, c4, c5, c6, c7, rnv]
theorem as_nil (w : World) : Calls Try.prog 17 #[.nilIface] w fun e w' => e = .returned (.tuple #[rnv 0 0 0 0 (.slice none 0 0), .bool false]) ∧ Below w.heap.size w w' := by
  have s1 := asN_Q
  have s2 := asN_P
  have s3 := asN_U
  unfold qZ at s1
  unfold pZ at s2
  unfold uZ at s3
  go_enter Try.func17, Try.ntmps17
  go_wp2
  exact bodyPost_ret (res2b (N := 0) rfl rfl (new_at (by simp))) rfl ⟨rfl, al1' w _⟩
set_option maxHeartbeats 1000000 in
set_option maxRecDepth 100000 in
theorem as_any (kd : Nat) (hk : 1 ≤ kd ∧ kd ≤ 3) (f r : Int) (N : Nat) (h3 : kd = 3 → r = 0) (h2 : kd ≠ 2 → N = 0) (a : Option Addr) (m c : Nat) (w : World) : Calls Try.prog 17 #[noteV kd f r N (.slice a m c)] w fun e w' => e = .returned (.tuple #[rnv kd f r N (.slice a m c), .bool true]) ∧ Below w.heap.size w w' := by
  rcases (show kd = 1 ∨ kd = 2 ∨ kd = 3 by omega) with rfl | rfl | rfl
  · obtain rfl : N = 0 := h2 (by decide)
    rw [show noteV 1 f r 0 (.slice a m c) = .iface 47 (.agg #[.int .i64 f, .int .i64 r, .slice a m c]) from rfl]
    have s1 := asQ_Q
    go_enter Try.func17, Try.ntmps17
    go_wp2
    exact bodyPost_ret (res2b (N := 0) rfl rfl (old_at (new_at rfl))) rfl ⟨rfl, al2x w _ _⟩
  · rw [show noteV 2 f r N (.slice a m c) = .iface 50 (.agg #[.int .i64 f, .int .i64 r, .int .u32 (wd N 0 : Nat), .int .u32 (wd N 1 : Nat), .int .u32 (wd N 2 : Nat), .int .u32 (wd N 3 : Nat), .slice a m c]) from rfl]
    have s1 := asP_Q
    have s2 := asP_P
    unfold qZ at s1
    go_enter Try.func17, Try.ntmps17
    go_wp2
    exact bodyPost_ret (res2b (N := N) rfl rfl (old_at (new_at rfl))) rfl ⟨rfl, al2x w _ _⟩
  · obtain rfl : N = 0 := h2 (by decide)
    obtain rfl : r = 0 := h3 rfl
    rw [show noteV 3 f 0 0 (.slice a m c) = .iface 53 (.agg #[.int .i64 f, .slice a m c]) from rfl]
    have s1 := asU_Q
    have s2 := asU_P
    have s3 := asU_U
    unfold qZ at s1
    unfold pZ at s2
    go_enter Try.func17, Try.ntmps17
    go_wp2
    exact bodyPost_ret (res2b (N := 0) rfl rfl (old_at (new_at rfl))) rfl ⟨rfl, al2x w _ _⟩
set_option maxHeartbeats 1000000 in
set_option maxRecDepth 100000 in
theorem samen_any (k f r : Int) (N : Nat) (hN : N < S128) (a a' : Option Addr) (c c' : Nat) (l : List (Int × Int × Int)) (w : World) (h : RdN w a l) (h' : RdN w a' l) (hl : l.length ≤ 6000000000000) : Calls Try.prog 18 #[rnv k f r N (.slice a l.length c), rnv k f r N (.slice a' l.length c')] w fun e w' => e = .returned (.bool true) ∧ Below w.heap.size w w' := by
  have hb0 := al2x w (.cells #[.int .i64 k, .int .i64 f, .int .i64 r, .int .u32 (wd N 0 : Nat), .int .u32 (wd N 1 : Nat), .int .u32 (wd N 2 : Nat), .int .u32 (wd N 3 : Nat), .slice a l.length c] 41) (.cells #[.int .i64 k, .int .i64 f, .int .i64 r, .int .u32 (wd N 0 : Nat), .int .u32 (wd N 1 : Nat), .int .u32 (wd N 2 : Nat), .int .u32 (wd N 3 : Nat), .slice a' l.length c'] 41)
  have hsm := same_any a a' c c' l _ (h.carry hb0) (h'.carry hb0) hl
  have heq : ∀ w, (Op.equalIn 10000 38 (.agg #[.int .u32 (wd N 0 : Nat), .int .u32 (wd N 1 : Nat), .int .u32 (wd N 2 : Nat), .int .u32 (wd N 3 : Nat)]) (.agg #[.int .u32 (wd N 0 : Nat), .int .u32 (wd N 1 : Nat), .int .u32 (wd N 2 : Nat), .int .u32 (wd N 3 : Nat)])).run Try.prog w = .ok true w := fun w => by
    have h := eqn4 N N hN hN w
    unfold sv at h
    simpa using h
  unfold rnv
  go_enter Try.func18, Try.ntmps18
  go_wp2_with (go_at_call 21; (with_reducible refine hsm.mono ?_); rintro e u1 ⟨rfl, hb1⟩)
  go_ret
  exact ⟨rfl, bel2 hb0 hb1⟩
end Go.Proofs.Ytndogopllcpiiaa
namespace Go.Proofs.Ytndogopllcpiiaa
open Go.RowKit Go.Shelf
/-- A note of the document's in a box. -/
def RB (W : World) (b : Nat) (k f r : Int) (N : Nat) (v : Value) : Prop := W.heap[b]? = some (.cells #[.int .i64 k, .int .i64 f, .int .i64 r, .int .u32 (wd N 0 : Nat), .int .u32 (wd N 1 : Nat), .int .u32 (wd N 2 : Nat), .int .u32 (wd N 3 : Nat), v] 41 (0, 0))
theorem RB.cells {W : World} {b : Nat} {k f r : Int} {N : Nat} {v : Value} (h : RB W b k f r N v) : W.cell? ⟨b, 0, none⟩ = some (.int .i64 k) ∧ W.cell? ⟨b, 1, none⟩ = some (.int .i64 f) ∧ W.cell? ⟨b, 2, none⟩ = some (.int .i64 r) ∧ W.cell? ⟨b, 3, none⟩ = some (.int .u32 (wd N 0 : Nat)) ∧ W.cell? ⟨b, 4, none⟩ = some (.int .u32 (wd N 1 : Nat)) ∧ W.cell? ⟨b, 5, none⟩ = some (.int .u32 (wd N 2 : Nat)) ∧ W.cell? ⟨b, 6, none⟩ = some (.int .u32 (wd N 3 : Nat)) ∧ W.cell? ⟨b, 7, none⟩ = some v :=
  ⟨cell_at h 0, cell_at h 1, cell_at h 2, cell_at h 3, cell_at h 4, cell_at h 5, cell_at h 6, cell_at h 7⟩
theorem RB.thaw {W : World} {b : Nat} {k f r : Int} {N : Nat} {v : Value} (h : RB W b k f r N v) : W.frozen? ⟨b, 0, none⟩ = false ∧ W.frozen? ⟨b, 1, none⟩ = false ∧ W.frozen? ⟨b, 2, none⟩ = false ∧ W.frozen? ⟨b, 3, none⟩ = false ∧ W.frozen? ⟨b, 4, none⟩ = false ∧ W.frozen? ⟨b, 5, none⟩ = false ∧ W.frozen? ⟨b, 6, none⟩ = false ∧ W.frozen? ⟨b, 7, none⟩ = false :=
  ⟨thaw_at h 0, thaw_at h 1, thaw_at h 2, thaw_at h 3, thaw_at h 4, thaw_at h 5, thaw_at h 6, thaw_at h 7⟩
theorem RB.below {W W' : World} {b : Nat} {k f r : Int} {N : Nat} {v : Value} (h : RB W b k f r N v) (hb : Below W.heap.size W W') : RB W' b k f r N v := (hb.block b (lt_at h)).trans h
theorem RB.set8 {W : World} {b : Nat} {k f r : Int} {N : Nat} {v : Value} (h : RB W b k f r N v) (kd : Nat) (f' r' : Int) (N' : Nat) (v' : Value) : RB (W8 W b kd f' r' N' v') b kd f' r' N' v' :=
  (set_get 7 _ (set_get 6 _ (set_get 5 _ (set_get 4 _ (set_get 3 _ (set_get 2 _ (set_get 1 _ (set_get 0 _ h)))))))).trans (by simp)
theorem below8 {w W : World} {b : Nat} (h : Below b w W) (kd : Nat) (f r : Int) (N : Nat) (v : Value) : Below b w (W8 W b kd f r N v) := by
  unfold W8
  exact (((((((h.setCell (p := ⟨b, 0, none⟩) (Nat.le_refl _) _).setCell (p := ⟨b, 1, none⟩) (Nat.le_refl _) _).setCell (p := ⟨b, 2, none⟩) (Nat.le_refl _) _).setCell (p := ⟨b, 3, none⟩) (Nat.le_refl _) _).setCell (p := ⟨b, 4, none⟩) (Nat.le_refl _) _).setCell (p := ⟨b, 5, none⟩) (Nat.le_refl _) _).setCell (p := ⟨b, 6, none⟩) (Nat.le_refl _) _).setCell (p := ⟨b, 7, none⟩) (Nat.le_refl _) _
theorem kd_facts (k r : Int) (N : Nat) (hN : N < S128) : (1 ≤ kdN k ∧ kdN k ≤ 3) ∧ (kdN k = 3 → krN k r = 0) ∧ (kdN k ≠ 2 → kNN k N = 0) ∧ kNN k N < S128 := by
  unfold kdN krN kNN
  by_cases h1 : k = 1
  · subst h1; simp; exact s128_0
  by_cases h2 : k = 2
  · subst h2; simp [hN]
  · simp [h1, h2]; exact s128_0
end Go.Proofs.Ytndogopllcpiiaa
