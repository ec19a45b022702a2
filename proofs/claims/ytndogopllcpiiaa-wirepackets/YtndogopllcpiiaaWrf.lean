/- The three notes' Bytes, and alive: what they answer. -/
import Derived.Test.YtndogopllcpiiaaWre
import Derived.Lib.SlBytesConst
namespace Go.Proofs.Ytndogopllcpiiaa
open Go.RowKit Go.Shelf

/-- The bytes of a note, or none. -/
def fb7 (kd : Nat) (n fr rd : Int) (N : Nat) (l : List (Int × Int × Int)) : List Nat := if flt kd n fr rd N l = 0 then byt7 kd n.toNat fr.toNat rd.toNat N l else []
/-- What Bytes answers. -/
def BO (kd : Nat) (n fr rd : Int) (N : Nat) (l : List (Int × Int × Int)) (w : World) (e : Ending) (w' : World) : Prop := ∃ b, e = .returned (.tuple #[b, .int .i64 (flt kd n fr rd N l)]) ∧ OwB w' w.heap.size b (fb7 kd n fr rd N l) ∧ Below w.heap.size w w'
theorem bytes_any (kd : Nat) (n fr rd : Int) (N : Nat) (hN : N < S128) (ad : Option Addr) (cap : Nat) (l : List (Int × Int × Int)) (w : World) (h : RdN w ad l) (hl : l.length ≤ 6000000000000) : Calls Try.prog 49 #[fv kd fr rd N (.slice ad l.length cap), .int .i64 n] w (BO kd n fr rd N l w) := by
  by_cases hf : flt kd n fr rd N l = 0
  · obtain ⟨hn, hfr, _⟩ := flt_0 hf
    obtain ⟨n, rfl⟩ := Int.eq_ofNat_of_zero_le (show 0 ≤ n by omega)
    obtain ⟨fr, rfl⟩ := Int.eq_ofNat_of_zero_le hfr.1
    refine (bytes_ok kd n fr rd N hN ad cap l w h hf).mono ?_
    rintro e w' ⟨b, rfl, h1, h2⟩
    refine ⟨b, by rw [hf], ?_, h2⟩
    rw [fb7, if_pos hf]
    exact h1
  · refine (bytes_no kd n fr rd N hN ad cap l w h hl hf).mono ?_
    rintro e w' ⟨rfl, h1⟩
    refine ⟨_, rfl, ?_, h1⟩
    rw [fb7, if_neg hf]
    exact owB_nil _ _
theorem wd_z (j : Nat) : wd 0 j = 0 := by simp [wd]
theorem s128_0 : 0 < S128 := by decide
theorem qb_own {w W w' : World} {kd : Nat} {n fr rd : Int} {N : Nat} {l : List (Int × Int × Int)} {e : Ending} (h : BO kd n fr rd N l W e w') (hb : Below w.heap.size w W) : BO kd n fr rd N l w e w' := by
  obtain ⟨b, h1, h2, h3⟩ := h
  exact ⟨b, h1, ownsRow_base h2 hb.size, bel2 hb h3⟩
set_option maxHeartbeats 1000000 in
set_option maxRecDepth 100000 in
theorem qbytes_any (n fr rd : Int) (ad : Option Addr) (cap : Nat) (l : List (Int × Int × Int)) (w : World) (h : RdN w ad l) (hl : l.length ≤ 6000000000000) : Calls Try.prog 29 #[.agg #[.int .i64 fr, .int .i64 rd, .slice ad l.length cap], .int .i64 n] w (BO 1 n fr rd 0 l w) := by
  have hb0 := al1' w (.cells #[.int .i64 fr, .int .i64 rd, .slice ad l.length cap] 47)
  have hby := bytes_any 1 n fr rd 0 s128_0 ad cap l _ (h.carry hb0) hl
  have hby2 := hby.mono (fun e w' q => qb_own q hb0)
  simp only [fv, fcs, wd_z] at hby2
  clear hby
  go_enter Try.func29, Try.ntmps29
  go_wp2_with (go_at_call 49; refine hby2.mono ?_; rintro e w' ⟨b, rfl, h2, h3⟩)
  go_ret2
  exact ⟨b, rfl, h2, h3⟩
set_option maxHeartbeats 1000000 in
set_option maxRecDepth 100000 in
theorem pbytes_any (n fr rd : Int) (N : Nat) (hN : N < S128) (ad : Option Addr) (cap : Nat) (l : List (Int × Int × Int)) (w : World) (h : RdN w ad l) (hl : l.length ≤ 6000000000000) : Calls Try.prog 97 #[.agg #[.int .i64 fr, .int .i64 rd, .int .u32 (wd N 0 : Nat), .int .u32 (wd N 1 : Nat), .int .u32 (wd N 2 : Nat), .int .u32 (wd N 3 : Nat), .slice ad l.length cap], .int .i64 n] w (BO 2 n fr rd N l w) := by
  have hb0 := al1' w (.cells #[.int .i64 fr, .int .i64 rd, .int .u32 (wd N 0 : Nat), .int .u32 (wd N 1 : Nat), .int .u32 (wd N 2 : Nat), .int .u32 (wd N 3 : Nat), .slice ad l.length cap] 50)
  have hby := bytes_any 2 n fr rd N hN ad cap l _ (h.carry hb0) hl
  have hby2 := hby.mono (fun e w' q => qb_own q hb0)
  simp only [fv, fcs] at hby2
  clear hby
  go_enter Try.func97, Try.ntmps97
  go_wp2_with (go_at_call 49; refine hby2.mono ?_; rintro e w' ⟨b, rfl, h2, h3⟩)
  go_ret2
  exact ⟨b, rfl, h2, h3⟩
set_option maxHeartbeats 1000000 in
set_option maxRecDepth 100000 in
theorem ubytes_any (n fr : Int) (ad : Option Addr) (cap : Nat) (l : List (Int × Int × Int)) (w : World) (h : RdN w ad l) (hl : l.length ≤ 6000000000000) : Calls Try.prog 100 #[.agg #[.int .i64 fr, .slice ad l.length cap], .int .i64 n] w (BO 3 n fr 0 0 l w) := by
  have hb0 := al1' w (.cells #[.int .i64 fr, .slice ad l.length cap] 53)
  have hby := bytes_any 3 n fr 0 0 s128_0 ad cap l _ (h.carry hb0) hl
  have hby2 := hby.mono (fun e w' q => qb_own q hb0)
  simp only [fv, fcs, wd_z] at hby2
  clear hby
  go_enter Try.func100, Try.ntmps100
  go_wp2_with (go_at_call 49; refine hby2.mono ?_; rintro e w' ⟨b, rfl, h2, h3⟩)
  go_ret2
  exact ⟨b, rfl, h2, h3⟩
theorem abc_sum : sumV [97, 98, 99] = 38600999 := by decide
theorem one_fb : fb7 1 3 1 258 0 [] = [101, 115, 1, 3, 1, 0, 0, 0, 1, 2, 0, 9, 15, 0, 225] := by kernel_rfl
set_option maxHeartbeats 1000000 in
set_option maxRecDepth 100000 in
theorem alive_any (w : World) : Calls Try.prog 8 #[] w fun e w' => e = .returned (.bool true) ∧ Below w.heap.size w w' := by
  have hq := qbytes_any 3 1 258 none 0 [] w (fun q => absurd rfl q) (by simp)
  have hB3 := bs3
  have hcv := fun (w : World) (C : Array Value) (n c : Nat) => Lib.run_convert_bytes_const (P := Try.prog) w 22 5 C n c Try.underlying22 Try.underlying5
  have hf : flt 1 3 1 258 0 [] = 0 := by kernel_rfl
  obtain ⟨L, hL⟩ : ∃ L, fb7 1 3 1 258 0 [] = L := ⟨_, rfl⟩
  have HL : Hid (L = [101, 115, 1, 3, 1, 0, 0, 0, 1, 2, 0, 9, 15, 0, 225]) := hL.symm.trans one_fb
  have hq2 : Calls Try.prog 29 #[.agg #[.int .i64 1, .int .i64 258, .slice none 0 0], .int .i64 3] w fun e w' => ∃ g c, e = .returned (.tuple #[.slice (some ⟨g, 0, none⟩) 15 c, .int .i64 0]) ∧ g < w'.heap.size ∧ w'.cell? ⟨g, 9, none⟩ = some (.int .u8 2) ∧ Below w.heap.size w w' := hq.mono (by
    rintro e w' ⟨b, rfl, h2, h3⟩
    rw [hL, HL.out] at h2
    rcases own_form h2 with ⟨_, e⟩ | ⟨g, cap, rfl, h4, h5, h6⟩
    · cases e
    · refine ⟨g, cap, by rw [hf]; rfl, h5, ?_, h3⟩
      exact b_own h2 rfl 9 2 rfl)
  clear hq hL HL hf L
  have hsu : ∀ W : World, Calls Try.prog 30 #[.slice (some ⟨W.heap.size, 0, none⟩) 3 3] (W.alloc (.cells #[.int .u8 97, .int .u8 98, .int .u8 99] 5 (3, 4))) fun e w' => e = .returned (.int .i64 38600999) ∧ w' = W.alloc (.cells #[.int .u8 97, .int .u8 98, .int .u8 99] 5 (3, 4)) := fun W => by
    have := sum_any (some ⟨W.heap.size, 0, none⟩) 3 [97, 98, 99] (W.alloc (.cells #[.int .u8 97, .int .u8 98, .int .u8 99] 5 (3, 4))) (fun _ => ⟨_, 0, rfl, by simp, fun k x hk => by
      have hn : (W.alloc (.cells #[.int .u8 97, .int .u8 98, .int .u8 99] 5 (3, 4))).heap[W.heap.size]? = some (.cells #[.int .u8 97, .int .u8 98, .int .u8 99] 5 (3, 4)) := new_at rfl
      rw [Nat.zero_add, cell_at hn k]
      match k, hk with
      | 0, hk => simp at hk; subst hk; rfl
      | 1, hk => simp at hk; subst hk; rfl
      | 2, hk => simp at hk; subst hk; rfl
      | k + 3, hk => simp at hk⟩) (byt_cons (by decide) (byt_cons (by decide) (byt_cons (by decide) byt_nil))) (by simp)
    rw [abc_sum] at this
    exact this
  go_enter Try.func8, Try.ntmps8
  go_wp2_with (first | (go_at_call 29; refine hq2.mono ?_; rintro e w1 ⟨g, c, rfl, hg, hc9, h3⟩; have h4 := al1' w1 (.cells #[.int .u8 97, .int .u8 98, .int .u8 99] 5 (3, 4)); have hc9' := (h4.cell (p := ⟨g, 9, none⟩) hg).trans hc9) | (go_at_call 30; refine (hsu _).mono ?_; rintro e w2 ⟨rfl, hu⟩; rw [hu]; clear hu w2))
  go_ret
  exact ⟨rfl, bel2 h3 h4⟩
end Go.Proofs.Ytndogopllcpiiaa
