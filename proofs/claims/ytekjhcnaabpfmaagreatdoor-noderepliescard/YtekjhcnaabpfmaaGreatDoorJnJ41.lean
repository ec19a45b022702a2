import Derived.Test.YtekjhcnaabpfmaaGreatDoorJnJ40
set_option maxHeartbeats 40000000
set_option maxRecDepth 100000
set_option linter.unusedVariables false
namespace Go.Proofs.YtekjhcnaabpfmaaGreatDoor
open Go.RowKit Go.Shelf Go.Lib
attribute [local go_sem] Oper.semAt_some
end Go.Proofs.YtekjhcnaabpfmaaGreatDoor
namespace Go.Proofs.YtekjhcnaabpfmaaGreatDoor
open Go.RowKit Go.Shelf Go.Lib
section
variable {s s' : Ns} {m : Nat} {o : OpN} {E : Int}
end
section
variable {w W V : World} {base x b : Nat} {A A' : NA} {s : Ns} {m : Nat}
end
section
variable {w W V : World} {base x b : Nat} {A A' : NA} {s : Ns} {m : Nat}
theorem sight_ex {li ro ta : Int} {su he re n : Nat} (h : Nd w base x A s) (hv : Nv m s) (h1 : s.b.r.li = li) (h2 : s.t.ro = ro) (h3 : s.b.ta = ta) (h4 : sus s.l = su) (h5 : s.H = he) (h6 : s.t.reps = re) (hn : s.n = n) :
   Calls Tryz.prog 11 #[.pointer (some ⟨x, 0, none⟩)] w fun r w' => ∃ g c, r = .returned (.agg (sgA li ro ta su he re (.slice (some ⟨g, 0, none⟩) n c))) ∧ RdN w' (some ⟨g, 0, none⟩) s.l ∧ w.heap.size ≤ g ∧ g < w'.heap.size ∧ Below w.heap.size w w' := by
 have k1 := hv.len
 have k2 := hv.n1
 have k3 := hv.n2
 refine (sight_any h (by omega) (by omega) hv.bok).mono ?_
 rintro r w' ⟨a, c, rfl, hrow, hb⟩
 have hrd := RdN.ofRow hrow
 rcases own_form hrow with ⟨_, e2⟩ | ⟨g, c', e1, g1, g2, _⟩
 · omega
 · obtain ⟨rfl, _⟩ : a = some ⟨g, 0, none⟩ ∧ c = c' := by simpa using e1
   subst h1 h2 h3 h4 h5 h6 hn
   rw [k1]
   exact ⟨g, c, rfl, hrd, g1, g2, hb⟩
end
end Go.Proofs.YtekjhcnaabpfmaaGreatDoor
