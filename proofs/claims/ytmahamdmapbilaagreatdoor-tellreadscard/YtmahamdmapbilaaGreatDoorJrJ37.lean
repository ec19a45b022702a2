import Derived.Test.YtmahamdmapbilaaGreatDoorJrJ35
import Derived.Test.YtmahamdmapbilaaGreatDoorJrJ36
import Derived.Test.YtmahamdmapbilaaGreatDoorJrJ22
import Derived.Test.YtmahamdmapbilaaGreatDoorJrJ26
import Derived.Test.YtmahamdmapbilaaGreatDoorRows
import Derived.Test.YtmahamdmapbilaaGreatDoorJrJ24
import Derived.LaidMore
import Derived.Lay
import Derived.MakeChecks
import Derived.LaidSub
set_option maxHeartbeats 40000000
set_option maxRecDepth 100000
set_option linter.unusedVariables false
namespace Go.Proofs.YtmahamdmapbilaaGreatDoor
open Go.RowKit Go.Shelf Go.Lib
theorem rdK_own {W:World}{base c n:Nat}{ad:Option Addr}{l:List Tk4}(h:W.ownsRow base 48 4 (.slice ad n c) n (cells4Q l))(hn:n=l.length):RdK W ad l∧∀ b off,ad=some ⟨b,off,none⟩→b<W.heap.size:=by
 subst hn
 constructor
 · obtain⟨a2,c2,e,hc⟩:=ownsRow_form h
   cases e
   intro hl
   obtain⟨g,rfl,g1,g2,g3,g4⟩:=hc (List.length_pos_iff.2 hl)
   refine⟨g,0,rfl,g2,fun k x hk j u hu=>?_⟩
   rw [Nat.zero_add]
   refine g4 _ _ ?_
   rw [cq_cells4]
   exact flat4_at _ k x j u hk hu
 · intro b off e
   rcases own_form h with ⟨e1,_⟩ | ⟨g,cap,e1,_,h2,_⟩
   · simp only [Value.slice.injEq] at e1
     rw [e1.1] at e
     cases e
   · simp only [Value.slice.injEq] at e1
     rw [e1.1] at e
     cases e
     exact h2
theorem badL_ne:∀ (L:List ByteArray) (r:Nat × Nat × Nat),badL L=some r→r.2.1≠0
 | [],r,h=>by cases h
 | x :: t,r,h=>by
  rw [badL] at h
  split at h
  · rename_i h1;cases h;exact h1
  · cases hb:badL t with
    | none=>rw [hb] at h;cases h
    | some y =>
     rw [hb] at h
     cases h
     exact badL_ne t y hb
structure ScB (s:ByteArray)(Sc:ScR):Prop where
 p:∀ V,Calls Tryz.prog 11 #[.string s] V (ScT Sc V)
 d:∀ V,Calls Tryz.prog 36 #[.string s] V (ScT Sc V)
 w:∀ l,Sc=.inl l→WdsT l∧l.length≤200000
 e:∀ q,Sc=.inr q→q.1≠0
def scR (s:ByteArray):ScR:=if s.size≤65536 then (match scD s (s.size+2) 0 1 0 false [] with | .inl l=>.inl l | .inr q=>.inr ((q.1:Int),(q.2.1:Int),(q.2.2:Int))) else .inr (2,0,0)
theorem scR_inl {s:ByteArray}{l:List Tk4}(hs:s.size≤65536)(h:scD s (s.size+2) 0 1 0 false []=.inl l):scR s=.inl l:=by
 unfold scR
 rw [if_pos hs,h]
theorem scans_any (s:ByteArray):ScB s (scR s):=by
 by_cases hs:s.size≤65536
 · have hP:∀ W:World,Calls Tryz.prog 11 #[.string s] W fun e w'=>ScV s W.heap.size e w'∧Below W.heap.size W w':=fun W=>callsIn_wide.1 (scan_in s hs W)
   have hD:=fun W=>rScan_any s hs W
   have hE:=scan_eq s
   unfold TxE at hE
   cases hb:badL (linesOf s) with
   | none =>
    rw [hb] at hE
    dsimp only at hE
    have hE2:scD s (s.size+2) 0 1 0 false []=.inl (fours 0 (linesOf s)):=hE
    have hln:=scan_len s _ hE2
    rw [hE2] at hD
    rw [scR_inl hs hE2]
    refine⟨fun V=>(hP V).mono ?_,fun V=>(hD V).mono ?_,fun l e=>?_,fun q e=>(by cases e)⟩
    · rintro e w' ⟨h1,h2⟩
      unfold ScV at h1
      rw [hb] at h1
      obtain⟨v,rfl,hr⟩:=h1
      obtain⟨ad,cap,rfl⟩:=row_sliceT hr
      rw [fours_cells] at hr
      obtain⟨k1,k2⟩:=rdK_own hr (fours_len 0 (linesOf s)).symm
      exact⟨ad,cap,by rw [fours_len],k1,k2,h2⟩
    · rintro e w' ⟨h2,ad,cap,h1,hr⟩
      obtain⟨k1,k2⟩:=rdK_own hr rfl
      exact⟨ad,cap,h1,k1,k2,h2⟩
    · cases e
      exact⟨scan_wds hs hE2,by omega⟩
   | some r =>
    obtain⟨i,er,c⟩:=r
    rw [hb] at hE
    dsimp only at hE
    rw [hE] at hD
    have hq:scR s=.inr ((er:Int),((i+1:Nat):Int),(c:Int)):=by
      unfold scR
      rw [if_pos hs,hE,Nat.zero_add]
    rw [hq]
    refine⟨fun V=>(hP V).mono ?_,fun V=>(hD V).mono ?_,fun l e=>(by cases e),fun q e=>?_⟩
    · rintro e w' ⟨h1,h2⟩
      unfold ScV at h1
      rw [hb] at h1
      exact⟨h1,h2⟩
    · rintro e w' ⟨h2,h1⟩
      rw [Nat.zero_add] at h1
      exact⟨h1,h2⟩
    · cases e
      have:=badL_ne _ _ hb
      dsimp only at this ⊢
      omega
 · have hq:scR s=.inr (2,0,0):=if_neg hs
   rw [hq]
   refine⟨fun V=>scan_long s (by omega) V,fun V=>rScan_long s (by omega) V,fun l e=>(by cases e),fun q e=>?_⟩
   cases e
   exact (by decide:(2:Int)≠0)
theorem rread_any {M:Nat}{L:List Int}{v:Value}{s:ByteArray}{Sc:ScR}(hB:ScB s Sc)(w:World)(hR:RosR M w v L)(hM:M≤w.heap.size):Calls Tryz.prog 14 #[v,.string s] w (RdA8 w (readT L Sc)):=by
 obtain⟨ra,rc,rfl⟩:=hR.form
 by_cases hn:L.length=0
 · rw [show readT L Sc=.error (1,0) from if_pos hn,hn]
   exact rread_zero s w
 · cases Sc with
   | inr q =>
    rw [show readT L (.inr q)=.error (q.1,q.2.2) from if_neg hn]
    exact rread_scan hn s q (hB.e q rfl) w hB.d
   | inl l =>
    obtain⟨h1,h2⟩:=hB.w l rfl
    rw [show readT L (.inl l)=rdWT L l from if_neg hn]
    have he:=rdW_eq hR.1 h1
    cases hr:rdWT L l with
    | error q=>exact rread_no hn s l w hR hM h1.sz (by omega) q (rdW_ne hr) (he.trans hr) hB.d
    | ok n=>exact rread_ok hn s l w hR hM h1.sz (by omega) n (he.trans hr) hB.d
theorem read_any8 {M:Nat}{sl mp:Value}{L:List Int}{w:World}(hR:Ros M w (.agg #[sl,mp]) L)(hM:M≤w.heap.size)(hU:Ut w){s:ByteArray}{Sc:ScR}(hB:ScB s Sc):Calls Tryz.prog 7 #[.agg #[sl,mp],.string s] w (RdTR w (readT L Sc)):=read_all hR hM hU s Sc hB.p (fun l e=>by
 obtain⟨h1,h2⟩:=hB.w l e
 exact⟨fun i=>Nat.le_trans (h1.sz i) (by omega),h1.kn,by omega⟩) hB.e
theorem readT_ne {L:List Int}{s:ByteArray}{Sc:ScR}(hB:ScB s Sc){q:ErT}(h:readT L Sc=.error q):q.1≠0:=by
 unfold readT at h
 split at h
 · cases h;exact (by decide:(1:Int)≠0)
 · cases Sc with
   | inr x=>cases h;exact hB.e x rfl
   | inl l=>exact rdW_ne h
theorem readT_ok {L:List Int}(hS:Signs L){s:ByteArray}{Sc:ScR}(hB:ScB s Sc){n:Nt5}(h:readT L Sc=.ok n):1≤n.1∧n.1≤3∧(n.1=3→n.2.2.1=0)∧(n.1≠2→n.2.2.2.1=0)∧n.2.2.2.1<S128∧n.2.2.2.2.length≤300000:=by
 unfold readT at h
 split at h
 · cases h
 · cases Sc with
   | inr x=>cases h
   | inl l =>
    have:=rdW_ok hS h
    have h2:=(hB.w l rfl).2
    exact⟨this.lo,this.hi,this.rd3,this.hd2,this.lt,by have:=this.len;omega⟩
def abg:ByteArray:=⟨#[206,177,206,178,206,179]⟩
theorem abg_read:readR abg=([945,946,947],0,0):=by kernel_rfl
theorem abg_tell:tlT [945,946,947] 3 1 0 0 []=⟨#[114,117,109,111,114,32,206,178,32,91,93]⟩:=by kernel_rfl
theorem abg_flt:flt 3 3 1 0 0 []=0:=by kernel_rfl
theorem abg_eq2 (w:World):(binOp .eql 9 (.string ⟨#[114,117,109,111,114,32,206,178,32,91,93]⟩) (.string ⟨#[114,117,109,111,114,32,206,178,32,91,93]⟩)).run Tryz.prog w=.ok (.bool true) w:=by kernel_rfl
theorem qS_read:readT [945,946,947] (scR ⟨#[113,117,101,114,121,32,206,179,32,55,32,91,93]⟩)=.ok (1,2,7,0,[]):=by kernel_rfl
theorem alive_any8 (w:World)(hP:Pow w)(hU:Ut w):Calls Tryz.prog 8 #[] w fun e w'=>e=.returned (.bool true)∧Below w.heap.size w w':=by
 have hrd:=read_any abg (by decide) w
 unfold RdV at hrd
 rw [abg_read] at hrd
 dsimp only at hrd
 have HRU:Hid (∀ (M:Nat) (sl mp:Value) (V:World),Ros M V (.agg #[sl,mp]) [945,946,947]→M≤V.heap.size→Pow V→Calls Tryz.prog 24 #[.agg #[sl,mp],.agg #[.int .i64 1,.slice none 0 0]] V fun e w'=>e=.returned (.tuple #[.string ⟨#[114,117,109,111,114,32,206,178,32,91,93]⟩,.int .i64 0])∧Below V.heap.size V w'):=fun M sl mp V hR hM hP=>(trumor_any hR hM hP 1 none 0 [] (fun e=>absurd rfl e) (by simp)).mono (fun _ _ q=>q.form abg_tell abg_flt)
 have HRQ:Hid (∀ (M:Nat) (sl mp:Value) (V:World),Ros M V (.agg #[sl,mp]) [945,946,947]→M≤V.heap.size→Ut V→Calls Tryz.prog 7 #[.agg #[sl,mp],.string ⟨#[113,117,101,114,121,32,206,179,32,55,32,91,93]⟩] V fun e w'=>∃ a c,e=.returned (.tuple #[.iface 92 (.agg #[.int .i64 2,.int .i64 7,.slice a 0 c]),.int .i64 0,.int .i64 0])∧Below V.heap.size V w'):=fun M sl mp V hR hM hU=>by
  have:=read_any8 hR hM hU (scans_any ⟨#[113,117,101,114,121,32,206,179,32,55,32,91,93]⟩)
  rw [qS_read] at this
  refine this.mono ?_
  rintro e w' ⟨v,rfl,h1,h2⟩
  obtain⟨a,c,rfl⟩:=row_sliceT h1
  exact⟨a,c,rfl,h2⟩
 have s1:=asQ_Q
 have hq:=abg_eq2
 unfold abg at hrd
 have HP:Hid (Pow w):=hP
 have HU:Hid (Ut w):=hU
 clear hP hU
 go_enter Tryz.func8,Tryz.ntmps8
 go_wp2_with (first
  | (go_at_call 7;(with_reducible refine (HRQ.out _ _ _ _ hv3 hm3 (HU.out.carry hw3)).mono ?_);rintro e u4 ⟨a,c,rfl,hu4⟩)
  | (go_at_call 24;(with_reducible refine (HRU.out _ _ _ _ hv2 hm2 (HP.out.carry hw2)).mono ?_);rintro e u3 ⟨rfl,hu3⟩;(have hv3:=hv2.below (hu3.mono hm2));(have hm3:=Nat.le_trans hm2 hu3.size);(have hw3:=bel3 hw2 hu3);(have g3:=(hu3.block _ (zla g2)).trans g2);(have a0:u3.cell? ⟨u1.heap.size,0,none⟩=some (.slice ad n cap):=(zca g3 0).trans rfl);(have a1:u3.cell? ⟨u1.heap.size,1,none⟩=some (.map mb):=(zca g3 1).trans rfl))
  | (go_at_call 6;(with_reducible refine hrd.mono ?_);rintro e u1 ⟨⟨v,rfl,hv⟩,hu1⟩;obtain⟨ad,n,cap,mb,rfl⟩:∃ ad n cap mb,v=.agg #[.slice ad n cap,.map mb]:=(by obtain⟨ad,cap,mb,e⟩:=hv.form;exact⟨_,_,_,_,e⟩);obtain⟨u2,hu2⟩:∃ u2,u1.alloc (.cells #[.slice ad n cap,.map mb] 25)=u2:=⟨_,rfl⟩;(have hb2:Below u1.heap.size u1 u2:=by rw [← hu2];exact al1t _ _);(have g2:u2.heap[u1.heap.size]? = some (.cells #[.slice ad n cap,.map mb] 25 (0,0)):=by rw [← hu2];exact zna rfl);(have hv2:=hv.below hb2);(have hm2:=hb2.size);(have hw2:=bel3 hu1 hb2);(have b0:u2.cell? ⟨u1.heap.size,0,none⟩=some (.slice ad n cap):=(zca g2 0).trans rfl);(have b1:u2.cell? ⟨u1.heap.size,1,none⟩=some (.map mb):=(zca g2 1).trans rfl)))
 go_ret
 exact⟨rfl,bel3 (bel3 hw3 hu4) (al1t _ _)⟩
end Go.Proofs.YtmahamdmapbilaaGreatDoor
namespace Go.Proofs.YtmahamdmapbilaaGreatDoor
open Go.ChangeShapes Go.WideShapes Go.ChangeAt Go.RowKit Go.Lib
theorem tab_of {W:World}(h:laidMetH Tryz.prog [("math/bits.deBruijn32tab",Rows.laid_math_bits_deBruijn32tab)] W):Tab W:=by
 rw [MakeChecks.laidMetH_plain _ _ _ (by kernel_rfl)] at h
 obtain⟨ps,⟨g,t,cs,fuel,p,q,hg,ht,hv,hd,_,hps⟩,_,hcells⟩:=h
 obtain rfl:=Option.some.inj ((show Tryz.prog.globalNamed "math/bits.deBruijn32tab"=some 0 by kernel_rfl).symm.trans hg)
 obtain rfl:=Option.some.inj ((show (Tryz.prog.globals[0]?).map (·.type)=some 284 by kernel_rfl).symm.trans ht)
 obtain⟨xs,m,_,ex,_,hl,hel⟩:=DataW.trod_array Tryz.underlying284 hd
 have c5:Tryz.prog.cellsOf 5=1:=by kernel_rfl
 have key:∀ r,r<32→cs[r]? = some (.int .u8 (deBruijn32tab.getD r 0:Nat)):=by
  intro r hr
  have hE:=hel r hr
  rw [c5,Nat.mul_one,List.getElem?_eq_getElem (by omega)] at hE
  obtain⟨z,e1,e2,_⟩:=DataW.trod_int Tryz.underlying5 hE
  have e3:(xs.map (·.1))=deBruijn32tab.map fun n=>.lit (.int .u8 (n:Nat)):=(DataW.agg.inj (Prod.mk.inj ex).1).symm
  have hlen:deBruijn32tab.length=32:=rfl
  have e4:(xs.map (·.1))[r]? = (deBruijn32tab.map fun n=>(DataW.lit (.int .u8 (n:Nat)):DataW Unit))[r]? := by rw [e3]
  rw [List.getElem?_map,List.getElem?_map,List.getElem?_eq_getElem (by omega:r<xs.length),List.getElem?_eq_getElem (by omega:r<deBruijn32tab.length),e2] at e4
  have hz:z=(deBruijn32tab.getD r 0:Nat):=by
   simp only [Option.map_some,Option.some.injEq,DataW.lit.injEq,Lit.int.injEq,true_and] at e4
   rw [e4,List.getD,List.getElem?_eq_getElem (by omega:r<deBruijn32tab.length)];rfl
  rw [← hz]
  have h0:((cs.toList.drop r).take 1)[0]? = some (.int .u8 z):=by rw [e1];rfl
  simpa using h0
 have hs:0<cs.size:=by have:=(Array.getElem?_eq_some_iff.1 (key 0 (by decide))).1;exact this
 have hm:MemPlace.cell 0 0∈ps:=by
  rw [hps]
  refine List.mem_append_left _ (List.mem_append_left _ ?_)
  exact List.mem_map.2 ⟨0,List.mem_range.2 hs,rfl⟩
 obtain⟨⟨c,t,hc⟩,_⟩:=hcells 0 0 hm
 refine⟨c,t,hc,fun j hj=>?_⟩
 have h1:=World.var?_cell hg hv j
 rw [key j hj] at h1
 simpa [World.cell?,hc] using h1
end Go.Proofs.YtmahamdmapbilaaGreatDoor
namespace Go.Proofs.YtmahamdmapbilaaGreatDoor
open Go.RowKit Go.Shelf Go.Lib
theorem tabs_of {L:List (String × DataW Unit)}{W:World}(h:laidMet Tryz.prog L W)(h1 : ("unicode/utf8.acceptRanges",(Rows.laid_unicode_utf8_acceptRanges:DataW Unit))∈L)(h2 : ("unicode/utf8.first",Rows.laid_unicode_utf8_first)∈L)(h3 : ("internal/strconv.uint64pow10",(Rows.laid_internal_strconv_uint64pow10:DataW Unit))∈L)(h4:(L.filter fun x=>x.1 == "math/bits.deBruijn32tab") = [("math/bits.deBruijn32tab",Rows.laid_math_bits_deBruijn32tab)]):Pow W∧Ut W∧Tab W:=by
 refine⟨pow_met h h3,tabs_met h h1 h2,?_⟩
 have:=laidMet.filter (fun x=>x.1 == "math/bits.deBruijn32tab") h
 rw [h4] at this
 refine tab_of ?_
 rw [MakeChecks.laidMetH_plain _ _ _ (by kernel_rfl)]
 exact this
end Go.Proofs.YtmahamdmapbilaaGreatDoor
