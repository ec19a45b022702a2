import Derived.Test.YtmahamdmapbilaaGreatDoorJrJ29
import Derived.Test.YtmahamdmapbilaaGreatDoorJrJ12
import Derived.Test.YtmahamdmapbilaaGreatDoorJrJ14
import Derived.Test.YtmahamdmapbilaaGreatDoorJrJ27
import Derived.Laws.Bits128
import Derived.Laws.CopyRow
import Derived.Laws.CopyOwn
import Derived.Test.YtmahamdmapbilaaGreatDoorJrJ21
set_option maxHeartbeats 40000000
set_option maxRecDepth 100000
set_option linter.unusedVariables false
namespace Go.Proofs.YtmahamdmapbilaaGreatDoor
open Go.RowKit Go.Shelf Go.Lib
theorem idxvB (p:Nat→Bool)(k:Nat)(hk:k<100)(w:World):(Instr.index 250 (.agg (bC p)) (.int .i64 (k:Int))).run Tryz.prog w=.ok (.bool (p k)) w:=by
 have h2:0≤(k:Int):=by omega
 have he:Tryz.prog.plainKey 4=true:=by kernel_rfl
 have hi:(Tryz.prog.info? 4).isSome=true:=by kernel_rfl
 obtain⟨i,hi⟩:=Option.isSome_iff_exists.1 hi
 have hc:Tryz.prog.cellsOf 4=1:=by kernel_rfl
 have p1:=run_part_plain (P:=Tryz.prog) w he (off:=k*1) (by rw [Nat.mul_one];exact bC_get p k hk)
 simp only [Instr.index,asIntOf,Sem.run_bind,Sem.run_pure,Result.andThen_ok,run_underlying Tryz.underlying250]
 have h3:(0:Int)≤(k:Int)∧(k:Int)<((100:Nat):Int):=⟨h2,by omega⟩
 rw [if_pos h3]
 simp only [Sem.run_bind,run_sizeOf w hi,Result.andThen_ok,hc,Int.toNat_natCast]
 exact p1
theorem mkN_with (N i:Nat)(hi:i<100):mkN (fun j=>if j=i then true else N.testBit j) 100=cln N ||| 2 ^ i:=mkN_eq (fun j=>by
 rw [Nat.testBit_or,testBit_cln,Nat.testBit_two_pow]
 by_cases e:j=i
 · subst e;simp [hi]
 · have e2:¬ i=j:=fun c=>e c.symm
   simp [e,e2])
theorem rWith_any (N:Nat)(id:Int)(w:World):Calls Tryz.prog 203 #[sv N,.int .i64 id] w fun e w'=>e=.returned (withV N id)∧Below w.heap.size w w':=by
 have hz:=zeroB
 have hr:=row_any N
 by_cases h:0≤id∧id<100
 · obtain⟨i,rfl⟩:=Int.eq_ofNat_of_zero_le h.1
   have hi:i<100:=by omega
   have t1:¬ (i:Int)<0:=by omega
   have t2:¬ (i:Int) ≥ 100:=by omega
   have t3:¬ 100≤(i:Int):=by omega
   obtain⟨p,hp⟩:∃ p,p=(fun j=>if j=i then true else N.testBit j):=⟨_,rfl⟩
   have hset:(bC N.testBit).setIfInBounds i (.bool true)=bC p:=by rw [hp,bC_set]
   have hm:=make_any p
   have hmk:mkN p 100=cln N ||| 2 ^ i:=by rw [hp];exact mkN_with N i hi
   rw [hmk] at hm
   clear hmk hp
   have hV:withV N (i:Int)=.tuple #[sv (cln N ||| 2 ^ i),.int .i64 0]:=by rw [withV,if_pos h];rfl
   rw [hV]
   generalize cln N ||| 2 ^ i=M at *
   simp only [sv] at hr hm ⊢
   go_enter Tryz.func203,Tryz.ntmps203
   go_wp2_with (first | (go_at_call 177;refine (hr _).mono ?_;rintro e w1 ⟨rfl,hb1⟩;clear hr) | (refine wpList_store_row rfl 250 _ _ rfl w1.heap.size (bC N.testBit) rfl rfl _ _ (get_newQ rfl) (by rw [bC_size];exact sizeB) (by rw [bC_size,bC_size]) (bC_one _) ?_;simp only [World.setRow_alloc_new];have g1:HoldsB (w1.alloc (.cells (bC N.testBit) 250)) w1.heap.size N.testBit:=get_newQ rfl;have c1:=g1.cell i hi;have f1:=g1.frozen i;clear g1) | ((try rw [hset]);refine wpList_load_row rfl 250 _ rfl w1.heap.size rfl _ _ _ _ (get_newQ rfl) Tryz.underlying250 rfl (by rw [bC_size];exact sizeB) ?_) | (go_at_call 225;refine (hm _).mono ?_;rintro e w2 ⟨rfl,hb2⟩;have hs1:=hb1.size;simp only [World.size_alloc] at hs1;have q:Hid (Zh4 w2 (w.heap.size+1) (fun _=>0)):=(hb2.block _ (by simp;omega)).trans (get_oldQ ((hb1.block _ (by simp)).trans (get_newQ (by simp))));obtain⟨y0,y1,y2,y3,z0,z1,z2,z3⟩:=q.out.facts))
   refine ret4t rfl rfl rfl rfl (fin4 q.out _) ⟨rfl,below4 (bcarry (((bcarry (((Below.refl _ w).alloc (by simp) _).alloc (by simp) _) (Nat.le_refl _) hb1).alloc (by omega) _)) (Nat.le_refl _) hb2) (by omega) _⟩
 · have hV:withV N id=.tuple #[sv 0,.int .i64 30]:=by rw [withV,if_neg h]
   rw [hV]
   have g2:Zh4 ((w.alloc (.cells (cells4 (wd N)) 36)).alloc (.cells (cells4 (fun _=>0)) 36)) (w.heap.size+1) (fun _=>0):=get_newQ (by simp)
   simp only [sv]
   clear hr
   by_cases t1:id<0
   · go_enter Tryz.func203,Tryz.ntmps203
     go_wp2
     refine ret4t (M:=0) rfl rfl rfl rfl (g2.congr (fun j _=>by simp [wd])) ⟨?_,((Below.refl _ w).alloc (by simp) _).alloc (by simp) _⟩
     rfl
   · have t2:100≤id:=by omega
     go_enter Tryz.func203,Tryz.ntmps203
     go_wp2
     refine ret4t (M:=0) rfl rfl rfl rfl (g2.congr (fun j _=>by simp [wd])) ⟨?_,((Below.refl _ w).alloc (by simp) _).alloc (by simp) _⟩
     rfl
theorem rHas_any (N:Nat)(id:Int)(w:World):Calls Tryz.prog 122 #[sv N,.int .i64 id] w fun e w'=>e=.returned (.bool (hasB N id))∧Below w.heap.size w w':=by
 have hr:=row_any N
 simp only [sv] at hr ⊢
 by_cases h:0≤id∧id<100
 · obtain⟨i,rfl⟩:=Int.eq_ofNat_of_zero_le h.1
   have hi:i<100:=by omega
   have t1:(i:Int) ≥ 0:=by omega
   have t3:(i:Int)<100:=by omega
   have hix:=idxvB N.testBit i hi
   have hV:hasB N (i:Int)=N.testBit i:=by simp [hasB,h]
   rw [hV]
   go_enter Tryz.func122,Tryz.ntmps122
   go_wp2_with (go_at_call 177;refine (hr _).mono ?_;rintro e w1 ⟨rfl,hb1⟩)
   go_ret
   exact⟨rfl,bcarry (alloc_below w _) (Nat.le_refl _) hb1⟩
 · have hV:hasB N id=false:=by simp [hasB,h]
   rw [hV]
   by_cases t1:id ≥ 0
   · have t2:¬ id<100:=by omega
     go_enter Tryz.func122,Tryz.ntmps122
     go_wp2
     go_ret
     exact⟨rfl,alloc_below w _⟩
   · go_enter Tryz.func122,Tryz.ntmps122
     go_wp2
     go_ret
     exact⟨rfl,alloc_below w _⟩
theorem rPut_any (N:Nat)(hN:N<S100)(i:Nat)(hi:i<100)(w:World):Calls Tryz.prog 175 #[sv N,.int .i64 (i:Int)] w fun e w'=>e=.returned (sv (N ||| 2 ^ i))∧Below w.heap.size w w':=by
 have hw:=rWith_any N (i:Int)
 have e3:withV N (i:Int)=.tuple #[sv (N ||| 2 ^ i),.int .i64 0]:=by
  unfold withV
  rw [if_pos (by omega),Int.toNat_natCast,cln_self hN]
 rw [e3] at hw
 clear e3
 generalize N ||| 2 ^ i=N2 at *
 simp only [sv] at hw ⊢
 go_enter Tryz.func175,Tryz.ntmps175
 go_wp2_with (go_at_call 203;refine (hw _).mono ?_;rintro e w1 ⟨rfl,hb1⟩;have q:Zh4 w1 (w.heap.size+1) (fun _=>0):=(hb1.block _ (by simp)).trans (get_newQ (by simp));have hs1:=q.lt;obtain⟨y0,y1,y2,y3,z0,z1,z2,z3⟩:=q.facts;have H1:Hid (Zh4 w1 (w.heap.size+1) (fun _=>0)):=q;clear q)
 have k5:Below w.heap.size w ((set4 w1 (w.heap.size+1) N2).alloc (.cells (cells4 (wd N2)) 36)):=(below4 (bcarry (((Below.refl _ w).alloc (by simp) _).alloc (by simp) _) (Nat.le_refl _) hb1) (by omega) _).alloc (Nat.le_of_lt (Nat.lt_of_le_of_lt (Nat.le_add_right _ _) (Zh4.lt (fin4 H1.out N2)))) _
 exact ret4 rfl rfl rfl (get_oldQ (fin4 H1.out N2)) ⟨rfl,k5⟩
theorem rParse_any {M:Nat}{v:Value}{l:List Int}(w:World)(h:RosR M w v l)(hM:M≤w.heap.size)(s:ByteArray)(hs:s.size≤maxLen):Calls Tryz.prog 116 #[v,.string s] w fun e w'=>e=.returned (psV (parseR l s))∧Below w.heap.size w w':=by
 obtain⟨ad,cap,rfl⟩:=h.form
 have hsg:=h.1
 have hls:=hsg.short
 unfold maxLen at hs
 have g0:Zh4 ((w.alloc (.cells #[.slice ad l.length cap] 53)).alloc (.cells (cells4 (fun _=>0)) 36)) (w.heap.size+1) (fun _=>0):=get_newQ (by simp)
 have b0:Below w.heap.size w ((w.alloc (.cells #[.slice ad l.length cap] 53)).alloc (.cells (cells4 (fun _=>0)) 36)):=((Below.refl _ w).alloc (by simp) _).alloc (by simp) _
 have hz0:∀ j,j<4→(fun _=>0) j=wd 0 j:=fun j _=>by simp [wd]
 by_cases h1:65536<s.size
 · have hR:parseR l s=(0,0,2):=by rw [parseR,if_pos h1]
   rw [hR]
   go_enter Tryz.func116,Tryz.ntmps116
   go_wp2
   exact ret4u (M:=0) rfl rfl rfl rfl rfl (g0.congr hz0) ⟨rfl,b0⟩
 by_cases h2:s.size=0
 · have hR:parseR l s=(0,0,40):=by rw [parseR,if_neg h1,if_pos h2]
   rw [hR]
   go_enter Tryz.func116,Tryz.ntmps116
   go_wp2
   exact ret4u (M:=0) rfl rfl rfl rfl rfl (g0.congr hz0) ⟨rfl,b0⟩
 by_cases h3:s=dash
 · have hR:parseR l s=(0,0,0):=by rw [parseR,if_neg h1,if_neg h2,if_pos h3]
   rw [hR]
   subst h3
   unfold dash
   clear h1 h2 hR
   go_enter Tryz.func116,Tryz.ntmps116
   go_wp2
   exact ret4u (M:=0) rfl rfl rfl rfl rfl (g0.congr hz0) ⟨rfl,b0⟩
 have HR:Hid (parseR l s=psGo l 0 0 (charsOf s)):=by show parseR l s=_;rw [parseR,if_neg h1,if_neg h2,if_neg h3]
 have hd:=dash_ne h3
 clear h3
 have hs16:s.size≤65536:=by omega
 go_enter Tryz.func116,Tryz.ntmps116
 go_wp2
 go_loopw [8,9] (fun a c wz=>∃ (pos fuel k N:Nat),Hid (psGo l N k (charsFrom s fuel pos)=psGo l 0 0 (charsOf s))∧s.size≤pos+fuel∧k≤pos∧pos≤s.size∧a=.int .i64 k∧c=.int .i64 pos∧N<S100∧wz.heap[w.heap.size]? = some (.cells #[.slice ad l.length cap] 53 (0,0))∧Zh4 wz (w.heap.size+1) (fun _=>0)∧Zh4 wz (w.heap.size+2) (wd N)∧Below w.heap.size w wz) (fun _ c _=>s.size-(RowKit.intOf c).toNat)
 case atStart =>
   have hr:Hid (psGo l 0 0 (charsFrom s s.size 0)=psGo l 0 0 (charsOf s)):=rfl
   have hset0:Zh4 (((w.alloc (.cells #[.slice ad l.length cap] 53)).alloc (.cells (cells4 (fun _=>0)) 36)).alloc (.cells (cells4 (fun _=>0)) 36)) (w.heap.size+2) (fun _=>0):=get_newQ (by simp)
   exact⟨0,s.size,0,0,hr,by omega,by omega,by omega,rfl,rfl,by decide,zoa (zoa (zna rfl)),zoa g0,hset0.congr hz0,b0.alloc (by simp;omega) _⟩
 case round =>
   obtain⟨pos,fuel,k,N,hgo,hfu,hkp,hps,rfl,rfl,hN,hvar,hres,hset,hbw⟩:=hrel
   have hlt:=hset.lt
   by_cases hp:pos<s.size
   · have hwd:=wdt_pos s pos
     have hwl:=wdt_le s pos hp
     have hrn:=rn_le s pos
     have hpi:(pos:Int)<(s.size:Int):=by omega
     have hat:=at_below s hs16 pos hp wr
     obtain⟨f,rfl⟩:∃ f,fuel=f+1:=⟨fuel-1,by omega⟩
     rw [charsFrom_step s f pos hp] at hgo
     have hros:=h.below (hbw.mono hM)
     obtain⟨_,sl,esl,hS⟩:=hros
     simp at esl
     subst esl
     have hfi:=fun (W:World) (hb:Below wr.heap.size wr W)=>find_any W (hS.below (hb.mono (by omega))) (Nat.le_trans (by omega) hb.size) hls (rn s pos:Int)
     have H1:Hid (Zh4 wr (w.heap.size+1) (fun _=>0)):=hres
     have H2:Hid (Zh4 wr (w.heap.size+2) (wd N)):=hset
     clear hres hset
     by_cases q1:(rn s pos:Int)∈l
     · rw [loose_no_letter (hsg.letter _ q1)] at hat
       have hi:=idx_lt hsg q1
       have hfv:findV l (rn s pos:Int)=((l.idxOf (rn s pos:Int):Nat):Int):=by rw [findV,if_pos q1]
       simp only [hfv] at hfi
       have hhas:=rHas_any N ((l.idxOf (rn s pos:Int):Nat):Int)
       have hput:=rPut_any N hN (l.idxOf (rn s pos:Int)) hi
       have e2:hasB N ((l.idxOf (rn s pos:Int):Nat):Int)=N.testBit (l.idxOf (rn s pos:Int)):=by
         unfold hasB
         rw [decide_eq_true (by omega),Int.toNat_natCast,Bool.true_and]
       rw [e2] at hhas
       have hN2:=or_lt100 hN hi
       by_cases q2:N.testBit (l.idxOf (rn s pos:Int))
       · have HE:Hid (parseR l s=(0,(k:Int),42)):=by
          have:=HR.out.trans hgo.out.symm
          rw [psGo,if_pos q1,if_pos q2] at this
          exact this
         rw [q2] at hhas
         clear hgo HR hfv e2 q2 q1 hput hN2
         generalize l.idxOf (rn s pos:Int)=i at *
         generalize (rn s pos:Int)=c at *
         simp only [sv] at hhas
         go_wp2_with (first | (go_at_call 33;refine hat.mono ?_;rintro e u1 ⟨rfl,hb1⟩;have hsz1:=hb1.size;have g1:=(hb1.block _ (by omega)).trans hvar;have c0:=zca g1 0;have k1:=(H1.out).carry hb1;have k2:=(H2.out).carry hb1) | (go_at_call 35;refine (hfi _ hb1).mono ?_;rintro e u2 ⟨rfl,rfl⟩;obtain⟨y0,y1,y2,y3,z0,z1,z2,z3⟩:=k2.facts;have H3:Hid (Zh4 u2 (w.heap.size+1) (fun _=>0)):=k1;clear k1 k2) | (go_at_call 122;refine (hhas _).mono ?_;rintro e u3 ⟨rfl,hb3⟩;have k3:=(H3.out).carry hb3;have hs3:=k3.lt;obtain⟨x0,x1,x2,x3,r0,r1,r2,r3⟩:=k3.facts;have H4:Hid (Zh4 u3 (w.heap.size+1) (fun _=>0)):=k3;clear k3))
         rw [← set4z,HE.out]
         exact ret4u rfl rfl rfl rfl rfl (fin4 H4.out 0) ⟨rfl,below4 ((hbw.trans (hb1.mono (by omega))).trans (hb3.mono (by omega))) (by omega) _⟩
       · have HG:Hid (psGo l (N ||| 2 ^ l.idxOf (rn s pos:Int)) (k+1) (charsFrom s f (pos+wdt s pos))=psGo l 0 0 (charsOf s)):=by
          have:=hgo.out
          rw [psGo,if_pos q1,if_neg q2] at this
          exact this
         rw [Bool.not_eq_true] at q2
         rw [q2] at hhas
         clear hgo hfv e2 q2 q1
         generalize N ||| 2 ^ l.idxOf (rn s pos:Int)=N2 at *
         generalize l.idxOf (rn s pos:Int)=i at *
         generalize (rn s pos:Int)=c at *
         simp only [sv] at hhas hput
         go_wp2_with (first | (go_at_call 33;refine hat.mono ?_;rintro e u1 ⟨rfl,hb1⟩;have hsz1:=hb1.size;have g1:=(hb1.block _ (by omega)).trans hvar;have c0:=zca g1 0;have k1:=(H1.out).carry hb1;have k2:=(H2.out).carry hb1) | (go_at_call 35;refine (hfi _ hb1).mono ?_;rintro e u2 ⟨rfl,rfl⟩;obtain⟨y0,y1,y2,y3,z0,z1,z2,z3⟩:=k2.facts;have H3:Hid (Zh4 u2 (w.heap.size+1) (fun _=>0)):=k1;have H5:Hid (Zh4 u2 (w.heap.size+2) (wd N)):=k2;clear k1 k2) | (go_at_call 122;refine (hhas _).mono ?_;rintro e u3 ⟨rfl,hb3⟩;have hsz3:=hb3.size;have k3:=(H5.out).carry hb3;have hs3:=k3.lt;obtain⟨x0,x1,x2,x3,r0,r1,r2,r3⟩:=k3.facts;have H6:Hid (Zh4 u3 (w.heap.size+2) (wd N)):=k3;clear k3) | (go_at_call 175;refine (hput _).mono ?_;rintro e u4 ⟨rfl,hb4⟩;have k4:=(H6.out).carry hb4;have hs4:=k4.lt;obtain⟨m0,m1,m2,m3,n0,n1,n2,n3⟩:=k4.facts;have H7:Hid (Zh4 u4 (w.heap.size+2) (wd N)):=k4;clear k4))
         go_roundw
         case rel =>
          have k1:Zh4 (set4 u4 (w.heap.size+2) N2) (w.heap.size+2) (wd N2):=fin4 H7.out N2
          have k2:(set4 u4 (w.heap.size+2) N2).heap[w.heap.size]? = some (.cells #[.slice ad l.length cap] 53 (0,0)):=(set4_other _ _ _ _ (by omega)).trans ((hb4.block _ (by omega)).trans ((hb3.block _ (by omega)).trans g1))
          have k3:Zh4 (set4 u4 (w.heap.size+2) N2) (w.heap.size+1) (fun _=>0):=(set4_other _ _ _ _ (by omega)).trans (((H3.out).carry hb3).carry hb4)
          have k5:Below w.heap.size w (set4 u4 (w.heap.size+2) N2):=below4 (((hbw.trans (hb1.mono (by omega))).trans (hb3.mono (by omega))).trans (hb4.mono (by omega))) (by omega) _
          exact⟨pos+wdt s pos,f,k+1,N2,HG,by omega,by omega,hwl,by simp,by simp,hN2,k2,k3,k1,k5⟩
         case measure=>simp [RowKit.intOf];omega
     · have HE:Hid (parseR l s=(0,(k:Int),41)):=by
         have:=HR.out.trans hgo.out.symm
         rw [psGo,if_neg q1] at this
         exact this
       have hfv:findV l (rn s pos:Int)=-1:=by rw [findV,if_neg q1]
       simp only [hfv] at hfi
       clear hgo HR hfv q1
       generalize (rn s pos:Int)=c at *
       generalize looseB s pos=lo at *
       cases lo with
       | true =>
         go_wp2_with (first | (go_at_call 33;refine hat.mono ?_;rintro e u1 ⟨rfl,hb1⟩;have hsz1:=hb1.size;have g1:=(hb1.block _ (by omega)).trans hvar;have c0:=zca g1 0;have k1:=(H1.out).carry hb1;have hs1:=k1.lt) | (go_at_call 35;refine (hfi _ hb1).mono ?_;rintro e u2 ⟨rfl,rfl⟩;obtain⟨y0,y1,y2,y3,z0,z1,z2,z3⟩:=k1.facts;have H3:Hid (Zh4 u2 (w.heap.size+1) (fun _=>0)):=k1;clear k1))
         rw [← set4z,HE.out]
         exact ret4u rfl rfl rfl rfl rfl (fin4 H3.out 0) ⟨rfl,below4 (hbw.trans (hb1.mono (by omega))) (by omega) _⟩
       | false =>
         go_wp2_with (first | (go_at_call 33;refine hat.mono ?_;rintro e u1 ⟨rfl,hb1⟩;have hsz1:=hb1.size;have g1:=(hb1.block _ (by omega)).trans hvar;have c0:=zca g1 0;have k1:=(H1.out).carry hb1;have hs1:=k1.lt) | (go_at_call 35;refine (hfi _ hb1).mono ?_;rintro e u2 ⟨rfl,rfl⟩;obtain⟨y0,y1,y2,y3,z0,z1,z2,z3⟩:=k1.facts;have H3:Hid (Zh4 u2 (w.heap.size+1) (fun _=>0)):=k1;clear k1))
         rw [← set4z,HE.out]
         exact ret4u rfl rfl rfl rfl rfl (fin4 H3.out 0) ⟨rfl,below4 (hbw.trans (hb1.mono (by omega))) (by omega) _⟩
   · have hpi:¬ (pos:Int)<(s.size:Int):=by omega
     have HE:Hid (parseR l s=(N,0,0)):=by
       have:=hgo.out
       rw [charsFrom_end s fuel pos hp,psGo] at this
       exact HR.out.trans this.symm
     clear hgo HR
     obtain⟨y0,y1,y2,y3,z0,z1,z2,z3⟩:=hset.facts
     obtain⟨x0,x1,x2,x3,r0,r1,r2,r3⟩:=hres.facts
     have H1:Hid (Zh4 wr (w.heap.size+1) (fun _=>0)):=hres
     clear hset hres
     go_wp2
     rw [HE.out]
     exact ret4u rfl rfl rfl rfl rfl (fin4 H1.out N) ⟨rfl,below4 hbw (by omega) _⟩
theorem run_store_inT {P:Program}(w:World)(g o:Nat)(t ty:TypeId)(cur vs:List Value)(hg:w.heap[g]? = some (.cells cur.toArray t (0,0)))(hi:(P.info? ty).map (·.size)=some vs.length)(hf:o+vs.length≤cur.length)(h1:∀ v∈vs,v.oneCell'=true) :
  (Instr.storeAt ty (.pointer (some ⟨g,o,none⟩)) (.agg vs.toArray)).run P w=.ok () (w.setRow g (splice cur o vs).toArray):=by
 have:=run_storeCells_at P g o t vs 0 cur.toArray w hg (by simpa using hf) h1
 cases hq:P.info? ty with
 | none=>simp [hq] at hi
 | some i =>
  have hs:vs.length=i.size:=by simp [hq] at hi;omega
  simp only [Nat.add_zero] at this
  simp [Instr.storeAt,Instr.sureAddr,storeVar,sizeOf,typeInfo,hq,Value.cells,hs,this,splice]
def dsC (ad:Option Addr)(n cap at':Nat)(kd fr rd:Int)(N:Nat)(v:Value):Array Value:=#[.slice ad n cap,.int .i64 (at':Int),.int .i64 kd,.int .i64 fr,.int .i64 rd,.int .u32 (wd N 0:Nat),.int .u32 (wd N 1:Nat),.int .u32 (wd N 2:Nat),.int .u32 (wd N 3:Nat),v]
structure Dsk (p:Nat)(l:List Tk4)(ad:Option Addr)(cap at':Nat)(kd fr rd:Int)(N:Nat)(v:Value)(W:World):Prop where
 bx:W.heap[p]? = some (.cells (dsC ad l.length cap at' kd fr rd N v) 113 (0,0))
 wd:RdK W ad l
 ne:∀ b off,ad=some ⟨b,off,none⟩→b<p
theorem Dsk.carry {p:Nat}{l:List Tk4}{ad:Option Addr}{cap at':Nat}{kd fr rd:Int}{N:Nat}{v:Value}{W V:World}(h:Dsk p l ad cap at' kd fr rd N v W)(hb:Below W.heap.size W V):Dsk p l ad cap at' kd fr rd N v V:=⟨(hb.block _ (zla h.bx)).trans h.bx,h.wd.carry hb,h.ne⟩
theorem Dsk.put {p:Nat}{l:List Tk4}{ad:Option Addr}{cap at' at2:Nat}{kd fr rd kd2 fr2 rd2:Int}{N N2:Nat}{v v2:Value}{W V:World}(h:Dsk p l ad cap at' kd fr rd N v W)(ho:Below p W V)(hp:V.heap[p]? = some (.cells (dsC ad l.length cap at2 kd2 fr2 rd2 N2 v2) 113 (0,0))):Dsk p l ad cap at2 kd2 fr2 rd2 N2 v2 V:=⟨hp,h.wd.at ho.size (fun b off e _=>ho.block b (h.ne b off e)),h.ne⟩
theorem ob_set (p j:Nat)(x:Value)(W:World):Ob p W (W.setCell ⟨p,j,none⟩ x):=⟨rfl,rfl,rfl,by simp [World.setCell],fun q _ h2=>Below.heap_setCell _ _ _ _ h2⟩
theorem bl_set (p j:Nat)(x:Value)(W:World):Below p W (W.setCell ⟨p,j,none⟩ x):=(Below.refl p W).setCell (p:=⟨p,j,none⟩) (Nat.le_refl p) x
theorem Ob.toB {p:Nat}{W V:World}(h:Ob p W V)(hp:p≤W.heap.size):Below p W V:=⟨h.os,h.tape,h.output,h.size,fun q hq=>h.block q (by omega) (by omega)⟩
theorem Dsk.at {p:Nat}{l:List Tk4}{ad:Option Addr}{cap at':Nat}{kd fr rd:Int}{N:Nat}{v:Value}{W:World}(h:Dsk p l ad cap at' kd fr rd N v W)(k:Nat):Dsk p l ad cap k kd fr rd N v (W.setCell ⟨p,1,none⟩ (.int .i64 (k:Int))):=by
 refine h.put (bl_set _ _ _ _) ?_
 have:=set_get 1 (.int .i64 (k:Int)) h.bx
 simpa [dsC] using this
theorem here_some {l:List Tk4}{i:Nat}(h:i<l.length):l[i]? = some (hereT l i):=by
 unfold hereT
 rw [List.getElem?_eq_getElem h]
 rfl
theorem here_none {l:List Tk4}{i:Nat}(h:l.length≤i):hereT l i=(0,⟨#[]⟩,0,1):=by
 unfold hereT
 rw [List.getElem?_eq_none h]
 rfl
theorem fld_d0 (W:World)(p:Nat):(Instr.fieldAt 113 (.pointer (some ⟨p,0,none⟩)) 0).run Tryz.prog W=.ok (.pointer (some ⟨p,0,none⟩)) W:=by go_simp
theorem fld_d1 (W:World)(p:Nat):(Instr.fieldAt 113 (.pointer (some ⟨p,0,none⟩)) 1).run Tryz.prog W=.ok (.pointer (some ⟨p,1,none⟩)) W:=by go_simp
theorem ld_d0 {p:Nat}{l:List Tk4}{ad:Option Addr}{cap at':Nat}{kd fr rd:Int}{N:Nat}{v:Value}{W:World}(h:Dsk p l ad cap at' kd fr rd N v W):(Instr.loadAt 44 (.pointer (some ⟨p,0,none⟩))).run Tryz.prog W=.ok (.slice ad l.length cap) W:=by
 have c0:W.cell? ⟨p,0,none⟩=some (.slice ad l.length cap):=(zca h.bx 0).trans rfl
 go_simp
theorem ld_d1 {p:Nat}{l:List Tk4}{ad:Option Addr}{cap at':Nat}{kd fr rd:Int}{N:Nat}{v:Value}{W:World}(h:Dsk p l ad cap at' kd fr rd N v W):(Instr.loadAt 3 (.pointer (some ⟨p,1,none⟩))).run Tryz.prog W=.ok (.int .i64 (at':Int)) W:=by
 have c0:W.cell? ⟨p,1,none⟩=some (.int .i64 (at':Int)):=(zca h.bx 1).trans rfl
 go_simp
theorem bi_lenK (t:TypeId)(bs:Array Bool)(a:Option Addr)(n c:Nat)(w:World):(builtin .len #[44] t bs #[.slice a n c]).run Tryz.prog w=.ok (.value (.int .i64 (n:Int))) w:=by
 show ((do pure (.value (← Builtin.len_ #[44] t #[.slice a n c]))):Sem Next).run Tryz.prog w=_
 go_simp
theorem st_tk {W:World}{b:Nat}{y:Tk4}(x:Tk4)(h:W.heap[b]? = some (.cells (tkC y) 48 (0,0))):(Instr.storeAt 48 (.pointer (some ⟨b,0,none⟩)) (tk4 x)).run Tryz.prog W=.ok () (W.setRow b (tkC x)) :=
 run_store_inT (P:=Tryz.prog) W b 0 48 48 (tkC y).toList (tkC x).toList h infoTk (Nat.le_refl 4) (by simp [tkC,Value.oneCell'])
structure JH8 (b:Nat)(y:Tk4)(w W:World):Prop where
 bx:W.heap[b]? = some (.cells (tkC y) 48 (0,0))
 be:Below w.heap.size w W
theorem JH8.carry {b:Nat}{y:Tk4}{w W V:World}(h:JH8 b y w W)(hb:Below W.heap.size W V):JH8 b y w V:=⟨(hb.block _ (zla h.bx)).trans h.bx,bel3 h.be hb⟩
theorem JH8.st {b:Nat}{y:Tk4}{w W:World}(h:JH8 b y w W)(x:Tk4)(hb:w.heap.size≤b):JH8 b x w (W.setRow b (tkC x)):=⟨setRow_heap _ _ _ _ _ _ h.bx,h.be.os,h.be.tape,h.be.output,by simp [World.setRow];exact h.be.size,fun q hq=>(Go.setRow_other _ _ _ _ (by omega)).trans (h.be.block q hq)⟩
theorem here_any {p:Nat}{l:List Tk4}{ad:Option Addr}{cap at':Nat}{kd fr rd:Int}{N:Nat}{v:Value}{w:World}(h:Dsk p l ad cap at' kd fr rd N v w)(ha:at'≤1000000):Calls Tryz.prog 38 #[.pointer (some ⟨p,0,none⟩)] w fun e w'=>e=.returned (tk4 (hereT l at'))∧Below w.heap.size w w':=by
 have hmx:=mixO
 obtain⟨W1,hW1⟩:∃ W1,w.alloc (.cells #[.int .i64 0,.string ⟨#[]⟩,.int .i64 0,.int .i64 0] 48)=W1:=⟨_,rfl⟩
 have hb1:Below w.heap.size w W1:=by rw [← hW1];exact al1t _ _
 have hr1:W1.heap[w.heap.size]? = some (.cells (tkC (0,⟨#[]⟩,0,0)) 48 (0,0)):=by rw [← hW1];exact zna rfl
 have hJ:Hid (JH8 w.heap.size (0,⟨#[]⟩,0,0) w W1):=⟨hr1,hb1⟩
 have HD:Hid (Dsk p l ad cap at' kd fr rd N v w):=h
 clear h hr1 hb1
 obtain⟨n,hn⟩:∃ n,l.length=n:=⟨_,rfl⟩
 have hn':Hid (l.length=n):=hn
 by_cases hlt:at'<n
 · have hd:decide ((at':Int)<(n:Int))=true:=decide_eq_true (by omega)
   obtain⟨x,hx⟩:∃ x,hereT l at'=x:=⟨_,rfl⟩
   have hxs:=here_some (l:=l) (i:=at') (by omega)
   rw [hx] at hxs ⊢
   obtain⟨b,off,hadr,hblt,hat⟩:=HD.out.wd (fun e=>by rw [e] at hn;simp at hn;omega)
   subst hadr
   have hix:=idx_tk b off n cap at' hlt
   have HX:Hid (l[at']? = some x):=hxs
   have HP:Hid (∀ V,Below w.heap.size w V→(Instr.loadAt 48 (.pointer (some ⟨b,off+at'*4,none⟩))).run Tryz.prog V=.ok (tk4 x) V):=fun V hV=>by
     obtain⟨b',off',e',h1,h2⟩:=(HD.out.carry hV).wd (fun e=>by rw [e] at hn;simp at hn;omega)
     cases e'
     exact load_tk (h2 at' x HX.out)
   clear hx hxs hn hat
   go_enter Tryz.func38,Tryz.ntmps38
   go_wp2
   refine wp_region_any hmx ?_
   refine zwp (fun i__=>([(.pointer (some ⟨p,0,none⟩)),(.pointer (some ⟨p,0,none⟩)),(.pointer (some ⟨p,1,none⟩)),(.int .i64 (at':Int)),(.pointer (some ⟨p,0,none⟩)),(.pointer (some ⟨p,0,none⟩)),(.pointer (some ⟨p,0,none⟩)),(.slice (some ⟨b,off,none⟩) n cap),(.int .i64 (n:Int)),(.bool true)]:List Value).getD i__ undef) (fun V=>JH8 w.heap.size (0,⟨#[]⟩,0,0) w V) (by kernel_rfl) (hJ.out.carry (Below.refl _ _).drew) ?_ ?_
   · refine (sqc ?_ (sqc ?_ (sqc ?_ (sqc ?_ (sqc ?_ (sqc ?_ (sqc ?_ (sqc ?_ (sqc ?_ (sqc ?_ trivial))))))))))
     · exact zmv rfl trivial _ rfl (by kernel_rfl)
     · exact znc rfl trivial _ _ _ rfl rfl rfl
     · exact zfa rfl trivial _ _ _ _ rfl rfl (fun v hw=>fld_d1 v _)
     · exact zld rfl trivial _ _ _ rfl rfl (fun v hw=>ld_d1 (HD.out.carry hw.be))
     · exact zmv rfl trivial _ rfl (by kernel_rfl)
     · exact znc rfl trivial _ _ _ rfl rfl rfl
     · exact zfa rfl trivial _ _ _ _ rfl rfl (fun v hw=>fld_d0 v _)
     · exact zld rfl trivial _ _ _ rfl rfl (fun v hw=>by rw [← hn'.out];exact ld_d0 (HD.out.carry hw.be))
     · exact step_bi rfl trivial _ _ _ [(.slice (some ⟨b,off,none⟩) n cap)] rfl (by kernel_rfl) (fun cs w hw=>bi_lenK _ cs _ _ _ w)
     · exact zbo rfl trivial _ _ _ _ _ _ _ rfl rfl rfl (fun w hw=>by rw [← hd];exact bin_lss _ _ _)
   intro W hW
   first | refine hK _ _ ?_ | refine (‹∀ (a:Act) (w:World),Code.wp Tryz.prog _ _ a w→_›) _ _ ?_ | skip
   simp only [finL,List.getD_cons_zero,List.getD_cons_succ,Nat.zero_add,Nat.reduceAdd,List.setIfInBounds_toArray,List.set_cons_zero,List.set_cons_succ]
   have hJ2:Hid (JH8 w.heap.size (0,⟨#[]⟩,0,0) w W):=hW
   clear hJ hW
   go_wp2
   refine wp_region_any hmx ?_
   refine zwt (G:=(Unit)) (fun g i__=>([(.pointer (some ⟨p,0,none⟩)),(.pointer (some ⟨p,0,none⟩)),(.pointer (some ⟨p,0,none⟩)),(.slice (some ⟨b,off,none⟩) n cap),(.pointer (some ⟨p,0,none⟩)),(.pointer (some ⟨p,0,none⟩)),(.pointer (some ⟨p,1,none⟩)),(.int .i64 (at':Int)),(.pointer (some ⟨b,off+at'*4,none⟩)),(tk4 x),undef]:List Value).getD i__ undef) (fun _ d V=>JH8 w.heap.size (if d 10=true then x else (0,⟨#[]⟩,0,0)) w V) (by kernel_rfl) (()) (hJ2.out.carry (Below.refl _ _).drew) ?step26 ?fin26
   case step26 =>
     intro i o ho
     have hi:i<11:=getElem?_lt ho
     match i,hi,ho with
     | 0,_,ho=>cases ho;exact zgo fun g d hdep=>zmv rfl trivial _ rfl (by kernel_rfl)
     | 1,_,ho=>cases ho;exact zgo fun g d hdep=>znc rfl trivial _ _ _ rfl rfl rfl
     | 2,_,ho=>cases ho;exact zgo fun g d hdep=>zfa rfl trivial _ _ _ _ rfl rfl (fun v hw=>fld_d0 v _)
     | 3,_,ho=>cases ho;exact zgo fun g d hdep=>zld rfl trivial _ _ _ rfl rfl (fun v hw=>by rw [← hn'.out];exact ld_d0 (HD.out.carry hw.be))
     | 4,_,ho=>cases ho;exact zgo fun g d hdep=>zmv rfl trivial _ rfl (by kernel_rfl)
     | 5,_,ho=>cases ho;exact zgo fun g d hdep=>znc rfl trivial _ _ _ rfl rfl rfl
     | 6,_,ho=>cases ho;exact zgo fun g d hdep=>zfa rfl trivial _ _ _ _ rfl rfl (fun v hw=>fld_d1 v _)
     | 7,_,ho=>cases ho;exact zgo fun g d hdep=>zld rfl trivial _ _ _ rfl rfl (fun v hw=>ld_d1 (HD.out.carry hw.be))
     | 8,_,ho=>cases ho;exact zgo fun g d hdep=>zia rfl trivial _ _ _ _ _ rfl rfl rfl (fun w hw=>hix w)
     | 9,_,ho=>cases ho;exact zgo fun g d hdep=>zld rfl trivial _ _ _ rfl rfl (fun V hw=>HP.out V hw.be)
     | 10,_,ho=>cases ho;exact zgo fun g d hdep=>step_store rfl trivial rfl _ _ _ _ _ rfl rfl rfl (fun V hw=>⟨_,st_tk x hw.bx,hw.st x (Nat.le_refl _)⟩)
   intro g d W hall hW
   first | refine hK _ _ ?_ | refine (‹∀ (a:Act) (w:World),Code.wp Tryz.prog _ _ a w→_›) _ _ ?_ | skip
   simp only [finL,List.getD_cons_zero,List.getD_cons_succ,Nat.zero_add,Nat.reduceAdd,List.setIfInBounds_toArray,List.set_cons_zero,List.set_cons_succ]
   have hjW:JH8 w.heap.size x w W:=by have:=hW;rw [hall 10 (by decide)] at this;exact this
   have hr:=hjW.bx
   have hbe:=hjW.be
   clear hW hall hjW hJ2
   go_wp2
   refine retTk (x:=x) rfl rfl rfl hr ?_
   exact⟨rfl,hbe⟩
 · have hd:decide ((at':Int)<(n:Int))=false:=decide_eq_false (by omega)
   have hx:=here_none (l:=l) (i:=at') (by omega)
   rw [hx]
   clear hn hx
   go_enter Tryz.func38,Tryz.ntmps38
   go_wp2
   refine wp_region_any hmx ?_
   refine zwp (fun i__=>([(.pointer (some ⟨p,0,none⟩)),(.pointer (some ⟨p,0,none⟩)),(.pointer (some ⟨p,1,none⟩)),(.int .i64 (at':Int)),(.pointer (some ⟨p,0,none⟩)),(.pointer (some ⟨p,0,none⟩)),(.pointer (some ⟨p,0,none⟩)),(.slice ad n cap),(.int .i64 (n:Int)),(.bool false)]:List Value).getD i__ undef) (fun V=>JH8 w.heap.size (0,⟨#[]⟩,0,0) w V) (by kernel_rfl) (hJ.out.carry (Below.refl _ _).drew) ?_ ?_
   · refine (sqc ?_ (sqc ?_ (sqc ?_ (sqc ?_ (sqc ?_ (sqc ?_ (sqc ?_ (sqc ?_ (sqc ?_ (sqc ?_ trivial))))))))))
     · exact zmv rfl trivial _ rfl (by kernel_rfl)
     · exact znc rfl trivial _ _ _ rfl rfl rfl
     · exact zfa rfl trivial _ _ _ _ rfl rfl (fun v hw=>fld_d1 v _)
     · exact zld rfl trivial _ _ _ rfl rfl (fun v hw=>ld_d1 (HD.out.carry hw.be))
     · exact zmv rfl trivial _ rfl (by kernel_rfl)
     · exact znc rfl trivial _ _ _ rfl rfl rfl
     · exact zfa rfl trivial _ _ _ _ rfl rfl (fun v hw=>fld_d0 v _)
     · exact zld rfl trivial _ _ _ rfl rfl (fun v hw=>by rw [← hn'.out];exact ld_d0 (HD.out.carry hw.be))
     · exact step_bi rfl trivial _ _ _ [(.slice ad n cap)] rfl (by kernel_rfl) (fun cs w hw=>bi_lenK _ cs _ _ _ w)
     · exact zbo rfl trivial _ _ _ _ _ _ _ rfl rfl rfl (fun w hw=>by rw [← hd];exact bin_lss _ _ _)
   intro W hW
   first | refine hK _ _ ?_ | refine (‹∀ (a:Act) (w:World),Code.wp Tryz.prog _ _ a w→_›) _ _ ?_ | skip
   simp only [finL,List.getD_cons_zero,List.getD_cons_succ,Nat.zero_add,Nat.reduceAdd,List.setIfInBounds_toArray,List.set_cons_zero,List.set_cons_succ]
   have hr:=hW.bx
   have hbe:=hW.be
   have h2:(JH8.st hW (0,⟨#[]⟩,0,1) (Nat.le_refl _)).be=_:=rfl
   have hst:=JH8.st hW (0,⟨#[]⟩,0,1) (Nat.le_refl _)
   have HST:Hid (JH8 w.heap.size (0,⟨#[]⟩,0,1) w (W.setRow w.heap.size (tkC (0,⟨#[]⟩,0,1)))):=hst
   obtain⟨V,hV⟩:∃ V,W.setRow w.heap.size (tkC (0,⟨#[]⟩,0,1))=V:=⟨_,rfl⟩
   rw [hV] at HST
   clear hW hJ hst h2
   go_wp2_with (refine wpList_store_row rfl 48 (.tmp 2) (.tmp 23) rfl w.heap.size (tkC (0,⟨#[]⟩,0,1)) rfl rfl 48 _ hr infoTk rfl (by simp [tkC,Value.oneCell']) ?_;rw [hV])
   refine retTk (x:=(0,⟨#[]⟩,0,1)) rfl rfl rfl HST.out.bx ?_
   exact⟨rfl,HST.out.be⟩
theorem Dsk.lt {p:Nat}{l:List Tk4}{ad:Option Addr}{cap at':Nat}{kd fr rd:Int}{N:Nat}{v:Value}{w:World}(h:Dsk p l ad cap at' kd fr rd N v w):p<w.heap.size:=zla h.bx
theorem Dsk.c1 {p:Nat}{l:List Tk4}{ad:Option Addr}{cap at':Nat}{kd fr rd:Int}{N:Nat}{v:Value}{w:World}(h:Dsk p l ad cap at' kd fr rd N v w):w.cell? ⟨p,1,none⟩=some (.int .i64 (at':Int)):=(zca h.bx 1).trans rfl
def mkD (x:Tk4)(s:ByteArray):Bool:=x.1 == 5 && x.2.1.toList == s.toList
theorem mark_no {p:Nat}{l:List Tk4}{ad:Option Addr}{cap at':Nat}{kd fr rd:Int}{N:Nat}{v:Value}{w:World}(h:Dsk p l ad cap at' kd fr rd N v w)(ha:at'≤1000000)(s:ByteArray)(hm:mkD (hereT l at') s=false):Calls Tryz.prog 117 #[.pointer (some ⟨p,0,none⟩),.string s] w fun e w'=>e=.returned (.bool false)∧Below w.heap.size w w':=by
 have HH:=here_any h ha
 obtain⟨x,hx⟩:∃ x,hereT l at'=x:=⟨_,rfl⟩
 rw [hx] at HH hm
 unfold tk4 tkV at HH
 unfold mkD at hm
 clear h hx
 cases hk:(x.1 == 5) with
 | false =>
  have hk2:(x.1 != 5)=true:=by simp at hk ⊢;exact hk
  clear hk hm
  go_enter Tryz.func117,Tryz.ntmps117
  go_wp2_with (first | (go_at_call 38;(with_reducible refine HH.mono ?_);rintro e u ⟨rfl,hbu⟩;obtain⟨u2,u3,hu2,hu3,hr2,hr3,hb3,hs3⟩:=box_word u x) | (refine wpList_store_row rfl 48 (.tmp 5) (.tmp 7) rfl u.heap.size (tkC x) rfl rfl 48 _ hr2 infoTk rfl (by simp [tkC,Value.oneCell']) ?_;rw [hu3];(have p0:u3.cell? ⟨u.heap.size,0,none⟩=some (.int .i64 x.1):=(zca hr3 0).trans rfl);(have p1:u3.cell? ⟨u.heap.size,1,none⟩=some (.string x.2.1):=(zca hr3 1).trans rfl)))
  go_ret
  exact⟨rfl,bel3 hbu hb3⟩
 | true =>
  have hk2:(x.1 != 5)=false:=by simp at hk ⊢;exact hk
  rw [hk,Bool.true_and] at hm
  have hm2:(x.2.1.toList != s.toList)=true:=by simp at hm ⊢;exact hm
  clear hk
  go_enter Tryz.func117,Tryz.ntmps117
  go_wp2_with (first | (go_at_call 38;(with_reducible refine HH.mono ?_);rintro e u ⟨rfl,hbu⟩;obtain⟨u2,u3,hu2,hu3,hr2,hr3,hb3,hs3⟩:=box_word u x) | (refine wpList_store_row rfl 48 (.tmp 5) (.tmp 7) rfl u.heap.size (tkC x) rfl rfl 48 _ hr2 infoTk rfl (by simp [tkC,Value.oneCell']) ?_;rw [hu3];(have p0:u3.cell? ⟨u.heap.size,0,none⟩=some (.int .i64 x.1):=(zca hr3 0).trans rfl);(have p1:u3.cell? ⟨u.heap.size,1,none⟩=some (.string x.2.1):=(zca hr3 1).trans rfl)))
  go_ret
  exact⟨rfl,bel3 hbu hb3⟩
theorem mark_yes {p:Nat}{l:List Tk4}{ad:Option Addr}{cap at':Nat}{kd fr rd:Int}{N:Nat}{v:Value}{w:World}(h:Dsk p l ad cap at' kd fr rd N v w)(ha:at'≤1000000)(s:ByteArray)(hm:mkD (hereT l at') s=true):Calls Tryz.prog 117 #[.pointer (some ⟨p,0,none⟩),.string s] w fun e w'=>e=.returned (.bool true)∧Dsk p l ad cap (at'+1) kd fr rd N v w'∧Ob p w w':=by
 have HH:=here_any h ha
 obtain⟨x,hx⟩:∃ x,hereT l at'=x:=⟨_,rfl⟩
 rw [hx] at HH hm
 unfold tk4 tkV at HH
 unfold mkD at hm
 have HD:Hid (Dsk p l ad cap at' kd fr rd N v w):=h
 have hpl:=h.lt
 rw [Bool.and_eq_true] at hm
 obtain⟨hk,hm⟩:=hm
 have hk2:(x.1 != 5)=false:=by simp at hk ⊢;exact hk
 have hm3:x.2.1.toList=s.toList:=by simpa using hm
 clear h hx hk hm
 obtain⟨k,hkk⟩:∃ k,k=at'+1:=⟨_,rfl⟩
 have hadd:(at':Int)+1=(k:Int):=by omega
 have HK:Hid (k=at'+1):=hkk
 clear hkk
 go_enter Tryz.func117,Tryz.ntmps117
 go_wp2_with (first | (go_at_call 38;(with_reducible refine HH.mono ?_);rintro e u ⟨rfl,hbu⟩;obtain⟨u2,u3,hu2,hu3,hr2,hr3,hb3,hs3⟩:=box_word u x) | (refine wpList_store_row rfl 48 (.tmp 5) (.tmp 7) rfl u.heap.size (tkC x) rfl rfl 48 _ hr2 infoTk rfl (by simp [tkC,Value.oneCell']) ?_;rw [hu3];(have p0:u3.cell? ⟨u.heap.size,0,none⟩=some (.int .i64 x.1):=(zca hr3 0).trans rfl);(have p1:u3.cell? ⟨u.heap.size,1,none⟩=some (.string x.2.1):=(zca hr3 1).trans rfl);(have hB3:=bel3 hbu hb3);(have HD3:Hid (Dsk p l ad cap at' kd fr rd N v u3):=HD.out.carry hB3);(have c1:=HD3.out.c1);(have z1:=zta HD3.out.bx 1)))
 go_ret
 have hd:=HD3.out.at k
 exact⟨rfl,by rw [← HK.out];exact hd,(Ob.of (bel3 hbu hb3)).trans (ob_set _ _ _ _)⟩
structure En8 (M:Nat)(L:List Int)(rv:Value)(p:Nat)(w:World):Prop where
 ros:∀ V,Below p w V→RosR M V rv L
 pb:M≤p
 le:M≤w.heap.size
theorem En8.on {M:Nat}{L:List Int}{rv:Value}{p:Nat}{w V:World}(h:En8 M L rv p w)(ho:Below p w V):En8 M L rv p V:=⟨fun U hU=>h.ros U (ho.trans hU),h.pb,Nat.le_trans h.le ho.size⟩
def Shw6 (l:List Tk4):Prop:=∀ i,(hereT l i).2.1.size≤65536
theorem sign_one {p:Nat}{l:List Tk4}{ad:Option Addr}{cap at':Nat}{kd fr rd:Int}{N:Nat}{v:Value}{w:World}{L:List Int}{ra:Option Addr}{rc:Nat}(h:Dsk p l ad cap at' kd fr rd N v w)(hS:Shw6 l)(ha:at'≤1000000)(hm:oneS (hereT l at')=false):Calls Tryz.prog 114 #[.pointer (some ⟨p,0,none⟩),.agg #[.slice ra L.length rc]] w fun e w'=>e=.returned (.int .i64 (-1))∧Below w.heap.size w w':=by
 obtain⟨W1,hW1⟩:∃ W1,w.alloc (.cells #[.slice ra L.length rc] 53)=W1:=⟨_,rfl⟩
 have hb1:Below w.heap.size w W1:=by rw [← hW1];exact al1t _ _
 have HH:=here_any (h.carry hb1) ha
 obtain⟨x,hx⟩:∃ x,hereT l at'=x:=⟨_,rfl⟩
 have hxs:=hS at'
 rw [hx] at HH hm hxs
 have HC:∀ V,Calls Tryz.prog 111 #[.string x.2.1] V fun e w'=>e=.returned (.int .i64 (starts x.2.1).length)∧Below V.heap.size V w':=fun V=>refCount_any x.2.1 (by omega) V
 obtain⟨n,hn⟩:∃ n,(starts x.2.1).length=n:=⟨_,rfl⟩
 unfold oneS at hm
 rw [hn] at hm HC
 unfold tk4 tkV at HH
 obtain⟨n0,hn0⟩:∃ n0,L.length=n0:=⟨_,rfl⟩
 rw [hn0] at hW1 ⊢
 clear h hx hn hn0
 cases hk:(x.1 == 2) with
 | false =>
  have hk2:(x.1 != 2)=true:=by simp at hk ⊢;exact hk
  clear hk hm
  go_enter Tryz.func114,Tryz.ntmps114
  go_wp2_with (first | (go_at_call 38;(with_reducible refine HH.mono ?_);rintro e u ⟨rfl,hbu⟩;obtain⟨u2,u3,hu2,hu3,hr2,hr3,hb3,hs3⟩:=box_word u x) | (refine wpList_store_row rfl 48 (.tmp 5) (.tmp 11) rfl u.heap.size (tkC x) rfl rfl 48 _ hr2 infoTk rfl (by simp [tkC,Value.oneCell']) ?_;rw [hu3];(have p0:u3.cell? ⟨u.heap.size,0,none⟩=some (.int .i64 x.1):=(zca hr3 0).trans rfl);(have p1:u3.cell? ⟨u.heap.size,1,none⟩=some (.string x.2.1):=(zca hr3 1).trans rfl)))
  go_ret
  exact⟨rfl,bel3 hb1 (bel3 hbu hb3)⟩
 | true =>
  have hk2:(x.1 != 2)=false:=by simp at hk ⊢;exact hk
  rw [hk,Bool.true_and] at hm
  have hm2:((n:Int) != 1)=true:=by simp at hm ⊢;omega
  clear hk hm
  go_enter Tryz.func114,Tryz.ntmps114
  go_wp2_with (first | (go_at_call 38;(with_reducible refine HH.mono ?_);rintro e u ⟨rfl,hbu⟩;obtain⟨u2,u3,hu2,hu3,hr2,hr3,hb3,hs3⟩:=box_word u x) | (refine wpList_store_row rfl 48 (.tmp 5) (.tmp 11) rfl u.heap.size (tkC x) rfl rfl 48 _ hr2 infoTk rfl (by simp [tkC,Value.oneCell']) ?_;rw [hu3];(have p0:u3.cell? ⟨u.heap.size,0,none⟩=some (.int .i64 x.1):=(zca hr3 0).trans rfl);(have p1:u3.cell? ⟨u.heap.size,1,none⟩=some (.string x.2.1):=(zca hr3 1).trans rfl)) | (go_at_call 111;(with_reducible refine (HC _).mono ?_);rintro e u4 ⟨rfl,hb4⟩))
  go_ret
  exact⟨rfl,bel3 hb1 (bel3 (bel3 hbu hb3) hb4)⟩
theorem sign_two {p:Nat}{l:List Tk4}{ad:Option Addr}{cap at':Nat}{kd fr rd:Int}{N:Nat}{v:Value}{w:World}{M:Nat}{L:List Int}{ra:Option Addr}{rc:Nat}(hE:En8 M L (.agg #[.slice ra L.length rc]) p w)(h:Dsk p l ad cap at' kd fr rd N v w)(hS:Shw6 l)(ha:at'≤1000000)(hm:oneS (hereT l at')=true):Calls Tryz.prog 114 #[.pointer (some ⟨p,0,none⟩),.agg #[.slice ra L.length rc]] w fun e w'=>(¬ ((rn (hereT l at').2.1 0:Nat):Int)∈L→e=.returned (.int .i64 (-2))∧Below w.heap.size w w')∧(((rn (hereT l at').2.1 0:Nat):Int)∈L→e=.returned (.int .i64 ((L.idxOf ((rn (hereT l at').2.1 0:Nat):Int):Nat):Int))∧Dsk p l ad cap (at'+1) kd fr rd N v w'∧Ob p w w'):=by
 obtain⟨W1,hW1⟩:∃ W1,w.alloc (.cells #[.slice ra L.length rc] 53)=W1:=⟨_,rfl⟩
 have hb1:Below w.heap.size w W1:=by rw [← hW1];exact al1t _ _
 have hrb:W1.heap[w.heap.size]? = some (.cells #[.slice ra L.length rc] 53 (0,0)):=by rw [← hW1];exact zna rfl
 have HH:=here_any (h.carry hb1) ha
 have HD:Hid (Dsk p l ad cap at' kd fr rd N v w):=h
 have hpl:=h.lt
 obtain⟨x,hx⟩:∃ x,hereT l at'=x:=⟨_,rfl⟩
 have hxs:=hS at'
 rw [hx] at HH hm hxs ⊢
 obtain⟨hk1,hn1⟩:=oneS_k hm
 have hp0:=pos_of_one hn1
 have HC:∀ V,Calls Tryz.prog 111 #[.string x.2.1] V fun e w'=>e=.returned (.int .i64 1)∧Below V.heap.size V w':=fun V=>(refCount_any x.2.1 (by omega) V).mono (by rintro e w' ⟨rfl,q⟩;exact⟨by rw [hn1],q⟩)
 have HA:∀ V,Calls Tryz.prog 33 #[.string x.2.1,.int .i64 0] V fun e w'=>e=.returned (.tuple #[.int .i64 ((rn x.2.1 0:Nat):Int),.int .i64 (wdt x.2.1 0),.bool (looseB x.2.1 0)])∧Below V.heap.size V w':=fun V=>at_w x.2.1 hxs 0 hp0 V
 have hk2:(x.1 != 2)=false:=by simp;exact hk1
 obtain⟨R0,hR0⟩:∃ R0:Int,((rn x.2.1 0:Nat):Int)=R0:=⟨_,rfl⟩
 rw [hR0] at HA ⊢
 have HI:Hid (∀ V,Ob p w V→Calls Tryz.prog 174 #[.agg #[.slice ra L.length rc],.int .i64 R0] V fun e w'=>e=.returned (.int .i64 (findV L R0))∧Below V.heap.size V w'):=fun V hV=>rId_any V (hE.ros V (hV.toB (Nat.le_of_lt hpl))) (Nat.le_trans hE.le hV.size) R0
 obtain⟨F0,hF0⟩:∃ F0,findV L R0=F0:=⟨_,rfl⟩
 have hFF:=hF0
 unfold findV at hFF
 rw [hF0] at HI
 generalize wdt x.2.1 0=wz at *
 generalize looseB x.2.1 0=lz at *
 unfold tk4 tkV at HH
 obtain⟨n0,hn0⟩:∃ n0,L.length=n0:=⟨_,rfl⟩
 rw [hn0] at hW1 HI hrb ⊢
 clear h hE hx hm hk1 hn1 hn0 hF0
 obtain⟨k,hkk⟩:∃ k,k=at'+1:=⟨_,rfl⟩
 have hadd:(at':Int)+1=(k:Int):=by omega
 have HK:Hid (k=at'+1):=hkk
 clear hkk
 by_cases hin:R0∈L
 · rw [if_pos hin] at hFF
   have HFF:Hid (((L.idxOf R0:Nat):Int)=F0):=hFF
   have hF1:decide (F0<0)=false:=decide_eq_false (by omega)
   have HIN:Hid (R0∈L):=hin
   clear hFF hin
   go_enter Tryz.func114,Tryz.ntmps114
   go_wp2_with (first | (go_at_call 38;(with_reducible refine HH.mono ?_);rintro e u ⟨rfl,hbu⟩;obtain⟨u2,u3,hu2,hu3,hr2,hr3,hb3,hs3⟩:=box_word u x) | (refine wpList_store_row rfl 48 (.tmp 5) (.tmp 11) rfl u.heap.size (tkC x) rfl rfl 48 _ hr2 infoTk rfl (by simp [tkC,Value.oneCell']) ?_;rw [hu3];(have p0:u3.cell? ⟨u.heap.size,0,none⟩=some (.int .i64 x.1):=(zca hr3 0).trans rfl);(have p1:u3.cell? ⟨u.heap.size,1,none⟩=some (.string x.2.1):=(zca hr3 1).trans rfl)) | (go_at_call 111;(with_reducible refine (HC _).mono ?_);rintro e u4 ⟨rfl,hb4⟩;(have r4:=(hb4.block _ (zla hr3)).trans hr3);(have q1:u4.cell? ⟨u.heap.size,1,none⟩=some (.string x.2.1):=(zca r4 1).trans rfl)) | (go_at_call 33;(with_reducible refine (HA _).mono ?_);rintro e u5 ⟨rfl,hb5⟩;(have hB5:=bel3 hb1 (bel3 (bel3 hbu hb3) (bel3 hb4 hb5)));(have hB15:Below W1.heap.size W1 u5:=bel3 (bel3 hbu hb3) (bel3 hb4 hb5));(have rb5:=(hB15.block _ (zla hrb)).trans hrb);(have j0:u5.cell? ⟨w.heap.size,0,none⟩=some (.slice ra n0 rc):=(zca rb5 0).trans rfl)) | (go_at_call 174;(with_reducible refine (HI.out _ (Ob.of hB5)).mono ?_);rintro e u6 ⟨rfl,hb6⟩;(have hB6:=bel3 hB5 hb6);(have HD6:Hid (Dsk p l ad cap at' kd fr rd N v u6):=HD.out.carry hB6);(have c1:=HD6.out.c1);(have z1:=zta HD6.out.bx 1)))
   go_ret
   have hd:=HD6.out.at k
   exact⟨fun q=>absurd HIN.out q,fun _=>⟨by rw [← HFF.out];rfl,by rw [← HK.out];exact hd,(Ob.of hB6).trans (ob_set _ _ _ _)⟩⟩
 · rw [if_neg hin] at hFF
   subst hFF
   have HIN:Hid (¬ R0∈L):=hin
   clear hin
   go_enter Tryz.func114,Tryz.ntmps114
   go_wp2_with (first | (go_at_call 38;(with_reducible refine HH.mono ?_);rintro e u ⟨rfl,hbu⟩;obtain⟨u2,u3,hu2,hu3,hr2,hr3,hb3,hs3⟩:=box_word u x) | (refine wpList_store_row rfl 48 (.tmp 5) (.tmp 11) rfl u.heap.size (tkC x) rfl rfl 48 _ hr2 infoTk rfl (by simp [tkC,Value.oneCell']) ?_;rw [hu3];(have p0:u3.cell? ⟨u.heap.size,0,none⟩=some (.int .i64 x.1):=(zca hr3 0).trans rfl);(have p1:u3.cell? ⟨u.heap.size,1,none⟩=some (.string x.2.1):=(zca hr3 1).trans rfl)) | (go_at_call 111;(with_reducible refine (HC _).mono ?_);rintro e u4 ⟨rfl,hb4⟩;(have r4:=(hb4.block _ (zla hr3)).trans hr3);(have q1:u4.cell? ⟨u.heap.size,1,none⟩=some (.string x.2.1):=(zca r4 1).trans rfl)) | (go_at_call 33;(with_reducible refine (HA _).mono ?_);rintro e u5 ⟨rfl,hb5⟩;(have hB5:=bel3 hb1 (bel3 (bel3 hbu hb3) (bel3 hb4 hb5)));(have hB15:Below W1.heap.size W1 u5:=bel3 (bel3 hbu hb3) (bel3 hb4 hb5));(have rb5:=(hB15.block _ (zla hrb)).trans hrb);(have j0:u5.cell? ⟨w.heap.size,0,none⟩=some (.slice ra n0 rc):=(zca rb5 0).trans rfl)) | (go_at_call 174;(with_reducible refine (HI.out _ (Ob.of hB5)).mono ?_);rintro e u6 ⟨rfl,hb6⟩;(have hB6:=bel3 hB5 hb6);(have HD6:Hid (Dsk p l ad cap at' kd fr rd N v u6):=HD.out.carry hB6);(have c1:=HD6.out.c1);(have z1:=zta HD6.out.bx 1)))
   go_ret
   exact⟨fun _=>⟨rfl,hB6⟩,fun q=>absurd q HIN.out⟩
def nteD (l:List Tk4)(i:Nat)(o:Int):Except ErT N3t :=
 if mrkB (hereT l (i+1))=true then
  if (hereT l (i+1+1)).1=3 then
   if 1048576<(numR (hereT l (i+1+1)).2.1).getD 0 then .error (75,(hereT l (i+1+1)).2.2.2)
   else .ok (o,(((numR (hereT l (i+1+1)).2.1).getD 0:Nat):Int),if mkD (hereT l (i+1)) ⟨#[63]⟩=true then 2 else 1)
  else .error (80,(hereT l (i+1+1)).2.2.2)
 else .error (80,(hereT l (i+1)).2.2.2)
def lstO (ns:List N3t):Int:=(ns.getLast?.map (·.1)).getD (-1)
def stD (L:List Int)(l:List Tk4)(i:Nat)(ns:List N3t):Except ErT N3t :=
 if oneS (hereT l i)=true then
  match sgI L (hereT l i) with
  | .error q=>.error q
  | .ok o=>if o≤lstO ns then .error (75,(hereT l i).2.2.2) else nteD l i o
 else .error (80,(hereT l i).2.2.2)
structure ObB (p B:Nat)(W V:World):Prop where
 os:V.os=W.os
 tape:V.tape=W.tape
 output:V.output=W.output
 size:W.heap.size≤V.heap.size
 block:∀ q,q<B→q≠p→V.heap[q]? = W.heap[q]?
theorem ObB.trans {p B:Nat}{U W V:World}(h:ObB p B U W)(k:ObB p B W V):ObB p B U V:=⟨k.os.trans h.os,k.tape.trans h.tape,k.output.trans h.output,Nat.le_trans h.size k.size,fun q h1 h2=>(k.block q h1 h2).trans (h.block q h1 h2)⟩
theorem Ob.toOB {p B:Nat}{W V:World}(h:Ob p W V)(hB:B≤W.heap.size):ObB p B W V:=⟨h.os,h.tape,h.output,h.size,fun q h1 h2=>h.block q (Nat.lt_of_lt_of_le h1 hB) h2⟩
theorem ObB.ofB {p B:Nat}{W V:World}(h:Below B W V):ObB p B W V:=⟨h.os,h.tape,h.output,h.size,fun q h1 _=>h.block q h1⟩
theorem ObB.toB {p B:Nat}{W V:World}(h:ObB p B W V)(hp:p<B):Below p W V:=⟨h.os,h.tape,h.output,h.size,fun q hq=>h.block q (by omega) (by omega)⟩
structure DN (B p:Nat)(l:List Tk4)(ad:Option Addr)(cap at':Nat)(kd fr rd:Int)(N:Nat)(ns:List N3t)(W:World):Prop where
 dk:∃ v,Dsk p l ad cap at' kd fr rd N v W∧W.ownsRow B 124 3 v ns.length (fl ns)
def NdO (B p:Nat)(l:List Tk4)(ad:Option Addr)(cap i:Nat)(kd fr rd:Int)(N:Nat)(ns:List N3t)(w:World)(r:Except ErT N3t)(e:Ending)(w':World):Prop:=match r with
 | .error q=>e=.returned (.int .i64 q.1)∧∃ k,DN B p l ad cap k kd fr rd N ns w'∧(hereT l k).2.2.2=q.2∧k≤i+2∧ObB p B w w'
 | .ok n=>e=.returned (.int .i64 0)∧DN B p l ad cap (i+3) kd fr rd N (ns ++ [n]) w'∧ObB p B w w'
theorem DN.carry {B p:Nat}{l:List Tk4}{ad:Option Addr}{cap at':Nat}{kd fr rd:Int}{N:Nat}{ns:List N3t}{W V:World}(h:DN B p l ad cap at' kd fr rd N ns W)(hb:Below W.heap.size W V):DN B p l ad cap at' kd fr rd N ns V:=by
 obtain⟨v,h1,h2⟩:=h.dk
 exact⟨v,h1.carry hb,zrb h2 hb⟩
theorem mrk_two {x:Tk4}(h:mrkB x=true):mkD x ⟨#[63]⟩=true∨(mkD x ⟨#[63]⟩=false∧mkD x ⟨#[33]⟩=true):=by
 unfold mrkB at h
 unfold mkD
 rw [show (⟨#[63]⟩:ByteArray).toList=[63] by kernel_rfl,show (⟨#[33]⟩:ByteArray).toList=[33] by kernel_rfl]
 cases h1:(x.1 == 5 && x.2.1.toList == [63]) with
 | true=>exact .inl rfl
 | false=>rw [h1,Bool.false_or] at h;exact .inr ⟨rfl,h⟩
theorem mrk_none {x:Tk4}(h:¬ mrkB x=true):mkD x ⟨#[63]⟩=false∧mkD x ⟨#[33]⟩=false:=by
 unfold mrkB at h
 unfold mkD
 rw [show (⟨#[63]⟩:ByteArray).toList=[63] by kernel_rfl,show (⟨#[33]⟩:ByteArray).toList=[33] by kernel_rfl]
 cases h1:(x.1 == 5 && x.2.1.toList == [63]) <;> cases h2:(x.1 == 5 && x.2.1.toList == [33]) <;> simp_all
theorem lst_snoc (ns:List N3t)(q:N3t):lstO (ns ++ [q])=q.1:=by simp [lstO]
theorem fl_last (ns:List N3t)(q:N3t):(fl (ns ++ [q]))[ns.length*3]? = some (.int .i64 q.1):=by
 rw [fl_append]
 have hl:(fl ns).length=ns.length*3:=fl_len ns
 rw [List.getElem?_append_right (by omega),hl,Nat.sub_self]
 rfl
theorem fld_t0 (a:Int)(b:ByteArray)(c d:Int)(W:World):(Instr.field 48 (.agg #[.int .i64 a,.string b,.int .i64 c,.int .i64 d]) 0).run Tryz.prog W=.ok (.int .i64 a) W:=by kernel_rfl
theorem fld_t1 (a:Int)(b:ByteArray)(c d:Int)(W:World):(Instr.field 48 (.agg #[.int .i64 a,.string b,.int .i64 c,.int .i64 d]) 1).run Tryz.prog W=.ok (.string b) W:=by kernel_rfl
theorem Dsk.c9 {p:Nat}{l:List Tk4}{ad:Option Addr}{cap at':Nat}{kd fr rd:Int}{N:Nat}{v:Value}{w:World}(h:Dsk p l ad cap at' kd fr rd N v w):w.cell? ⟨p,9,none⟩=some v:=(zca h.bx 9).trans rfl
theorem Dsk.v9 {p:Nat}{l:List Tk4}{ad:Option Addr}{cap at':Nat}{kd fr rd:Int}{N:Nat}{v:Value}{w W:World}(h:Dsk p l ad cap at' kd fr rd N v w)(ho:Below p w W)(hp:W.heap[p]? = w.heap[p]?)(v2:Value):Dsk p l ad cap at' kd fr rd N v2 (W.setCell ⟨p,9,none⟩ v2):=by
 refine h.put (ho.trans (bl_set _ _ _ _)) ?_
 have:=set_get 9 v2 (hp.trans h.bx)
 simpa [dsC] using this
theorem rNum_get (s:ByteArray)(hs:s.size≤maxLen)(V:World):Calls Tryz.prog 115 #[.string s] V fun e w'=>∃ er:Int,e=.returned (.tuple #[.int .i64 (((numR s).getD 0:Nat):Int),.int .i64 er])∧Below V.heap.size V w':=(refNumber_any s hs V).mono (by
 rintro e w' ⟨rfl,rfl⟩
 cases hv:numR s with
 | none=>exact⟨21,rfl,Below.refl _ _⟩
 | some v=>exact⟨0,rfl,Below.refl _ _⟩)
theorem rnotice_any {M:Nat}{L:List Int}{ra:Option Addr}{rc:Nat}{B p:Nat}{l:List Tk4}{ad:Option Addr}{cap i:Nat}{kd fr rd:Int}{N:Nat}{ns:List N3t}{w:World}(hE:En8 M L (.agg #[.slice ra L.length rc]) p w)(h:DN B p l ad cap i kd fr rd N ns w)(hpB:p<B)(hBw:B≤w.heap.size)(hS:Shw6 l)(ha:i≤900000)(hn:ns.length≤900000):Calls Tryz.prog 118 #[.pointer (some ⟨p,0,none⟩),.agg #[.slice ra L.length rc]] w (NdO B p l ad cap i kd fr rd N ns w (stD L l i ns)):=by
 obtain⟨R,hR⟩:∃ R,stD L l i ns=R:=⟨_,rfl⟩
 rw [hR]
 obtain⟨W1,hW1⟩:∃ W1,w.alloc (.cells #[.slice ra L.length rc] 53)=W1:=⟨_,rfl⟩
 have hb1:Below w.heap.size w W1:=by rw [← hW1];exact al1t _ _
 have hrb:W1.heap[w.heap.size]? = some (.cells #[.slice ra L.length rc] 53 (0,0)):=by rw [← hW1];exact zna rfl
 have hpw:p<w.heap.size:=by obtain⟨v0,q1,_⟩:=h.dk;exact q1.lt
 have h1:=h.carry hb1
 obtain⟨v,hdk,hrow⟩:=h1.dk
 obtain⟨na,nc,rfl,hcell⟩:=ownsRow_form hrow
 have hE1:=hE.on (hb1.mono (Nat.le_of_lt hpw))
 have hpl:=hdk.lt
 have c1:=hdk.c1
 have k0:W1.cell? ⟨w.heap.size,0,none⟩=some (.slice ra L.length rc):=(zca hrb 0).trans rfl
 have hwp:w.heap.size≠p:=by omega
 have HDK:Hid (Dsk p l ad cap i kd fr rd N (.slice na ns.length nc) W1):=hdk
 have HROW:Hid (W1.ownsRow B 124 3 (.slice na ns.length nc) ns.length (fl ns)):=hrow
 unfold stD at hR
 by_cases ho:oneS (hereT l i)=true
 case neg =>
   rw [if_neg ho] at hR
   have HRR:Hid (R=.error (80,(hereT l i).2.2.2)):=hR.symm
   have HSG:=sign_one (L:=L) (ra:=ra) (rc:=rc) hdk hS (by omega) (by simpa using ho)
   obtain⟨n0,hn0⟩:∃ n0,L.length=n0:=⟨_,rfl⟩
   rw [hn0] at hW1 k0 HSG ⊢
   clear hn0 ho hR hE1 hE h h1 hdk hrow hcell hrb
   go_enter Tryz.func118,Tryz.ntmps118
   go_wp2_with (go_at_call 114;(with_reducible refine HSG.mono ?_);rintro e u1 ⟨rfl,hb2⟩)
   go_ret
   rw [HRR.out]
   exact⟨rfl,i,⟨_,HDK.out.carry hb2,zrb HROW.out hb2⟩,rfl,by omega,(Ob.of (bel3 hb1 hb2)).toOB hBw⟩
 rw [if_pos ho] at hR
 have HSG:=sign_two hE1 hdk hS (by omega) ho
 by_cases hin:((rn (hereT l i).2.1 0:Nat):Int)∈L
 case neg =>
   rw [sgI,if_neg hin] at hR
   have HRR:Hid (R=.error (41,(hereT l i).2.2.2)):=hR.symm
   have HSG2:Calls Tryz.prog 114 #[.pointer (some ⟨p,0,none⟩),.agg #[.slice ra L.length rc]] W1 fun e w'=>e=.returned (.int .i64 (-2))∧Below W1.heap.size W1 w':=HSG.mono (fun e w' q=>q.1 hin)
   obtain⟨n0,hn0⟩:∃ n0,L.length=n0:=⟨_,rfl⟩
   rw [hn0] at hW1 k0 HSG2 ⊢
   clear hn0 ho hR hE1 hE h h1 hdk hrow hcell hrb HSG hin
   go_enter Tryz.func118,Tryz.ntmps118
   go_wp2_with (go_at_call 114;(with_reducible refine HSG2.mono ?_);rintro e u1 ⟨rfl,hb2⟩)
   go_ret
   rw [HRR.out]
   exact⟨rfl,i,⟨_,HDK.out.carry hb2,zrb HROW.out hb2⟩,rfl,by omega,(Ob.of (bel3 hb1 hb2)).toOB hBw⟩
 rw [sgI,if_pos hin] at hR
 dsimp only at hR
 obtain⟨o,hoo⟩:∃ o:Int,((L.idxOf ((rn (hereT l i).2.1 0:Nat):Int):Nat):Int)=o:=⟨_,rfl⟩
 have ho0:0≤o:=by omega
 rw [hoo] at hR
 have HS2:Calls Tryz.prog 114 #[.pointer (some ⟨p,0,none⟩),.agg #[.slice ra L.length rc]] W1 fun e w'=>e=.returned (.int .i64 o)∧Dsk p l ad cap (i+1) kd fr rd N (.slice na ns.length nc) w'∧Ob p W1 w':=HSG.mono (fun e w' q=>by have:=q.2 hin;rw [hoo] at this;exact this)
 obtain⟨n0,hn0⟩:∃ n0,L.length=n0:=⟨_,rfl⟩
 rw [hn0] at hW1 k0 HS2 ⊢
 clear hn0 hE1 hE h h1 hdk hrow HSG hin ho hoo
 have hf0:=fld_t0
 have hf1:=fld_t1
 have hom1:(o == -1)=false:=by simp;omega
 have hom2:(o == -2)=false:=by simp;omega
 rcases List.eq_nil_or_concat ns with hns | ⟨ms,q,hns⟩
 · subst hns
   have hlo:¬ o≤lstO []:=by unfold lstO;simp;omega
   rw [if_neg hlo] at hR
   have hfl:([]:List N3t).length=0:=rfl
   rw [hfl] at HDK HROW HS2
   clear hlo hfl hcell hn
   by_cases hmk:mrkB (hereT l (i+1))=true
   case neg =>
     rw [nteD,if_neg hmk] at hR
     have HRR:Hid (R=.error (80,(hereT l (i+1)).2.2.2)):=hR.symm
     obtain⟨hq1,hq2⟩:=mrk_none hmk
     have HMQ:Hid (∀ V,Dsk p l ad cap (i+1) kd fr rd N (.slice na 0 nc) V→Calls Tryz.prog 117 #[.pointer (some ⟨p,0,none⟩),.string ⟨#[63]⟩] V fun e w'=>e=.returned (.bool false)∧Below V.heap.size V w'):=fun V hV=>mark_no hV (by omega) _ hq1
     have HMB:Hid (∀ V,Dsk p l ad cap (i+1) kd fr rd N (.slice na 0 nc) V→Calls Tryz.prog 117 #[.pointer (some ⟨p,0,none⟩),.string ⟨#[33]⟩] V fun e w'=>e=.returned (.bool false)∧Below V.heap.size V w'):=fun V hV=>mark_no hV (by omega) _ hq2
     clear hR hmk hq1 hq2
     go_enter Tryz.func118,Tryz.ntmps118
     go_wp2_with (first | (go_at_call 117;(have hzz:=hd2);(with_reducible refine (HMB.out _ hd2).mono ?_);rintro e u3 ⟨rfl,hb3⟩;(have hd3:=hd2.carry hb3);(have hO3:Ob p u2 u3:=Ob.of hb3)) | (go_at_call 117;(with_reducible refine (HMQ.out _ hd1).mono ?_);rintro e u2 ⟨rfl,hb2⟩;(have hd2:=hd1.carry hb2);(have hO2:Ob p u1 u2:=Ob.of hb2)) | (go_at_call 114;(with_reducible refine HS2.mono ?_);rintro e u1 ⟨rfl,hd1,hO1⟩;(have n9:=hd1.c9);(have n1:=hd1.c1);(have f1:=zta hd1.bx 1);(have HR1:Hid (u1.ownsRow B 124 3 (.slice na 0 nc) 0 (fl [])):=ownsRow_ob HROW.out hO1 (fun g hg=>by have:=own_block HROW.out g hg;omega))))
     go_ret
     rw [HRR.out]
     exact⟨rfl,i+1,⟨_,hd3,ownsRow_ob HR1.out (hO2.trans hO3) (fun g hg=>by have:=own_block HR1.out g hg;omega)⟩,rfl,by omega,((Ob.of hb1).trans (hO1.trans (hO2.trans hO3))).toOB hBw⟩
   rcases mrk_two hmk with hq1 | ⟨hq1,hq2⟩
   · rw [nteD,if_pos hmk,if_pos hq1] at hR
     have HMQ:Hid (∀ V,Dsk p l ad cap (i+1) kd fr rd N (.slice na 0 nc) V→Calls Tryz.prog 117 #[.pointer (some ⟨p,0,none⟩),.string ⟨#[63]⟩] V fun e w'=>e=.returned (.bool true)∧Dsk p l ad cap (i+1+1) kd fr rd N (.slice na 0 nc) w'∧Ob p V w'):=fun V hV=>mark_yes hV (by omega) _ hq1
     have HHE:Hid (∀ V,Dsk p l ad cap (i+1+1) kd fr rd N (.slice na 0 nc) V→Calls Tryz.prog 38 #[.pointer (some ⟨p,0,none⟩)] V fun e w'=>e=.returned (.agg #[.int .i64 (hereT l (i+1+1)).1,.string (hereT l (i+1+1)).2.1,.int .i64 (hereT l (i+1+1)).2.2.1,.int .i64 (hereT l (i+1+1)).2.2.2])∧Below V.heap.size V w'):=fun V hV=>here_any hV (by omega)
     have hxs:=hS (i+1+1)
     obtain⟨x,hx⟩:∃ x,hereT l (i+1+1)=x:=⟨_,rfl⟩
     rw [hx] at hR hxs HHE
     by_cases h3:x.1=3
     case neg =>
      rw [if_neg h3] at hR
      have HRR:Hid (R=.error (80,x.2.2.2)):=hR.symm
      have h3b:(x.1 != 3)=true:=by simpa using h3
      clear hR hmk hq1 h3
      go_enter Tryz.func118,Tryz.ntmps118
      go_wp2_with (first | (go_at_call 38;(with_reducible refine (HHE.out _ hd2).mono ?_);rintro e u4 ⟨rfl,hb4⟩;(have hd4:=hd2.carry hb4);(have g1:=hd4.c1);(have g2:=zta hd4.bx 1)) | (go_at_call 117;(with_reducible refine (HMQ.out _ hd1).mono ?_);rintro e u2 ⟨rfl,hd2,hO2⟩) | (go_at_call 114;(with_reducible refine HS2.mono ?_);rintro e u1 ⟨rfl,hd1,hO1⟩;(have n9:=hd1.c9);(have n1:=hd1.c1);(have f1:=zta hd1.bx 1);(have HR1:Hid (u1.ownsRow B 124 3 (.slice na 0 nc) 0 (fl [])):=ownsRow_ob HROW.out hO1 (fun g hg=>by have:=own_block HROW.out g hg;omega))))
      go_ret
      rw [HRR.out]
      exact⟨rfl,i+1+1,⟨_,hd4,ownsRow_ob HR1.out (hO2.trans (Ob.of hb4)) (fun g hg=>by have:=own_block HR1.out g hg;omega)⟩,congrArg (fun y:Tk4=>y.2.2.2) hx,by omega,((Ob.of hb1).trans (hO1.trans (hO2.trans (Ob.of hb4)))).toOB hBw⟩
     rw [if_pos h3] at hR
     have h3b:(x.1 != 3)=false:=by simpa using h3
     have HNU:∀ V,Calls Tryz.prog 115 #[.string x.2.1] V fun e w'=>∃ er:Int,e=.returned (.tuple #[.int .i64 (((numR x.2.1).getD 0:Nat):Int),.int .i64 er])∧Below V.heap.size V w':=rNum_get x.2.1 (by unfold maxLen;omega)
     obtain⟨t,ht⟩:∃ t,(numR x.2.1).getD 0=t:=⟨_,rfl⟩
     rw [ht] at hR HNU
     clear ht h3 hmk hq1
     by_cases hbig:1048576<t
     case pos =>
      rw [if_pos hbig] at hR
      have HRR:Hid (R=.error (75,x.2.2.2)):=hR.symm
      have hbg:(1048576:Int)<(t:Int):=by omega
      clear hR hbig
      go_enter Tryz.func118,Tryz.ntmps118
      go_wp2_with (first | (go_at_call 115;(with_reducible refine (HNU _).mono ?_);rintro e u6 ⟨er6,rfl,hb6⟩;(have hd6:=hd5.carry hb6);(have g5:=hd6.c1);(have g6:=zta hd6.bx 1)) | (go_at_call 38;(have hzz:=hd4);(with_reducible refine (HHE.out _ hd4).mono ?_);rintro e u5 ⟨rfl,hb5⟩;(have hd5:=hd4.carry hb5);(have g3:=hd5.c1);(have g4:=zta hd5.bx 1)) | (go_at_call 38;(with_reducible refine (HHE.out _ hd2).mono ?_);rintro e u4 ⟨rfl,hb4⟩;(have hd4:=hd2.carry hb4);(have g1:=hd4.c1);(have g2:=zta hd4.bx 1)) | (go_at_call 117;(with_reducible refine (HMQ.out _ hd1).mono ?_);rintro e u2 ⟨rfl,hd2,hO2⟩) | (go_at_call 114;(with_reducible refine HS2.mono ?_);rintro e u1 ⟨rfl,hd1,hO1⟩;(have n9:=hd1.c9);(have n1:=hd1.c1);(have f1:=zta hd1.bx 1);(have HR1:Hid (u1.ownsRow B 124 3 (.slice na 0 nc) 0 (fl [])):=ownsRow_ob HROW.out hO1 (fun g hg=>by have:=own_block HROW.out g hg;omega))))
      go_ret
      rw [HRR.out]
      exact⟨rfl,i+1+1,⟨_,hd6,ownsRow_ob HR1.out ((hO2.trans (Ob.of hb4)).trans ((Ob.of hb5).trans (Ob.of hb6))) (fun g hg=>by have:=own_block HR1.out g hg;omega)⟩,congrArg (fun y:Tk4=>y.2.2.2) hx,by omega,((Ob.of hb1).trans (hO1.trans ((hO2.trans (Ob.of hb4)).trans ((Ob.of hb5).trans (Ob.of hb6))))).toOB hBw⟩
     rw [if_neg hbig] at hR
     have HRR:Hid (R=.ok (o,(t:Int),2)):=hR.symm
     have hbg:¬ (1048576:Int)<(t:Int):=by omega
     obtain⟨ic,hic,hz0,hz1,hz2⟩:=info_partsN
     obtain⟨k3,hk3⟩:∃ k3,k3=i+1+1+1:=⟨_,rfl⟩
     have hadd:((i+1+1:Nat):Int)+1=(k3:Int):=by omega
     have hk3b:k3≤1000000:=by omega
     have HK3:Hid (k3=i+1+1+1):=hk3
     obtain⟨i2,hi2⟩:∃ i2,i+1+1=i2:=⟨_,rfl⟩
     rw [hi2] at hadd HHE
     rw [hi2] at HMQ
     have HI2:Hid (i+1+1=i2):=hi2
     clear hR hbig hk3 hi2 hx
     go_enter Tryz.func118,Tryz.ntmps118
     go_wp2_with (first | (at_builtin;refine wpList_append_own_at _ rfl _ _ 37 rfl B 124 ic _ 3 24 Tryz.underlying37 hic hz0 hz1 hz2 rfl (by decide) _ 0 (fl []) rfl (World.ownsRow.alloc HRY.out _) ⟨Y.heap.size,0,none⟩ 1 1 [_,_,_] rfl rfl (rowN _ #[_,_,_] _) (by simp [Value.oneCell']) (by unfold maxLen;omega) (by omega) (by simp;omega) ?_;intro v' w2 hown' hgrow _ hob;obtain⟨na',nc',rfl,hcell'⟩:=ownsRow_form hown';(have hblk:w2.heap[p]? = Y.heap[p]? := (hgrow.block _ (by simp;omega) (fun e=>by have:=own_block HRY.out _ e.symm;omega)).trans (Below.heap_alloc _ _ _ hpY));(have m9:w2.cell? ⟨p,9,none⟩=some (.slice na 0 nc):=(World.cell?_of_block (a:=⟨p,9,none⟩) hblk).trans y9);(have mz:=zta (hblk.trans hdY.bx) 9)) | (go_at_call 115;(with_reducible refine (HNU _).mono ?_);rintro e u6 ⟨er6,rfl,hb6⟩;(have hd6:=hd5.carry hb6);(have g5:=hd6.c1);(have g6:=zta hd6.bx 1);obtain⟨Y,hY⟩:∃ Y,u6.setCell ⟨p,1,none⟩ (.int .i64 (k3:Int))=Y:=⟨_,rfl⟩;(have hOY:Ob p u6 Y:=by rw [← hY];exact ob_set _ _ _ _);(have hdY:Dsk p l ad cap k3 kd fr rd N (.slice na 0 nc) Y:=by rw [← hY];exact hd6.at k3);(have y9:=hdY.c9);(have hO6:Ob p u1 Y:=(hO2.trans (Ob.of hb4)).trans (((Ob.of hb5).trans (Ob.of hb6)).trans hOY));(have HRY:Hid (Y.ownsRow B 124 3 (.slice na 0 nc) 0 (fl [])):=ownsRow_ob HR1.out hO6 (fun g hg=>by have:=own_block HR1.out g hg;omega));(have hpY:=hdY.lt);(have hBY0:B≤Y.heap.size:=by have:=hb1.size;have:=hO1.size;have:=hO6.size;omega)) | (go_at_call 38;(have hzz:=hd4);(with_reducible refine (HHE.out _ hd4).mono ?_);rintro e u5 ⟨rfl,hb5⟩;(have hd5:=hd4.carry hb5);(have g3:=hd5.c1);(have g4:=zta hd5.bx 1)) | (go_at_call 38;(with_reducible refine (HHE.out _ hd2).mono ?_);rintro e u4 ⟨rfl,hb4⟩;(have hd4:=hd2.carry hb4);(have g1:=hd4.c1);(have g2:=zta hd4.bx 1)) | (go_at_call 117;(with_reducible refine (HMQ.out _ hd1).mono ?_);rintro e u2 ⟨rfl,hd2,hO2⟩) | (go_at_call 114;(with_reducible refine HS2.mono ?_);rintro e u1 ⟨rfl,hd1,hO1⟩;(have n9:=hd1.c9);(have n1:=hd1.c1);(have f1:=zta hd1.bx 1);(have HR1:Hid (u1.ownsRow B 124 3 (.slice na 0 nc) 0 (fl [])):=ownsRow_ob HROW.out hO1 (fun g hg=>by have:=own_block HROW.out g hg;omega))))
     go_ret
     have hBY:B≤Y.heap.size:=by have:=hb1.size;have:=hO1.size;have:=hO6.size;omega
     have hbXw:Below B Y w2:=((Below.refl B Y).alloc hBY _).grown hgrow (by simp;omega) (fun g e=>own_block HRY.out g e)
     have hdF:=hdY.v9 (hbXw.mono (Nat.le_of_lt hpB)) hblk (.slice na' (0+1) nc')
     have hrF:=ownsRow_setCell_below hown' (a:=⟨p,9,none⟩) hpB (.slice na' (0+1) nc')
     rw [HRR.out]
     refine⟨rfl,⟨_,by rw [show i+3=k3 by rw [HK3.out]];exact hdF,?_⟩,(((Ob.of hb1).trans (hO1.trans hO6)).toOB hBw).trans ((ObB.ofB hbXw).trans ((ob_set _ _ _ _).toOB (Nat.le_trans hBY hbXw.size)))⟩
     exact hrF
   · rw [nteD,if_pos hmk,if_neg (show ¬ mkD (hereT l (i+1)) ⟨#[63]⟩=true by simp [hq1])] at hR
     have HMQ:Hid (∀ V,Dsk p l ad cap (i+1) kd fr rd N (.slice na 0 nc) V→Calls Tryz.prog 117 #[.pointer (some ⟨p,0,none⟩),.string ⟨#[63]⟩] V fun e w'=>e=.returned (.bool false)∧Below V.heap.size V w'):=fun V hV=>mark_no hV (by omega) _ hq1
     have HMB:Hid (∀ V,Dsk p l ad cap (i+1) kd fr rd N (.slice na 0 nc) V→Calls Tryz.prog 117 #[.pointer (some ⟨p,0,none⟩),.string ⟨#[33]⟩] V fun e w'=>e=.returned (.bool true)∧Dsk p l ad cap (i+1+1) kd fr rd N (.slice na 0 nc) w'∧Ob p V w'):=fun V hV=>mark_yes hV (by omega) _ hq2
     have HHE:Hid (∀ V,Dsk p l ad cap (i+1+1) kd fr rd N (.slice na 0 nc) V→Calls Tryz.prog 38 #[.pointer (some ⟨p,0,none⟩)] V fun e w'=>e=.returned (.agg #[.int .i64 (hereT l (i+1+1)).1,.string (hereT l (i+1+1)).2.1,.int .i64 (hereT l (i+1+1)).2.2.1,.int .i64 (hereT l (i+1+1)).2.2.2])∧Below V.heap.size V w'):=fun V hV=>here_any hV (by omega)
     have hxs:=hS (i+1+1)
     obtain⟨x,hx⟩:∃ x,hereT l (i+1+1)=x:=⟨_,rfl⟩
     rw [hx] at hR hxs HHE
     by_cases h3:x.1=3
     case neg =>
      rw [if_neg h3] at hR
      have HRR:Hid (R=.error (80,x.2.2.2)):=hR.symm
      have h3b:(x.1 != 3)=true:=by simpa using h3
      clear hR hmk hq1 hq2 h3
      go_enter Tryz.func118,Tryz.ntmps118
      go_wp2_with (first | (go_at_call 38;(with_reducible refine (HHE.out _ hd3).mono ?_);rintro e u4 ⟨rfl,hb4⟩;(have hd4:=hd3.carry hb4);(have g1:=hd4.c1);(have g2:=zta hd4.bx 1)) | (go_at_call 117;(have hzz:=hd2);(with_reducible refine (HMB.out _ hd2).mono ?_);rintro e u3 ⟨rfl,hd3,hO3⟩) | (go_at_call 117;(with_reducible refine (HMQ.out _ hd1).mono ?_);rintro e u2 ⟨rfl,hb2⟩;(have hd2:=hd1.carry hb2);(have hO2:Ob p u1 u2:=Ob.of hb2)) | (go_at_call 114;(with_reducible refine HS2.mono ?_);rintro e u1 ⟨rfl,hd1,hO1⟩;(have n9:=hd1.c9);(have n1:=hd1.c1);(have f1:=zta hd1.bx 1);(have HR1:Hid (u1.ownsRow B 124 3 (.slice na 0 nc) 0 (fl [])):=ownsRow_ob HROW.out hO1 (fun g hg=>by have:=own_block HROW.out g hg;omega))))
      go_ret
      rw [HRR.out]
      exact⟨rfl,i+1+1,⟨_,hd4,ownsRow_ob HR1.out ((hO2.trans hO3).trans (Ob.of hb4)) (fun g hg=>by have:=own_block HR1.out g hg;omega)⟩,congrArg (fun y:Tk4=>y.2.2.2) hx,by omega,((Ob.of hb1).trans (hO1.trans ((hO2.trans hO3).trans (Ob.of hb4)))).toOB hBw⟩
     rw [if_pos h3] at hR
     have h3b:(x.1 != 3)=false:=by simpa using h3
     have HNU:∀ V,Calls Tryz.prog 115 #[.string x.2.1] V fun e w'=>∃ er:Int,e=.returned (.tuple #[.int .i64 (((numR x.2.1).getD 0:Nat):Int),.int .i64 er])∧Below V.heap.size V w':=rNum_get x.2.1 (by unfold maxLen;omega)
     obtain⟨t,ht⟩:∃ t,(numR x.2.1).getD 0=t:=⟨_,rfl⟩
     rw [ht] at hR HNU
     clear ht h3 hmk hq1 hq2
     by_cases hbig:1048576<t
     case pos =>
      rw [if_pos hbig] at hR
      have HRR:Hid (R=.error (75,x.2.2.2)):=hR.symm
      have hbg:(1048576:Int)<(t:Int):=by omega
      clear hR hbig
      go_enter Tryz.func118,Tryz.ntmps118
      go_wp2_with (first | (go_at_call 115;(with_reducible refine (HNU _).mono ?_);rintro e u6 ⟨er6,rfl,hb6⟩;(have hd6:=hd5.carry hb6);(have g5:=hd6.c1);(have g6:=zta hd6.bx 1)) | (go_at_call 38;(have hzz:=hd4);(with_reducible refine (HHE.out _ hd4).mono ?_);rintro e u5 ⟨rfl,hb5⟩;(have hd5:=hd4.carry hb5);(have g3:=hd5.c1);(have g4:=zta hd5.bx 1)) | (go_at_call 38;(with_reducible refine (HHE.out _ hd3).mono ?_);rintro e u4 ⟨rfl,hb4⟩;(have hd4:=hd3.carry hb4);(have g1:=hd4.c1);(have g2:=zta hd4.bx 1)) | (go_at_call 117;(have hzz:=hd2);(with_reducible refine (HMB.out _ hd2).mono ?_);rintro e u3 ⟨rfl,hd3,hO3⟩) | (go_at_call 117;(with_reducible refine (HMQ.out _ hd1).mono ?_);rintro e u2 ⟨rfl,hb2⟩;(have hd2:=hd1.carry hb2);(have hO2:Ob p u1 u2:=Ob.of hb2)) | (go_at_call 114;(with_reducible refine HS2.mono ?_);rintro e u1 ⟨rfl,hd1,hO1⟩;(have n9:=hd1.c9);(have n1:=hd1.c1);(have f1:=zta hd1.bx 1);(have HR1:Hid (u1.ownsRow B 124 3 (.slice na 0 nc) 0 (fl [])):=ownsRow_ob HROW.out hO1 (fun g hg=>by have:=own_block HROW.out g hg;omega))))
      go_ret
      rw [HRR.out]
      exact⟨rfl,i+1+1,⟨_,hd6,ownsRow_ob HR1.out (((hO2.trans hO3).trans (Ob.of hb4)).trans ((Ob.of hb5).trans (Ob.of hb6))) (fun g hg=>by have:=own_block HR1.out g hg;omega)⟩,congrArg (fun y:Tk4=>y.2.2.2) hx,by omega,((Ob.of hb1).trans (hO1.trans (((hO2.trans hO3).trans (Ob.of hb4)).trans ((Ob.of hb5).trans (Ob.of hb6))))).toOB hBw⟩
     rw [if_neg hbig] at hR
     have HRR:Hid (R=.ok (o,(t:Int),1)):=hR.symm
     have hbg:¬ (1048576:Int)<(t:Int):=by omega
     obtain⟨ic,hic,hz0,hz1,hz2⟩:=info_partsN
     obtain⟨k3,hk3⟩:∃ k3,k3=i+1+1+1:=⟨_,rfl⟩
     have hadd:((i+1+1:Nat):Int)+1=(k3:Int):=by omega
     have hk3b:k3≤1000000:=by omega
     have HK3:Hid (k3=i+1+1+1):=hk3
     obtain⟨i2,hi2⟩:∃ i2,i+1+1=i2:=⟨_,rfl⟩
     rw [hi2] at hadd HHE
     rw [hi2] at HMB
     have HI2:Hid (i+1+1=i2):=hi2
     clear hR hbig hk3 hi2 hx
     go_enter Tryz.func118,Tryz.ntmps118
     go_wp2_with (first | (at_builtin;refine wpList_append_own_at _ rfl _ _ 37 rfl B 124 ic _ 3 24 Tryz.underlying37 hic hz0 hz1 hz2 rfl (by decide) _ 0 (fl []) rfl (World.ownsRow.alloc HRY.out _) ⟨Y.heap.size,0,none⟩ 1 1 [_,_,_] rfl rfl (rowN _ #[_,_,_] _) (by simp [Value.oneCell']) (by unfold maxLen;omega) (by omega) (by simp;omega) ?_;intro v' w2 hown' hgrow _ hob;obtain⟨na',nc',rfl,hcell'⟩:=ownsRow_form hown';(have hblk:w2.heap[p]? = Y.heap[p]? := (hgrow.block _ (by simp;omega) (fun e=>by have:=own_block HRY.out _ e.symm;omega)).trans (Below.heap_alloc _ _ _ hpY));(have m9:w2.cell? ⟨p,9,none⟩=some (.slice na 0 nc):=(World.cell?_of_block (a:=⟨p,9,none⟩) hblk).trans y9);(have mz:=zta (hblk.trans hdY.bx) 9)) | (go_at_call 115;(with_reducible refine (HNU _).mono ?_);rintro e u6 ⟨er6,rfl,hb6⟩;(have hd6:=hd5.carry hb6);(have g5:=hd6.c1);(have g6:=zta hd6.bx 1);obtain⟨Y,hY⟩:∃ Y,u6.setCell ⟨p,1,none⟩ (.int .i64 (k3:Int))=Y:=⟨_,rfl⟩;(have hOY:Ob p u6 Y:=by rw [← hY];exact ob_set _ _ _ _);(have hdY:Dsk p l ad cap k3 kd fr rd N (.slice na 0 nc) Y:=by rw [← hY];exact hd6.at k3);(have y9:=hdY.c9);(have hO6:Ob p u1 Y:=((hO2.trans hO3).trans (Ob.of hb4)).trans (((Ob.of hb5).trans (Ob.of hb6)).trans hOY));(have HRY:Hid (Y.ownsRow B 124 3 (.slice na 0 nc) 0 (fl [])):=ownsRow_ob HR1.out hO6 (fun g hg=>by have:=own_block HR1.out g hg;omega));(have hpY:=hdY.lt);(have hBY0:B≤Y.heap.size:=by have:=hb1.size;have:=hO1.size;have:=hO6.size;omega)) | (go_at_call 38;(have hzz:=hd4);(with_reducible refine (HHE.out _ hd4).mono ?_);rintro e u5 ⟨rfl,hb5⟩;(have hd5:=hd4.carry hb5);(have g3:=hd5.c1);(have g4:=zta hd5.bx 1)) | (go_at_call 38;(with_reducible refine (HHE.out _ hd3).mono ?_);rintro e u4 ⟨rfl,hb4⟩;(have hd4:=hd3.carry hb4);(have g1:=hd4.c1);(have g2:=zta hd4.bx 1)) | (go_at_call 117;(have hzz:=hd2);(with_reducible refine (HMB.out _ hd2).mono ?_);rintro e u3 ⟨rfl,hd3,hO3⟩) | (go_at_call 117;(with_reducible refine (HMQ.out _ hd1).mono ?_);rintro e u2 ⟨rfl,hb2⟩;(have hd2:=hd1.carry hb2);(have hO2:Ob p u1 u2:=Ob.of hb2)) | (go_at_call 114;(with_reducible refine HS2.mono ?_);rintro e u1 ⟨rfl,hd1,hO1⟩;(have n9:=hd1.c9);(have n1:=hd1.c1);(have f1:=zta hd1.bx 1);(have HR1:Hid (u1.ownsRow B 124 3 (.slice na 0 nc) 0 (fl [])):=ownsRow_ob HROW.out hO1 (fun g hg=>by have:=own_block HROW.out g hg;omega))))
     go_ret
     have hBY:B≤Y.heap.size:=by have:=hb1.size;have:=hO1.size;have:=hO6.size;omega
     have hbXw:Below B Y w2:=((Below.refl B Y).alloc hBY _).grown hgrow (by simp;omega) (fun g e=>own_block HRY.out g e)
     have hdF:=hdY.v9 (hbXw.mono (Nat.le_of_lt hpB)) hblk (.slice na' (0+1) nc')
     have hrF:=ownsRow_setCell_below hown' (a:=⟨p,9,none⟩) hpB (.slice na' (0+1) nc')
     rw [HRR.out]
     refine⟨rfl,⟨_,by rw [show i+3=k3 by rw [HK3.out]];exact hdF,?_⟩,(((Ob.of hb1).trans (hO1.trans hO6)).toOB hBw).trans ((ObB.ofB hbXw).trans ((ob_set _ _ _ _).toOB (Nat.le_trans hBY hbXw.size)))⟩
     exact hrF
 · rw [List.concat_eq_append] at hns
   have hlst:lstO ns=q.1:=by rw [hns];exact lst_snoc ms q
   rw [hlst] at hR
   obtain⟨k1,hk1⟩:∃ k1,ns.length=k1:=⟨_,rfl⟩
   have HKL:Hid (ns.length=k1):=hk1
   have hk1':k1=ms.length+1:=by rw [← hk1,hns];simp
   obtain⟨gb,rfl,hg1,hg2,hg3,hg4⟩:=hcell (by omega)
   rw [hk1] at HDK HROW HS2 hn
   obtain⟨j,hj⟩:∃ j,ms.length=j:=⟨_,rfl⟩
   obtain⟨A,hA⟩:∃ A,q.1=A:=⟨_,rfl⟩
   have cellsF:∀ U:World,U.ownsRow B 124 3 (.slice (some ⟨gb,0,none⟩) k1 nc) k1 (fl ns)→U.cell? ⟨gb,j*3,none⟩=some (.int .i64 A):=fun U hU=>by
     obtain⟨a',c',e1,e2⟩:=ownsRow_form hU
     obtain⟨g',e3,_,_,_,e4⟩:=e2 (by omega)
     cases e1
     cases e3
     exact e4 _ _ (by rw [hns,← hj,← hA];exact fl_last ms q)
   rw [hA] at hR
   have hgt:(0:Int)<(k1:Int):=by omega
   have hsub:(k1:Int)-1=(j:Int):=by omega
   have hj0:(0:Int)≤(j:Int):=by omega
   have hj1:(j:Int)<(k1:Int):=by omega
   have hjb:j≤900000:=by omega
   clear hlst hk1 hk1' hg1 hg2 hg3 hg4 hcell hns hj hA
   by_cases hlo:o≤A
   · rw [if_pos hlo] at hR
     have HRR:Hid (R=.error (75,(hereT l i).2.2.2)):=hR.symm
     clear hR
     go_enter Tryz.func118,Tryz.ntmps118
     go_wp2_with ((go_at_call 114;(with_reducible refine HS2.mono ?_);rintro e u1 ⟨rfl,hd1,hO1⟩;(have n9:=hd1.c9);(have n1:=hd1.c1);(have f1:=zta hd1.bx 1);(have HR1:Hid (u1.ownsRow B 124 3 (.slice (some ⟨gb,0,none⟩) k1 nc) k1 (fl ns)):=ownsRow_ob HROW.out hO1 (fun g hg=>by have:=own_block HROW.out g hg;omega));(have hcl:=cellsF u1 HR1.out)))
     go_ret
     rw [HRR.out]
     exact⟨rfl,i,⟨_,hd1.at i,by rw [HKL.out];exact ownsRow_setCell_below HR1.out (a:=⟨p,1,none⟩) hpB _⟩,rfl,by omega,((Ob.of hb1).trans (hO1.trans (ob_set _ _ _ _))).toOB hBw⟩
   rw [if_neg hlo] at hR
   by_cases hmk:mrkB (hereT l (i+1))=true
   case neg =>
     rw [nteD,if_neg hmk] at hR
     have HRR:Hid (R=.error (80,(hereT l (i+1)).2.2.2)):=hR.symm
     obtain⟨hq1,hq2⟩:=mrk_none hmk
     have HMQ:Hid (∀ V,Dsk p l ad cap (i+1) kd fr rd N (.slice (some ⟨gb,0,none⟩) k1 nc) V→Calls Tryz.prog 117 #[.pointer (some ⟨p,0,none⟩),.string ⟨#[63]⟩] V fun e w'=>e=.returned (.bool false)∧Below V.heap.size V w'):=fun V hV=>mark_no hV (by omega) _ hq1
     have HMB:Hid (∀ V,Dsk p l ad cap (i+1) kd fr rd N (.slice (some ⟨gb,0,none⟩) k1 nc) V→Calls Tryz.prog 117 #[.pointer (some ⟨p,0,none⟩),.string ⟨#[33]⟩] V fun e w'=>e=.returned (.bool false)∧Below V.heap.size V w'):=fun V hV=>mark_no hV (by omega) _ hq2
     clear hR hmk hq1 hq2
     go_enter Tryz.func118,Tryz.ntmps118
     go_wp2_with (first | (go_at_call 117;(have hzz:=hd2);(with_reducible refine (HMB.out _ hd2).mono ?_);rintro e u3 ⟨rfl,hb3⟩;(have hd3:=hd2.carry hb3);(have hO3:Ob p u2 u3:=Ob.of hb3)) | (go_at_call 117;(with_reducible refine (HMQ.out _ hd1).mono ?_);rintro e u2 ⟨rfl,hb2⟩;(have hd2:=hd1.carry hb2);(have hO2:Ob p u1 u2:=Ob.of hb2)) | (go_at_call 114;(with_reducible refine HS2.mono ?_);rintro e u1 ⟨rfl,hd1,hO1⟩;(have n9:=hd1.c9);(have n1:=hd1.c1);(have f1:=zta hd1.bx 1);(have HR1:Hid (u1.ownsRow B 124 3 (.slice (some ⟨gb,0,none⟩) k1 nc) k1 (fl ns)):=ownsRow_ob HROW.out hO1 (fun g hg=>by have:=own_block HROW.out g hg;omega));(have hcl:=cellsF u1 HR1.out)))
     go_ret
     rw [HRR.out]
     exact⟨rfl,i+1,⟨_,hd3,by rw [HKL.out];exact ownsRow_ob HR1.out (hO2.trans hO3) (fun g hg=>by have:=own_block HR1.out g hg;omega)⟩,rfl,by omega,((Ob.of hb1).trans (hO1.trans (hO2.trans hO3))).toOB hBw⟩
   rcases mrk_two hmk with hq1 | ⟨hq1,hq2⟩
   · rw [nteD,if_pos hmk,if_pos hq1] at hR
     have HMQ:Hid (∀ V,Dsk p l ad cap (i+1) kd fr rd N (.slice (some ⟨gb,0,none⟩) k1 nc) V→Calls Tryz.prog 117 #[.pointer (some ⟨p,0,none⟩),.string ⟨#[63]⟩] V fun e w'=>e=.returned (.bool true)∧Dsk p l ad cap (i+1+1) kd fr rd N (.slice (some ⟨gb,0,none⟩) k1 nc) w'∧Ob p V w'):=fun V hV=>mark_yes hV (by omega) _ hq1
     have HHE:Hid (∀ V,Dsk p l ad cap (i+1+1) kd fr rd N (.slice (some ⟨gb,0,none⟩) k1 nc) V→Calls Tryz.prog 38 #[.pointer (some ⟨p,0,none⟩)] V fun e w'=>e=.returned (.agg #[.int .i64 (hereT l (i+1+1)).1,.string (hereT l (i+1+1)).2.1,.int .i64 (hereT l (i+1+1)).2.2.1,.int .i64 (hereT l (i+1+1)).2.2.2])∧Below V.heap.size V w'):=fun V hV=>here_any hV (by omega)
     have hxs:=hS (i+1+1)
     obtain⟨x,hx⟩:∃ x,hereT l (i+1+1)=x:=⟨_,rfl⟩
     rw [hx] at hR hxs HHE
     by_cases h3:x.1=3
     case neg =>
      rw [if_neg h3] at hR
      have HRR:Hid (R=.error (80,x.2.2.2)):=hR.symm
      have h3b:(x.1 != 3)=true:=by simpa using h3
      clear hR hmk hq1 h3
      go_enter Tryz.func118,Tryz.ntmps118
      go_wp2_with (first | (go_at_call 38;(with_reducible refine (HHE.out _ hd2).mono ?_);rintro e u4 ⟨rfl,hb4⟩;(have hd4:=hd2.carry hb4);(have g1:=hd4.c1);(have g2:=zta hd4.bx 1)) | (go_at_call 117;(with_reducible refine (HMQ.out _ hd1).mono ?_);rintro e u2 ⟨rfl,hd2,hO2⟩) | (go_at_call 114;(with_reducible refine HS2.mono ?_);rintro e u1 ⟨rfl,hd1,hO1⟩;(have n9:=hd1.c9);(have n1:=hd1.c1);(have f1:=zta hd1.bx 1);(have HR1:Hid (u1.ownsRow B 124 3 (.slice (some ⟨gb,0,none⟩) k1 nc) k1 (fl ns)):=ownsRow_ob HROW.out hO1 (fun g hg=>by have:=own_block HROW.out g hg;omega));(have hcl:=cellsF u1 HR1.out)))
      go_ret
      rw [HRR.out]
      exact⟨rfl,i+1+1,⟨_,hd4,by rw [HKL.out];exact ownsRow_ob HR1.out (hO2.trans (Ob.of hb4)) (fun g hg=>by have:=own_block HR1.out g hg;omega)⟩,congrArg (fun y:Tk4=>y.2.2.2) hx,by omega,((Ob.of hb1).trans (hO1.trans (hO2.trans (Ob.of hb4)))).toOB hBw⟩
     rw [if_pos h3] at hR
     have h3b:(x.1 != 3)=false:=by simpa using h3
     have HNU:∀ V,Calls Tryz.prog 115 #[.string x.2.1] V fun e w'=>∃ er:Int,e=.returned (.tuple #[.int .i64 (((numR x.2.1).getD 0:Nat):Int),.int .i64 er])∧Below V.heap.size V w':=rNum_get x.2.1 (by unfold maxLen;omega)
     obtain⟨t,ht⟩:∃ t,(numR x.2.1).getD 0=t:=⟨_,rfl⟩
     rw [ht] at hR HNU
     clear ht h3 hmk hq1
     by_cases hbig:1048576<t
     case pos =>
      rw [if_pos hbig] at hR
      have HRR:Hid (R=.error (75,x.2.2.2)):=hR.symm
      have hbg:(1048576:Int)<(t:Int):=by omega
      clear hR hbig
      go_enter Tryz.func118,Tryz.ntmps118
      go_wp2_with (first | (go_at_call 115;(with_reducible refine (HNU _).mono ?_);rintro e u6 ⟨er6,rfl,hb6⟩;(have hd6:=hd5.carry hb6);(have g5:=hd6.c1);(have g6:=zta hd6.bx 1)) | (go_at_call 38;(have hzz:=hd4);(with_reducible refine (HHE.out _ hd4).mono ?_);rintro e u5 ⟨rfl,hb5⟩;(have hd5:=hd4.carry hb5);(have g3:=hd5.c1);(have g4:=zta hd5.bx 1)) | (go_at_call 38;(with_reducible refine (HHE.out _ hd2).mono ?_);rintro e u4 ⟨rfl,hb4⟩;(have hd4:=hd2.carry hb4);(have g1:=hd4.c1);(have g2:=zta hd4.bx 1)) | (go_at_call 117;(with_reducible refine (HMQ.out _ hd1).mono ?_);rintro e u2 ⟨rfl,hd2,hO2⟩) | (go_at_call 114;(with_reducible refine HS2.mono ?_);rintro e u1 ⟨rfl,hd1,hO1⟩;(have n9:=hd1.c9);(have n1:=hd1.c1);(have f1:=zta hd1.bx 1);(have HR1:Hid (u1.ownsRow B 124 3 (.slice (some ⟨gb,0,none⟩) k1 nc) k1 (fl ns)):=ownsRow_ob HROW.out hO1 (fun g hg=>by have:=own_block HROW.out g hg;omega));(have hcl:=cellsF u1 HR1.out)))
      go_ret
      rw [HRR.out]
      exact⟨rfl,i+1+1,⟨_,hd6,by rw [HKL.out];exact ownsRow_ob HR1.out ((hO2.trans (Ob.of hb4)).trans ((Ob.of hb5).trans (Ob.of hb6))) (fun g hg=>by have:=own_block HR1.out g hg;omega)⟩,congrArg (fun y:Tk4=>y.2.2.2) hx,by omega,((Ob.of hb1).trans (hO1.trans ((hO2.trans (Ob.of hb4)).trans ((Ob.of hb5).trans (Ob.of hb6))))).toOB hBw⟩
     rw [if_neg hbig] at hR
     have HRR:Hid (R=.ok (o,(t:Int),2)):=hR.symm
     have hbg:¬ (1048576:Int)<(t:Int):=by omega
     obtain⟨ic,hic,hz0,hz1,hz2⟩:=info_partsN
     obtain⟨k3,hk3⟩:∃ k3,k3=i+1+1+1:=⟨_,rfl⟩
     have hadd:((i+1+1:Nat):Int)+1=(k3:Int):=by omega
     have hk3b:k3≤1000000:=by omega
     have HK3:Hid (k3=i+1+1+1):=hk3
     obtain⟨i2,hi2⟩:∃ i2,i+1+1=i2:=⟨_,rfl⟩
     rw [hi2] at hadd HHE
     rw [hi2] at HMQ
     have HI2:Hid (i+1+1=i2):=hi2
     clear hR hbig hk3 hi2 hx
     go_enter Tryz.func118,Tryz.ntmps118
     go_wp2_with (first | (at_builtin;refine wpList_append_own_at _ rfl _ _ 37 rfl B 124 ic _ 3 24 Tryz.underlying37 hic hz0 hz1 hz2 rfl (by decide) _ k1 (fl ns) rfl (World.ownsRow.alloc HRY.out _) ⟨Y.heap.size,0,none⟩ 1 1 [_,_,_] rfl rfl (rowN _ #[_,_,_] _) (by simp [Value.oneCell']) (by unfold maxLen;omega) (by omega) (by simp;omega) ?_;intro v' w2 hown' hgrow _ hob;obtain⟨na',nc',rfl,hcell'⟩:=ownsRow_form hown';(have hblk:w2.heap[p]? = Y.heap[p]? := (hgrow.block _ (by simp;omega) (fun e=>by have:=own_block HRY.out _ e.symm;omega)).trans (Below.heap_alloc _ _ _ hpY));(have m9:w2.cell? ⟨p,9,none⟩=some (.slice (some ⟨gb,0,none⟩) k1 nc):=(World.cell?_of_block (a:=⟨p,9,none⟩) hblk).trans y9);(have mz:=zta (hblk.trans hdY.bx) 9)) | (go_at_call 115;(with_reducible refine (HNU _).mono ?_);rintro e u6 ⟨er6,rfl,hb6⟩;(have hd6:=hd5.carry hb6);(have g5:=hd6.c1);(have g6:=zta hd6.bx 1);obtain⟨Y,hY⟩:∃ Y,u6.setCell ⟨p,1,none⟩ (.int .i64 (k3:Int))=Y:=⟨_,rfl⟩;(have hOY:Ob p u6 Y:=by rw [← hY];exact ob_set _ _ _ _);(have hdY:Dsk p l ad cap k3 kd fr rd N (.slice (some ⟨gb,0,none⟩) k1 nc) Y:=by rw [← hY];exact hd6.at k3);(have y9:=hdY.c9);(have hO6:Ob p u1 Y:=(hO2.trans (Ob.of hb4)).trans (((Ob.of hb5).trans (Ob.of hb6)).trans hOY));(have HRY:Hid (Y.ownsRow B 124 3 (.slice (some ⟨gb,0,none⟩) k1 nc) k1 (fl ns)):=ownsRow_ob HR1.out hO6 (fun g hg=>by have:=own_block HR1.out g hg;omega));(have hpY:=hdY.lt);(have hBY0:B≤Y.heap.size:=by have:=hb1.size;have:=hO1.size;have:=hO6.size;omega)) | (go_at_call 38;(have hzz:=hd4);(with_reducible refine (HHE.out _ hd4).mono ?_);rintro e u5 ⟨rfl,hb5⟩;(have hd5:=hd4.carry hb5);(have g3:=hd5.c1);(have g4:=zta hd5.bx 1)) | (go_at_call 38;(with_reducible refine (HHE.out _ hd2).mono ?_);rintro e u4 ⟨rfl,hb4⟩;(have hd4:=hd2.carry hb4);(have g1:=hd4.c1);(have g2:=zta hd4.bx 1)) | (go_at_call 117;(with_reducible refine (HMQ.out _ hd1).mono ?_);rintro e u2 ⟨rfl,hd2,hO2⟩) | (go_at_call 114;(with_reducible refine HS2.mono ?_);rintro e u1 ⟨rfl,hd1,hO1⟩;(have n9:=hd1.c9);(have n1:=hd1.c1);(have f1:=zta hd1.bx 1);(have HR1:Hid (u1.ownsRow B 124 3 (.slice (some ⟨gb,0,none⟩) k1 nc) k1 (fl ns)):=ownsRow_ob HROW.out hO1 (fun g hg=>by have:=own_block HROW.out g hg;omega));(have hcl:=cellsF u1 HR1.out)))
     go_ret
     have hBY:B≤Y.heap.size:=by have:=hb1.size;have:=hO1.size;have:=hO6.size;omega
     have hbXw:Below B Y w2:=((Below.refl B Y).alloc hBY _).grown hgrow (by simp;omega) (fun g e=>own_block HRY.out g e)
     have hdF:=hdY.v9 (hbXw.mono (Nat.le_of_lt hpB)) hblk (.slice na' (k1+1) nc')
     have hrF:=ownsRow_setCell_below hown' (a:=⟨p,9,none⟩) hpB (.slice na' (k1+1) nc')
     rw [HRR.out]
     refine⟨rfl,⟨_,by rw [show i+3=k3 by rw [HK3.out]];exact hdF,?_⟩,(((Ob.of hb1).trans (hO1.trans hO6)).toOB hBw).trans ((ObB.ofB hbXw).trans ((ob_set _ _ _ _).toOB (Nat.le_trans hBY hbXw.size)))⟩
     exact by rw [List.length_append,fl_append,HKL.out];exact hrF
   · rw [nteD,if_pos hmk,if_neg (show ¬ mkD (hereT l (i+1)) ⟨#[63]⟩=true by simp [hq1])] at hR
     have HMQ:Hid (∀ V,Dsk p l ad cap (i+1) kd fr rd N (.slice (some ⟨gb,0,none⟩) k1 nc) V→Calls Tryz.prog 117 #[.pointer (some ⟨p,0,none⟩),.string ⟨#[63]⟩] V fun e w'=>e=.returned (.bool false)∧Below V.heap.size V w'):=fun V hV=>mark_no hV (by omega) _ hq1
     have HMB:Hid (∀ V,Dsk p l ad cap (i+1) kd fr rd N (.slice (some ⟨gb,0,none⟩) k1 nc) V→Calls Tryz.prog 117 #[.pointer (some ⟨p,0,none⟩),.string ⟨#[33]⟩] V fun e w'=>e=.returned (.bool true)∧Dsk p l ad cap (i+1+1) kd fr rd N (.slice (some ⟨gb,0,none⟩) k1 nc) w'∧Ob p V w'):=fun V hV=>mark_yes hV (by omega) _ hq2
     have HHE:Hid (∀ V,Dsk p l ad cap (i+1+1) kd fr rd N (.slice (some ⟨gb,0,none⟩) k1 nc) V→Calls Tryz.prog 38 #[.pointer (some ⟨p,0,none⟩)] V fun e w'=>e=.returned (.agg #[.int .i64 (hereT l (i+1+1)).1,.string (hereT l (i+1+1)).2.1,.int .i64 (hereT l (i+1+1)).2.2.1,.int .i64 (hereT l (i+1+1)).2.2.2])∧Below V.heap.size V w'):=fun V hV=>here_any hV (by omega)
     have hxs:=hS (i+1+1)
     obtain⟨x,hx⟩:∃ x,hereT l (i+1+1)=x:=⟨_,rfl⟩
     rw [hx] at hR hxs HHE
     by_cases h3:x.1=3
     case neg =>
      rw [if_neg h3] at hR
      have HRR:Hid (R=.error (80,x.2.2.2)):=hR.symm
      have h3b:(x.1 != 3)=true:=by simpa using h3
      clear hR hmk hq1 hq2 h3
      go_enter Tryz.func118,Tryz.ntmps118
      go_wp2_with (first | (go_at_call 38;(with_reducible refine (HHE.out _ hd3).mono ?_);rintro e u4 ⟨rfl,hb4⟩;(have hd4:=hd3.carry hb4);(have g1:=hd4.c1);(have g2:=zta hd4.bx 1)) | (go_at_call 117;(have hzz:=hd2);(with_reducible refine (HMB.out _ hd2).mono ?_);rintro e u3 ⟨rfl,hd3,hO3⟩) | (go_at_call 117;(with_reducible refine (HMQ.out _ hd1).mono ?_);rintro e u2 ⟨rfl,hb2⟩;(have hd2:=hd1.carry hb2);(have hO2:Ob p u1 u2:=Ob.of hb2)) | (go_at_call 114;(with_reducible refine HS2.mono ?_);rintro e u1 ⟨rfl,hd1,hO1⟩;(have n9:=hd1.c9);(have n1:=hd1.c1);(have f1:=zta hd1.bx 1);(have HR1:Hid (u1.ownsRow B 124 3 (.slice (some ⟨gb,0,none⟩) k1 nc) k1 (fl ns)):=ownsRow_ob HROW.out hO1 (fun g hg=>by have:=own_block HROW.out g hg;omega));(have hcl:=cellsF u1 HR1.out)))
      go_ret
      rw [HRR.out]
      exact⟨rfl,i+1+1,⟨_,hd4,by rw [HKL.out];exact ownsRow_ob HR1.out ((hO2.trans hO3).trans (Ob.of hb4)) (fun g hg=>by have:=own_block HR1.out g hg;omega)⟩,congrArg (fun y:Tk4=>y.2.2.2) hx,by omega,((Ob.of hb1).trans (hO1.trans ((hO2.trans hO3).trans (Ob.of hb4)))).toOB hBw⟩
     rw [if_pos h3] at hR
     have h3b:(x.1 != 3)=false:=by simpa using h3
     have HNU:∀ V,Calls Tryz.prog 115 #[.string x.2.1] V fun e w'=>∃ er:Int,e=.returned (.tuple #[.int .i64 (((numR x.2.1).getD 0:Nat):Int),.int .i64 er])∧Below V.heap.size V w':=rNum_get x.2.1 (by unfold maxLen;omega)
     obtain⟨t,ht⟩:∃ t,(numR x.2.1).getD 0=t:=⟨_,rfl⟩
     rw [ht] at hR HNU
     clear ht h3 hmk hq1 hq2
     by_cases hbig:1048576<t
     case pos =>
      rw [if_pos hbig] at hR
      have HRR:Hid (R=.error (75,x.2.2.2)):=hR.symm
      have hbg:(1048576:Int)<(t:Int):=by omega
      clear hR hbig
      go_enter Tryz.func118,Tryz.ntmps118
      go_wp2_with (first | (go_at_call 115;(with_reducible refine (HNU _).mono ?_);rintro e u6 ⟨er6,rfl,hb6⟩;(have hd6:=hd5.carry hb6);(have g5:=hd6.c1);(have g6:=zta hd6.bx 1)) | (go_at_call 38;(have hzz:=hd4);(with_reducible refine (HHE.out _ hd4).mono ?_);rintro e u5 ⟨rfl,hb5⟩;(have hd5:=hd4.carry hb5);(have g3:=hd5.c1);(have g4:=zta hd5.bx 1)) | (go_at_call 38;(with_reducible refine (HHE.out _ hd3).mono ?_);rintro e u4 ⟨rfl,hb4⟩;(have hd4:=hd3.carry hb4);(have g1:=hd4.c1);(have g2:=zta hd4.bx 1)) | (go_at_call 117;(have hzz:=hd2);(with_reducible refine (HMB.out _ hd2).mono ?_);rintro e u3 ⟨rfl,hd3,hO3⟩) | (go_at_call 117;(with_reducible refine (HMQ.out _ hd1).mono ?_);rintro e u2 ⟨rfl,hb2⟩;(have hd2:=hd1.carry hb2);(have hO2:Ob p u1 u2:=Ob.of hb2)) | (go_at_call 114;(with_reducible refine HS2.mono ?_);rintro e u1 ⟨rfl,hd1,hO1⟩;(have n9:=hd1.c9);(have n1:=hd1.c1);(have f1:=zta hd1.bx 1);(have HR1:Hid (u1.ownsRow B 124 3 (.slice (some ⟨gb,0,none⟩) k1 nc) k1 (fl ns)):=ownsRow_ob HROW.out hO1 (fun g hg=>by have:=own_block HROW.out g hg;omega));(have hcl:=cellsF u1 HR1.out)))
      go_ret
      rw [HRR.out]
      exact⟨rfl,i+1+1,⟨_,hd6,by rw [HKL.out];exact ownsRow_ob HR1.out (((hO2.trans hO3).trans (Ob.of hb4)).trans ((Ob.of hb5).trans (Ob.of hb6))) (fun g hg=>by have:=own_block HR1.out g hg;omega)⟩,congrArg (fun y:Tk4=>y.2.2.2) hx,by omega,((Ob.of hb1).trans (hO1.trans (((hO2.trans hO3).trans (Ob.of hb4)).trans ((Ob.of hb5).trans (Ob.of hb6))))).toOB hBw⟩
     rw [if_neg hbig] at hR
     have HRR:Hid (R=.ok (o,(t:Int),1)):=hR.symm
     have hbg:¬ (1048576:Int)<(t:Int):=by omega
     obtain⟨ic,hic,hz0,hz1,hz2⟩:=info_partsN
     obtain⟨k3,hk3⟩:∃ k3,k3=i+1+1+1:=⟨_,rfl⟩
     have hadd:((i+1+1:Nat):Int)+1=(k3:Int):=by omega
     have hk3b:k3≤1000000:=by omega
     have HK3:Hid (k3=i+1+1+1):=hk3
     obtain⟨i2,hi2⟩:∃ i2,i+1+1=i2:=⟨_,rfl⟩
     rw [hi2] at hadd HHE
     rw [hi2] at HMB
     have HI2:Hid (i+1+1=i2):=hi2
     clear hR hbig hk3 hi2 hx
     go_enter Tryz.func118,Tryz.ntmps118
     go_wp2_with (first | (at_builtin;refine wpList_append_own_at _ rfl _ _ 37 rfl B 124 ic _ 3 24 Tryz.underlying37 hic hz0 hz1 hz2 rfl (by decide) _ k1 (fl ns) rfl (World.ownsRow.alloc HRY.out _) ⟨Y.heap.size,0,none⟩ 1 1 [_,_,_] rfl rfl (rowN _ #[_,_,_] _) (by simp [Value.oneCell']) (by unfold maxLen;omega) (by omega) (by simp;omega) ?_;intro v' w2 hown' hgrow _ hob;obtain⟨na',nc',rfl,hcell'⟩:=ownsRow_form hown';(have hblk:w2.heap[p]? = Y.heap[p]? := (hgrow.block _ (by simp;omega) (fun e=>by have:=own_block HRY.out _ e.symm;omega)).trans (Below.heap_alloc _ _ _ hpY));(have m9:w2.cell? ⟨p,9,none⟩=some (.slice (some ⟨gb,0,none⟩) k1 nc):=(World.cell?_of_block (a:=⟨p,9,none⟩) hblk).trans y9);(have mz:=zta (hblk.trans hdY.bx) 9)) | (go_at_call 115;(with_reducible refine (HNU _).mono ?_);rintro e u6 ⟨er6,rfl,hb6⟩;(have hd6:=hd5.carry hb6);(have g5:=hd6.c1);(have g6:=zta hd6.bx 1);obtain⟨Y,hY⟩:∃ Y,u6.setCell ⟨p,1,none⟩ (.int .i64 (k3:Int))=Y:=⟨_,rfl⟩;(have hOY:Ob p u6 Y:=by rw [← hY];exact ob_set _ _ _ _);(have hdY:Dsk p l ad cap k3 kd fr rd N (.slice (some ⟨gb,0,none⟩) k1 nc) Y:=by rw [← hY];exact hd6.at k3);(have y9:=hdY.c9);(have hO6:Ob p u1 Y:=((hO2.trans hO3).trans (Ob.of hb4)).trans (((Ob.of hb5).trans (Ob.of hb6)).trans hOY));(have HRY:Hid (Y.ownsRow B 124 3 (.slice (some ⟨gb,0,none⟩) k1 nc) k1 (fl ns)):=ownsRow_ob HR1.out hO6 (fun g hg=>by have:=own_block HR1.out g hg;omega));(have hpY:=hdY.lt);(have hBY0:B≤Y.heap.size:=by have:=hb1.size;have:=hO1.size;have:=hO6.size;omega)) | (go_at_call 38;(have hzz:=hd4);(with_reducible refine (HHE.out _ hd4).mono ?_);rintro e u5 ⟨rfl,hb5⟩;(have hd5:=hd4.carry hb5);(have g3:=hd5.c1);(have g4:=zta hd5.bx 1)) | (go_at_call 38;(with_reducible refine (HHE.out _ hd3).mono ?_);rintro e u4 ⟨rfl,hb4⟩;(have hd4:=hd3.carry hb4);(have g1:=hd4.c1);(have g2:=zta hd4.bx 1)) | (go_at_call 117;(have hzz:=hd2);(with_reducible refine (HMB.out _ hd2).mono ?_);rintro e u3 ⟨rfl,hd3,hO3⟩) | (go_at_call 117;(with_reducible refine (HMQ.out _ hd1).mono ?_);rintro e u2 ⟨rfl,hb2⟩;(have hd2:=hd1.carry hb2);(have hO2:Ob p u1 u2:=Ob.of hb2)) | (go_at_call 114;(with_reducible refine HS2.mono ?_);rintro e u1 ⟨rfl,hd1,hO1⟩;(have n9:=hd1.c9);(have n1:=hd1.c1);(have f1:=zta hd1.bx 1);(have HR1:Hid (u1.ownsRow B 124 3 (.slice (some ⟨gb,0,none⟩) k1 nc) k1 (fl ns)):=ownsRow_ob HROW.out hO1 (fun g hg=>by have:=own_block HROW.out g hg;omega));(have hcl:=cellsF u1 HR1.out)))
     go_ret
     have hBY:B≤Y.heap.size:=by have:=hb1.size;have:=hO1.size;have:=hO6.size;omega
     have hbXw:Below B Y w2:=((Below.refl B Y).alloc hBY _).grown hgrow (by simp;omega) (fun g e=>own_block HRY.out g e)
     have hdF:=hdY.v9 (hbXw.mono (Nat.le_of_lt hpB)) hblk (.slice na' (k1+1) nc')
     have hrF:=ownsRow_setCell_below hown' (a:=⟨p,9,none⟩) hpB (.slice na' (k1+1) nc')
     rw [HRR.out]
     refine⟨rfl,⟨_,by rw [show i+3=k3 by rw [HK3.out]];exact hdF,?_⟩,(((Ob.of hb1).trans (hO1.trans hO6)).toOB hBw).trans ((ObB.ofB hbXw).trans ((ob_set _ _ _ _).toOB (Nat.le_trans hBY hbXw.size)))⟩
     exact by rw [List.length_append,fl_append,HKL.out];exact hrF
end Go.Proofs.YtmahamdmapbilaaGreatDoor
