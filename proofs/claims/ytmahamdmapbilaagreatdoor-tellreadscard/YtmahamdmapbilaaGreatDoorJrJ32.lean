import Derived.Test.YtmahamdmapbilaaGreatDoorJrJ31
import Derived.Test.YtmahamdmapbilaaGreatDoorJrJ6
import Derived.Test.YtmahamdmapbilaaGreatDoorJrJ29
set_option maxHeartbeats 40000000
set_option maxRecDepth 100000
set_option linter.unusedVariables false
namespace Go.Proofs.YtmahamdmapbilaaGreatDoor
open Go.RowKit Go.Shelf Go.Lib
theorem d2_b {M:Nat}{L:List Int}{ra:Option Addr}{rc:Nat}{p:Nat}{l:List Tk4}{ad:Option Addr}{cap:Nat}{w:World}(hE:En8 M L (.agg #[.slice ra L.length rc]) p w)(h:Dsk p l ad cap 0 0 0 0 0 (.slice none 0 0) w)(hS:Shw6 l)(x0:Tk4)(hx0:hereT l 0=x0)(hk0:x0.1=2)(ht0:x0.2.1.toList=[114,101,112,108,121])(fr:Int)(hfr:sgR L l 1=.ok fr)(h3:(hereT l 2).1=3)(rd:Nat)(hrd:(numR (hereT l 2).2.1).getD 0=rd)(hgd:1≤rd∧rd≤1099511627775)(hset:setKT (hereT l 3)=true)(N:Nat)(hpar:parseR L (hereT l 3).2.1=(N,0,0))(hbr:mkD (hereT l 4) ⟨#[91]⟩=false):Calls Tryz.prog 37 #[.pointer (some ⟨p,0,none⟩),.agg #[.slice ra L.length rc]] w (RdO8 p l ad cap w (.error (80,(hereT l 4).2.2.2))):=by
 obtain⟨W1,hW1⟩:∃ W1,w.alloc (.cells #[.slice ra L.length rc] 53)=W1:=⟨_,rfl⟩
 have hb1:Below w.heap.size w W1:=by rw [← hW1];exact al1t _ _
 have hrb:W1.heap[w.heap.size]? = some (.cells #[.slice ra L.length rc] 53 (0,0)):=by rw [← hW1];exact zna rfl
 have hpw:=h.lt
 have hwp:w.heap.size≠p:=by omega
 have hs1:=hb1.size
 have hlb:=zla hrb
 obtain⟨i0,hi0⟩:∃ i0,i0=0:=⟨_,rfl⟩
 obtain⟨i1,hi1⟩:∃ i1,i1=1:=⟨_,rfl⟩
 obtain⟨i2,hi2⟩:∃ i2,i2=2:=⟨_,rfl⟩
 obtain⟨i3,hi3⟩:∃ i3,i3=3:=⟨_,rfl⟩
 obtain⟨i4,hi4⟩:∃ i4,i4=4:=⟨_,rfl⟩
 obtain⟨i5,hi5⟩:∃ i5,i5=5:=⟨_,rfl⟩
 have HI5:Hid (i5=5):=hi5
 have HI1:Hid (i1=1):=hi1
 have HI2:Hid (i2=2):=hi2
 have HI3:Hid (i3=3):=hi3
 have HI4:Hid (i4=4):=hi4
 have hdk:Dsk p l ad cap i0 0 0 0 0 (.slice none 0 0) W1:=by rw [hi0];exact h.carry hb1
 have HH1:=here_any hdk (by omega)
 rw [hi0,hx0] at HH1
 unfold tk4 tkV at HH1
 have hkb:(x0.1 == 2)=true:=by rw [hk0];rfl
 have hE1:Hid (En8 M L (.agg #[.slice ra L.length rc]) p w):=hE
 have hEW:Hid (En8 M L (.agg #[.slice ra L.length rc]) p w):=hE
 have ha01:(i0:Int)+1=(i1:Int):=by omega
 have ha12:(i1:Int)+1=(i2:Int):=by omega
 have ha23:(i2:Int)+1=(i3:Int):=by omega
 have ha34:(i3:Int)+1=(i4:Int):=by omega
 have hw1:(i1:Int)≤1000000:=by omega
 have hw2:(i2:Int)≤1000000:=by omega
 have hw3:(i3:Int)≤1000000:=by omega
 have hw4:(i4:Int)≤1000000:=by omega
 have hf0:=fld_t0
 have hf1:=fld_t1
 have hoo:oneS (hereT l 1)=true∧((rn (hereT l 1).2.1 0:Nat):Int)∈L∧((L.idxOf ((rn (hereT l 1).2.1 0:Nat):Int):Nat):Int)=fr:=by
   unfold sgR sgI at hfr
   split at hfr
   · rename_i q1
     split at hfr
     · rename_i q2
       cases hfr
       exact⟨q1,q2,rfl⟩
     · cases hfr
   · cases hfr
 obtain⟨ho,hin,hid⟩:=hoo
 have hfr0:0≤fr:=by omega
 have hom1:(fr == -1)=false:=by simp;omega
 have hom2:(fr == -2)=false:=by simp;omega
 have HS:Hid (∀ V,Below p w V→Dsk p l ad cap i1 2 0 0 0 (.slice none 0 0) V→Calls Tryz.prog 114 #[.pointer (some ⟨p,0,none⟩),.agg #[.slice ra L.length rc]] V fun e w'=>e=.returned (.int .i64 fr)∧Dsk p l ad cap i2 2 0 0 0 (.slice none 0 0) w'∧Ob p V w'):=fun V hB hV=>(sign_two (hE1.out.on hB) hV hS (by omega) (by rw [hi1];exact ho)).mono (fun e w' q=>by
   have q2:=q.2 (by rw [hi1];exact hin)
   rw [hi1,hid] at q2
   rw [hi2]
   exact q2)
 obtain⟨x2,hx2⟩:∃ x2,hereT l 2=x2:=⟨_,rfl⟩
 have hxs2:=hS 2
 rw [hx2] at hxs2
 have HK2:Hid (∀ V,Dsk p l ad cap i2 2 fr 0 0 (.slice none 0 0) V→Calls Tryz.prog 38 #[.pointer (some ⟨p,0,none⟩)] V fun e w'=>e=.returned (.agg #[.int .i64 x2.1,.string x2.2.1,.int .i64 x2.2.2.1,.int .i64 x2.2.2.2])∧Below V.heap.size V w'):=fun V hV=>by
   have q:=here_any hV (by omega)
   rw [hi2,hx2] at q
   exact q
 rw [hx2] at h3 hrd
 have HNU:∀ V,Calls Tryz.prog 115 #[.string x2.2.1] V fun e w'=>∃ er:Int,e=.returned (.tuple #[.int .i64 (rd:Int),.int .i64 er])∧Below V.heap.size V w':=by
   rw [← hrd]
   exact rNum_get x2.2.1 (by unfold maxLen;omega)
 have h3b:(x2.1 != 3)=false:=by simpa using h3
 have g1:¬ (rd:Int)<1:=by omega
 have g2:¬ (1099511627775:Int)<(rd:Int):=by omega
 obtain⟨x3,hx3⟩:∃ x3,hereT l 3=x3:=⟨_,rfl⟩
 have hxs3:=hS 3
 rw [hx3] at hxs3
 have HK3:Hid (∀ V,Dsk p l ad cap i3 2 fr (rd:Int) 0 (.slice none 0 0) V→Calls Tryz.prog 38 #[.pointer (some ⟨p,0,none⟩)] V fun e w'=>e=.returned (.agg #[.int .i64 x3.1,.string x3.2.1,.int .i64 x3.2.2.1,.int .i64 x3.2.2.2])∧Below V.heap.size V w'):=fun V hV=>by
   have q:=here_any hV (by omega)
   rw [hi3,hx3] at q
   exact q
 rw [hx3] at hset hpar
 have HP:Hid (∀ V,Below p w V→Calls Tryz.prog 116 #[.agg #[.slice ra L.length rc],.string x3.2.1] V fun e w'=>e=.returned (.tuple #[.agg #[.int .u32 (wd N 0:Nat),.int .u32 (wd N 1:Nat),.int .u32 (wd N 2:Nat),.int .u32 (wd N 3:Nat)],.int .i64 0,.int .i64 0])∧Below V.heap.size V w'):=fun V hV=>by
   have q:=rParse_any V (hEW.out.ros V hV) (Nat.le_trans hEW.out.le hV.size) x3.2.1 (by unfold maxLen;omega)
   rw [hpar] at q
   exact q
 have HMK:Hid (∀ V,Dsk p l ad cap i4 2 fr (rd:Int) N (.slice none 0 0) V→Calls Tryz.prog 117 #[.pointer (some ⟨p,0,none⟩),.string ⟨#[91]⟩] V fun e w'=>e=.returned (.bool false)∧Below V.heap.size V w'):=fun V hV=>by
   have q:=mark_no hV (by omega) ⟨#[91]⟩ (by rw [HI4.out];exact hbr)
   exact q
 have hcond:(x3.1 == 2)=true∨((x3.1 == 2)=false∧(x3.1 == 5)=true∧(x3.2.1.toList == [45])=true):=by
   unfold setKT at hset
   cases q1:(x3.1 == 2) with
   | true=>exact .inl rfl
   | false =>
     rw [q1,Bool.false_or,Bool.and_eq_true] at hset
     exact .inr ⟨rfl,hset.1,hset.2⟩
 obtain⟨n0,hn0⟩:∃ n0,L.length=n0:=⟨_,rfl⟩
 rw [hn0] at hW1 hrb HS HP ⊢
 clear hset hpar
 clear hk0 hn0 hE h hx0 hi0 hi1 hi2 hi3 hi4 hi5 ho hin hid hfr h3 hrd hgd hbr
 rcases hcond with q1 | ⟨q1,q5,q6⟩
 · have q1b:(x3.1 != 2)=false:=by simp at q1 ⊢;exact q1
   clear q1
   go_enter Tryz.func37,Tryz.ntmps37
   go_wp2_with (first | (refine wpList_store_row rfl 48 (.tmp 5) (.tmp 115) rfl u1.heap.size (tkC x3) rfl rfl 48 _ bx8 infoTk rfl (by simp [tkC,Value.oneCell']) ?_;rw [hV6];show Hid _) | (go_at_call 38;(have hzz:=hb7);(with_reducible refine (HK3.out _ e5).mono ?_);rintro e u8 ⟨rfl,hb8⟩;(have d8:=e5.carry hb8);(have B8:Below p w u8:=E5.trans (hb8.mono (Nat.le_of_lt e5.lt)));(have bx8:=(hb8.block _ (zla bx5)).trans bx5);(have rb8:=(hb8.block _ (zla rb5)).trans rb5);obtain⟨V6,hV6⟩:∃ V,u8.setRow u1.heap.size (tkC x3)=V:=⟨_,rfl⟩;(have o6:∀ q,q≠u1.heap.size→V6.heap[q]? = u8.heap[q]? := fun q hq=>by rw [← hV6];exact Go.setRow_other _ _ _ _ hq);(have b6:Below p u8 V6:=by rw [← hV6];exact⟨rfl,rfl,rfl,by simp [World.setRow],fun q hq=>Go.setRow_other _ _ _ _ (by have:=hbu1.size;omega)⟩);(have hr6:V6.heap[u1.heap.size]? = some (.cells (tkC x3) 48 (0,0)):=by rw [← hV6];exact setRow_heap _ _ _ _ _ _ bx8);(have e6:Dsk p l ad cap i3 2 fr (rd:Int) 0 (.slice none 0 0) V6:=d8.put b6 ((o6 p (by have:=hbu1.size;omega)).trans d8.bx));(have E6:Below p w V6:=B8.trans b6);(have rb6:=(o6 w.heap.size (by have:=hbu1.size;omega)).trans rb8);(have k6:V6.cell? ⟨w.heap.size,0,none⟩=some (.slice ra n0 rc):=(zca rb6 0).trans rfl);(have y0:V6.cell? ⟨u1.heap.size,0,none⟩=some (.int .i64 x3.1):=(zca hr6 0).trans rfl);(have y1:V6.cell? ⟨u1.heap.size,1,none⟩=some (.string x3.2.1):=(zca hr6 1).trans rfl)) | (go_at_call 115;(with_reducible refine (HNU _).mono ?_);rintro e u7 ⟨er7,rfl,hb7⟩;(have d7:=d6.carry hb7);(have hb57:=bel3 (bel3 hb5 hb6) hb7);(have B7:Below p w u7:=E3.trans (hb57.mono (Nat.le_of_lt e3.lt)));(have t7_1:=d7.c1);obtain⟨t7_2,t7_3,t7_4⟩:=d7.c2;(have t7_z1:=d7.z 1);(have t7_z2:=d7.z 2);(have t7_z3:=d7.z 3);(have t7_z4:=d7.z 4);obtain⟨V4,hV4⟩:∃ V,u7.setCell ⟨p,4,none⟩ (.int .i64 (rd:Int))=V:=⟨_,rfl⟩;(have e4:Dsk p l ad cap i2 2 fr (rd:Int) 0 (.slice none 0 0) V4:=by rw [← hV4];exact d7.st4 _);(have t8_1:=e4.c1);obtain⟨t8_2,t8_3,t8_4⟩:=e4.c2;(have t8_z1:=e4.z 1);(have t8_z2:=e4.z 2);(have t8_z3:=e4.z 3);(have t8_z4:=e4.z 4);obtain⟨V5,hV5⟩:∃ V,V4.setCell ⟨p,1,none⟩ (.int .i64 (i3:Int))=V:=⟨_,rfl⟩;(have e5:Dsk p l ad cap i3 2 fr (rd:Int) 0 (.slice none 0 0) V5:=by rw [← hV5];exact e4.at i3);(have E5:Below p w V5:=by rw [← hV5,← hV4];exact (B7.trans (bl_set _ _ _ _)).trans (bl_set _ _ _ _));(have t9_1:=e5.c1);obtain⟨t9_2,t9_3,t9_4⟩:=e5.c2;(have t9_z1:=e5.z 1);(have t9_z2:=e5.z 2);(have t9_z3:=e5.z 3);(have t9_z4:=e5.z 4);(have rb5:V5.heap[w.heap.size]? = some (.cells #[.slice ra n0 rc] 53 (0,0)):=by rw [← hV5,Below.heap_setCell _ _ _ _ hwp,← hV4,Below.heap_setCell _ _ _ _ hwp];exact (hb57.block _ (zla rb3)).trans rb3);(have k5:V5.cell? ⟨w.heap.size,0,none⟩=some (.slice ra n0 rc):=(zca rb5 0).trans rfl);(have bx5:V5.heap[u1.heap.size]? = some (.cells (tkC x0) 48 (0,0)):=by rw [← hV5,Below.heap_setCell _ _ _ _ (show u1.heap.size≠p by have:=hbu1.size;omega),← hV4,Below.heap_setCell _ _ _ _ (show u1.heap.size≠p by have:=hbu1.size;omega)];exact (hb57.block _ (zla bx3)).trans bx3)) | (go_at_call 38;(have hzz:=hb5);(with_reducible refine (HK2.out _ d5).mono ?_);rintro e u6 ⟨rfl,hb6⟩;(have d6:=d5.carry hb6)) | (go_at_call 38;(have hzz:=hO4);(with_reducible refine (HK2.out _ e3).mono ?_);rintro e u5 ⟨rfl,hb5⟩;(have d5:=e3.carry hb5);(have B5:Below p w u5:=E3.trans (hb5.mono (Nat.le_of_lt e3.lt)))) | (go_at_call 114;(with_reducible refine (HS.out V2 B2 e2).mono ?_);rintro e u4 ⟨rfl,d4,hO4⟩;(have hs4:=hO4.size);(have B4:Below p w u4:=B2.trans (hO4.toB (Nat.le_of_lt e2.lt)));(have rb4:=(hO4.block _ (zla rb2) hwp).trans rb2);(have k4:u4.cell? ⟨w.heap.size,0,none⟩=some (.slice ra n0 rc):=(zca rb4 0).trans rfl);(have bx4:=(hO4.block _ (zla bx2) (show u1.heap.size≠p by have:=hbu1.size;omega)).trans bx2);(have t4_1:=d4.c1);obtain⟨t4_2,t4_3,t4_4⟩:=d4.c2;(have t4_z1:=d4.z 1);(have t4_z2:=d4.z 2);(have t4_z3:=d4.z 3);(have t4_z4:=d4.z 4);obtain⟨V3,hV3⟩:∃ V,u4.setCell ⟨p,3,none⟩ (.int .i64 fr)=V:=⟨_,rfl⟩;(have e3:Dsk p l ad cap i2 2 fr 0 0 (.slice none 0 0) V3:=by rw [← hV3];exact d4.st3 _);(have E3:Below p w V3:=by rw [← hV3];exact B4.trans (bl_set _ _ _ _));(have t5_1:=e3.c1);obtain⟨t5_2,t5_3,t5_4⟩:=e3.c2;(have t5_z1:=e3.z 1);(have t5_z2:=e3.z 2);(have t5_z3:=e3.z 3);(have t5_z4:=e3.z 4);(have rb3:V3.heap[w.heap.size]? = some (.cells #[.slice ra n0 rc] 53 (0,0)):=by rw [← hV3,Below.heap_setCell _ _ _ _ hwp];exact rb4);(have k3:V3.cell? ⟨w.heap.size,0,none⟩=some (.slice ra n0 rc):=(zca rb3 0).trans rfl);(have bx3:V3.heap[u1.heap.size]? = some (.cells (tkC x0) 48 (0,0)):=by rw [← hV3,Below.heap_setCell _ _ _ _ (show u1.heap.size≠p by have:=hbu1.size;omega)];exact bx4)) | (refine wpList_store_row rfl 48 (.tmp 5) (.tmp 14) rfl u1.heap.size (tkC x0) rfl rfl 48 _ hr2 infoTk rfl (by simp [tkC,Value.oneCell']) ?_;rw [hu3];(have p0:u3.cell? ⟨u1.heap.size,0,none⟩=some (.int .i64 x0.1):=(zca hr3 0).trans rfl);(have p1:u3.cell? ⟨u1.heap.size,1,none⟩=some (.string x0.2.1):=(zca hr3 1).trans rfl);(have B3:Below p w u3:=(bel3 hb1 (bel3 hbu1 hb3)).mono (Nat.le_of_lt hpw));(have d3:Dsk p l ad cap i0 0 0 0 0 (.slice none 0 0) u3:=(hdk.carry hbu1).carry hb3);(have t3_1:=d3.c1);obtain⟨t3_2,t3_3,t3_4⟩:=d3.c2;(have t3_z1:=d3.z 1);(have t3_z2:=d3.z 2);(have t3_z3:=d3.z 3);(have t3_z4:=d3.z 4);obtain⟨V1,hV1⟩:∃ V,u3.setCell ⟨p,2,none⟩ (.int .i64 2)=V:=⟨_,rfl⟩;(have e1:Dsk p l ad cap i0 2 0 0 0 (.slice none 0 0) V1:=by rw [← hV1];exact d3.st2 _);(have t1_1:=e1.c1);obtain⟨t1_2,t1_3,t1_4⟩:=e1.c2;(have t1_z1:=e1.z 1);(have t1_z2:=e1.z 2);(have t1_z3:=e1.z 3);(have t1_z4:=e1.z 4);obtain⟨V2,hV2⟩:∃ V,V1.setCell ⟨p,1,none⟩ (.int .i64 (i1:Int))=V:=⟨_,rfl⟩;(have e2:Dsk p l ad cap i1 2 0 0 0 (.slice none 0 0) V2:=by rw [← hV2];exact e1.at i1);(have B2:Below p w V2:=by rw [← hV2,← hV1];exact (B3.trans (bl_set _ _ _ _)).trans (bl_set _ _ _ _));(have rb2:V2.heap[w.heap.size]? = _:=(show V2.heap[w.heap.size]? = some (.cells #[.slice ra n0 rc] 53 (0,0)) by rw [← hV2,Below.heap_setCell _ _ _ _ hwp,← hV1,Below.heap_setCell _ _ _ _ hwp];exact (hb3.block _ (by have:=hbu1.size;omega)).trans ((hbu1.block _ (zla hrb)).trans hrb)));(have k2:V2.cell? ⟨w.heap.size,0,none⟩=some (.slice ra n0 rc):=(zca rb2 0).trans rfl);(have bx2:V2.heap[u1.heap.size]? = some (.cells (tkC x0) 48 (0,0)):=by rw [← hV2,Below.heap_setCell _ _ _ _ (show u1.heap.size≠p by have:=hbu1.size;omega),← hV1,Below.heap_setCell _ _ _ _ (show u1.heap.size≠p by have:=hbu1.size;omega)];exact hr3)) | (go_at_call 38;(with_reducible refine HH1.mono ?_);rintro e u1 ⟨rfl,hbu1⟩;obtain⟨u2,u3,hu2,hu3,hr2,hr3,hb3,hs3⟩:=box_word u1 x0))
   refine (show _ from ?_)
   rename_i K0 hK
   refine hK _ _ ?_
   repeat (apply wp_seq)
   refine wp_region ?_
   refine wpOps_pure0 (fun i__=>([(.pointer (some ⟨u1.heap.size,0,none⟩)),(.int .i64 x3.1),(.bool false),(.bool false),undef,undef,undef,undef,undef,undef,undef,undef,(.bool false)]:List Value).getD i__ undef) (fun V=>V=V6) (by kernel_rfl) (rfl) ?_ ?_
   · refine (sqc ?_ (sqc ?_ (sqc ?_ (sqc ?_ (sqc ?_ (sqc ?_ (sqc ?_ (sqc ?_ (sqc ?_ (sqc ?_ (sqc ?_ (sqc ?_ (sqc ?_ trivial)))))))))))))
     · exact zfa rfl trivial _ _ _ _ rfl rfl (fun v hw=>by subst hw;exact fld_k0 _ _)
     · exact zld rfl trivial _ _ _ rfl rfl (fun v hw=>by subst hw;exact ld_k0 hr6)
     · exact zbo rfl trivial _ _ _ _ _ _ _ rfl rfl rfl (fun v hw=>by rw [← q1b];rfl)
     · exact zmv rfl trivial _ rfl (by kernel_rfl)
     · exact zsk rfl 3 true 119 (.bool false) rfl rfl (by kernel_rfl) (by intro h;cases h) rfl
     · exact zsk rfl 3 true 119 (.bool false) rfl rfl (by kernel_rfl) (by intro h;cases h) rfl
     · exact zsk rfl 3 true 119 (.bool false) rfl rfl (by kernel_rfl) (by intro h;cases h) rfl
     · exact zsk rfl 3 true 119 (.bool false) rfl rfl (by kernel_rfl) (by intro h;cases h) rfl
     · exact zsk rfl 7 false 123 undef rfl rfl (by kernel_rfl) (by intro h;cases h) rfl
     · exact zsk rfl 7 false 123 undef rfl rfl (by kernel_rfl) (by intro h;cases h) rfl
     · exact zsk rfl 7 false 123 undef rfl rfl (by kernel_rfl) (by intro h;cases h) rfl
     · exact zsk rfl 3 true 119 (.bool false) rfl rfl (by kernel_rfl) (by intro h;cases h) rfl
     · exact step_pick rfl trivial _ _ _ false rfl (by kernel_rfl) (by kernel_rfl)
   intro W hW
   simp only [Exit.then,finL,List.getD_cons_zero,List.getD_cons_succ,Nat.zero_add,Nat.reduceAdd,List.setIfInBounds_toArray,List.set_cons_zero,List.set_cons_succ]
   have hWV:W=V6:=hW
   subst hWV
   go_wp2_with (first | (go_at_call 117;(with_reducible refine (HMK.out _ e8).mono ?_);rintro e u12 ⟨rfl,hb12⟩;(have d12:=e8.carry hb12);(have B12:Below p w u12:=E8.trans (hb12.mono (Nat.le_of_lt e8.lt)))) | (go_at_call 116;(with_reducible refine (HP.out _ E6).mono ?_);rintro e u9 ⟨rfl,hb9⟩;(have d9:=e6.carry hb9);obtain⟨u10,hu10⟩:∃ u10,u9.alloc (.cells #[.int .u32 (wd N 0:Nat),.int .u32 (wd N 1:Nat),.int .u32 (wd N 2:Nat),.int .u32 (wd N 3:Nat)] 36)=u10:=⟨_,rfl⟩;(have hb10:Below u9.heap.size u9 u10:=by rw [← hu10];exact al1t _ _);(have s10:u10.heap[u9.heap.size]? = some (.cells #[.int .u32 (wd N 0:Nat),.int .u32 (wd N 1:Nat),.int .u32 (wd N 2:Nat),.int .u32 (wd N 3:Nat)] 36 (0,0)):=by rw [← hu10];exact zna rfl);(have d10:=d9.carry hb10);(have B10:Below p w u10:=E6.trans ((bel3 hb9 hb10).mono (Nat.le_of_lt e6.lt)));(have w0:u10.cell? ⟨u9.heap.size,0,none⟩=some (.int .u32 (wd N 0:Nat)):=(zca s10 0).trans rfl);(have w1:u10.cell? ⟨u9.heap.size,1,none⟩=some (.int .u32 (wd N 1:Nat)):=(zca s10 1).trans rfl);(have w2:u10.cell? ⟨u9.heap.size,2,none⟩=some (.int .u32 (wd N 2:Nat)):=(zca s10 2).trans rfl);(have w3:u10.cell? ⟨u9.heap.size,3,none⟩=some (.int .u32 (wd N 3:Nat)):=(zca s10 3).trans rfl);obtain⟨m5,m6,m7,m8⟩:=dsk_c58 d10;(have n5:=d10.z 5);(have n6:=d10.z 6);(have n7:=d10.z 7);(have n8:=d10.z 8);obtain⟨V7,hV7⟩:∃ V,(((u10.setCell ⟨p,5,none⟩ (.int .u32 (wd N 0:Nat))).setCell ⟨p,6,none⟩ (.int .u32 (wd N 1:Nat))).setCell ⟨p,7,none⟩ (.int .u32 (wd N 2:Nat))).setCell ⟨p,8,none⟩ (.int .u32 (wd N 3:Nat))=V:=⟨_,rfl⟩;(have e7:Dsk p l ad cap i3 2 fr (rd:Int) N (.slice none 0 0) V7:=by rw [← hV7];exact dsk_st58 d10 N);(have E7:Below p w V7:=by rw [← hV7];exact B10.trans (bl_58 p u10 N));(have t11_1:=e7.c1);obtain⟨t11_2,t11_3,t11_4⟩:=e7.c2;(have t11_z1:=e7.z 1);(have t11_z2:=e7.z 2);(have t11_z3:=e7.z 3);(have t11_z4:=e7.z 4);(have rb7:V7.heap[w.heap.size]? = some (.cells #[.slice ra n0 rc] 53 (0,0)):=by rw [← hV7];exact (st58_other p u10 N _ hwp).trans ((hb10.block _ (Nat.lt_of_lt_of_le (zla rb6) hb9.size)).trans ((hb9.block _ (zla rb6)).trans rb6)));obtain⟨V8,hV8⟩:∃ V,V7.setCell ⟨p,1,none⟩ (.int .i64 (i4:Int))=V:=⟨_,rfl⟩;(have e8:Dsk p l ad cap i4 2 fr (rd:Int) N (.slice none 0 0) V8:=by rw [← hV8];exact e7.at i4);(have E8:Below p w V8:=by rw [← hV8];exact E7.trans (bl_set _ _ _ _));(have rb9:V8.heap[w.heap.size]? = some (.cells #[.slice ra n0 rc] 53 (0,0)):=by rw [← hV8,Below.heap_setCell _ _ _ _ hwp];exact rb7)))
   go_ret
   exact⟨rfl,p+1,i4,_,_,_,_,_,DN.of d12,by rw [HI4.out],by rw [HI4.out];omega,B12⟩
 · have q1b:(x3.1 != 2)=true:=by simp at q1 ⊢;exact q1
   have q5b:(x3.1 != 5)=false:=by simp at q5 ⊢;exact q5
   have q6b:x3.2.1.toList=[45]:=by simpa using q6
   clear q1 q5 q6
   go_enter Tryz.func37,Tryz.ntmps37
   go_wp2_with (first | (go_at_call 117;(with_reducible refine (HMK.out _ e8).mono ?_);rintro e u12 ⟨rfl,hb12⟩;(have d12:=e8.carry hb12);(have B12:Below p w u12:=E8.trans (hb12.mono (Nat.le_of_lt e8.lt)))) | (go_at_call 116;(with_reducible refine (HP.out _ E6).mono ?_);rintro e u9 ⟨rfl,hb9⟩;(have d9:=e6.carry hb9);obtain⟨u10,hu10⟩:∃ u10,u9.alloc (.cells #[.int .u32 (wd N 0:Nat),.int .u32 (wd N 1:Nat),.int .u32 (wd N 2:Nat),.int .u32 (wd N 3:Nat)] 36)=u10:=⟨_,rfl⟩;(have hb10:Below u9.heap.size u9 u10:=by rw [← hu10];exact al1t _ _);(have s10:u10.heap[u9.heap.size]? = some (.cells #[.int .u32 (wd N 0:Nat),.int .u32 (wd N 1:Nat),.int .u32 (wd N 2:Nat),.int .u32 (wd N 3:Nat)] 36 (0,0)):=by rw [← hu10];exact zna rfl);(have d10:=d9.carry hb10);(have B10:Below p w u10:=E6.trans ((bel3 hb9 hb10).mono (Nat.le_of_lt e6.lt)));(have w0:u10.cell? ⟨u9.heap.size,0,none⟩=some (.int .u32 (wd N 0:Nat)):=(zca s10 0).trans rfl);(have w1:u10.cell? ⟨u9.heap.size,1,none⟩=some (.int .u32 (wd N 1:Nat)):=(zca s10 1).trans rfl);(have w2:u10.cell? ⟨u9.heap.size,2,none⟩=some (.int .u32 (wd N 2:Nat)):=(zca s10 2).trans rfl);(have w3:u10.cell? ⟨u9.heap.size,3,none⟩=some (.int .u32 (wd N 3:Nat)):=(zca s10 3).trans rfl);obtain⟨m5,m6,m7,m8⟩:=dsk_c58 d10;(have n5:=d10.z 5);(have n6:=d10.z 6);(have n7:=d10.z 7);(have n8:=d10.z 8);obtain⟨V7,hV7⟩:∃ V,(((u10.setCell ⟨p,5,none⟩ (.int .u32 (wd N 0:Nat))).setCell ⟨p,6,none⟩ (.int .u32 (wd N 1:Nat))).setCell ⟨p,7,none⟩ (.int .u32 (wd N 2:Nat))).setCell ⟨p,8,none⟩ (.int .u32 (wd N 3:Nat))=V:=⟨_,rfl⟩;(have e7:Dsk p l ad cap i3 2 fr (rd:Int) N (.slice none 0 0) V7:=by rw [← hV7];exact dsk_st58 d10 N);(have E7:Below p w V7:=by rw [← hV7];exact B10.trans (bl_58 p u10 N));(have t11_1:=e7.c1);obtain⟨t11_2,t11_3,t11_4⟩:=e7.c2;(have t11_z1:=e7.z 1);(have t11_z2:=e7.z 2);(have t11_z3:=e7.z 3);(have t11_z4:=e7.z 4);(have rb7:V7.heap[w.heap.size]? = some (.cells #[.slice ra n0 rc] 53 (0,0)):=by rw [← hV7];exact (st58_other p u10 N _ hwp).trans ((hb10.block _ (Nat.lt_of_lt_of_le (zla rb6) hb9.size)).trans ((hb9.block _ (zla rb6)).trans rb6)));obtain⟨V8,hV8⟩:∃ V,V7.setCell ⟨p,1,none⟩ (.int .i64 (i4:Int))=V:=⟨_,rfl⟩;(have e8:Dsk p l ad cap i4 2 fr (rd:Int) N (.slice none 0 0) V8:=by rw [← hV8];exact e7.at i4);(have E8:Below p w V8:=by rw [← hV8];exact E7.trans (bl_set _ _ _ _));(have rb9:V8.heap[w.heap.size]? = some (.cells #[.slice ra n0 rc] 53 (0,0)):=by rw [← hV8,Below.heap_setCell _ _ _ _ hwp];exact rb7)) | (refine wpList_store_row rfl 48 (.tmp 5) (.tmp 115) rfl u1.heap.size (tkC x3) rfl rfl 48 _ bx8 infoTk rfl (by simp [tkC,Value.oneCell']) ?_;rw [hV6]) | (go_at_call 38;(have hzz:=hb7);(with_reducible refine (HK3.out _ e5).mono ?_);rintro e u8 ⟨rfl,hb8⟩;(have d8:=e5.carry hb8);(have B8:Below p w u8:=E5.trans (hb8.mono (Nat.le_of_lt e5.lt)));(have bx8:=(hb8.block _ (zla bx5)).trans bx5);(have rb8:=(hb8.block _ (zla rb5)).trans rb5);obtain⟨V6,hV6⟩:∃ V,u8.setRow u1.heap.size (tkC x3)=V:=⟨_,rfl⟩;(have o6:∀ q,q≠u1.heap.size→V6.heap[q]? = u8.heap[q]? := fun q hq=>by rw [← hV6];exact Go.setRow_other _ _ _ _ hq);(have b6:Below p u8 V6:=by rw [← hV6];exact⟨rfl,rfl,rfl,by simp [World.setRow],fun q hq=>Go.setRow_other _ _ _ _ (by have:=hbu1.size;omega)⟩);(have hr6:V6.heap[u1.heap.size]? = some (.cells (tkC x3) 48 (0,0)):=by rw [← hV6];exact setRow_heap _ _ _ _ _ _ bx8);(have e6:Dsk p l ad cap i3 2 fr (rd:Int) 0 (.slice none 0 0) V6:=d8.put b6 ((o6 p (by have:=hbu1.size;omega)).trans d8.bx));(have E6:Below p w V6:=B8.trans b6);(have rb6:=(o6 w.heap.size (by have:=hbu1.size;omega)).trans rb8);(have k6:V6.cell? ⟨w.heap.size,0,none⟩=some (.slice ra n0 rc):=(zca rb6 0).trans rfl);(have y0:V6.cell? ⟨u1.heap.size,0,none⟩=some (.int .i64 x3.1):=(zca hr6 0).trans rfl);(have y1:V6.cell? ⟨u1.heap.size,1,none⟩=some (.string x3.2.1):=(zca hr6 1).trans rfl)) | (go_at_call 115;(with_reducible refine (HNU _).mono ?_);rintro e u7 ⟨er7,rfl,hb7⟩;(have d7:=d6.carry hb7);(have hb57:=bel3 (bel3 hb5 hb6) hb7);(have B7:Below p w u7:=E3.trans (hb57.mono (Nat.le_of_lt e3.lt)));(have t7_1:=d7.c1);obtain⟨t7_2,t7_3,t7_4⟩:=d7.c2;(have t7_z1:=d7.z 1);(have t7_z2:=d7.z 2);(have t7_z3:=d7.z 3);(have t7_z4:=d7.z 4);obtain⟨V4,hV4⟩:∃ V,u7.setCell ⟨p,4,none⟩ (.int .i64 (rd:Int))=V:=⟨_,rfl⟩;(have e4:Dsk p l ad cap i2 2 fr (rd:Int) 0 (.slice none 0 0) V4:=by rw [← hV4];exact d7.st4 _);(have t8_1:=e4.c1);obtain⟨t8_2,t8_3,t8_4⟩:=e4.c2;(have t8_z1:=e4.z 1);(have t8_z2:=e4.z 2);(have t8_z3:=e4.z 3);(have t8_z4:=e4.z 4);obtain⟨V5,hV5⟩:∃ V,V4.setCell ⟨p,1,none⟩ (.int .i64 (i3:Int))=V:=⟨_,rfl⟩;(have e5:Dsk p l ad cap i3 2 fr (rd:Int) 0 (.slice none 0 0) V5:=by rw [← hV5];exact e4.at i3);(have E5:Below p w V5:=by rw [← hV5,← hV4];exact (B7.trans (bl_set _ _ _ _)).trans (bl_set _ _ _ _));(have t9_1:=e5.c1);obtain⟨t9_2,t9_3,t9_4⟩:=e5.c2;(have t9_z1:=e5.z 1);(have t9_z2:=e5.z 2);(have t9_z3:=e5.z 3);(have t9_z4:=e5.z 4);(have rb5:V5.heap[w.heap.size]? = some (.cells #[.slice ra n0 rc] 53 (0,0)):=by rw [← hV5,Below.heap_setCell _ _ _ _ hwp,← hV4,Below.heap_setCell _ _ _ _ hwp];exact (hb57.block _ (zla rb3)).trans rb3);(have k5:V5.cell? ⟨w.heap.size,0,none⟩=some (.slice ra n0 rc):=(zca rb5 0).trans rfl);(have bx5:V5.heap[u1.heap.size]? = some (.cells (tkC x0) 48 (0,0)):=by rw [← hV5,Below.heap_setCell _ _ _ _ (show u1.heap.size≠p by have:=hbu1.size;omega),← hV4,Below.heap_setCell _ _ _ _ (show u1.heap.size≠p by have:=hbu1.size;omega)];exact (hb57.block _ (zla bx3)).trans bx3)) | (go_at_call 38;(have hzz:=hb5);(with_reducible refine (HK2.out _ d5).mono ?_);rintro e u6 ⟨rfl,hb6⟩;(have d6:=d5.carry hb6)) | (go_at_call 38;(have hzz:=hO4);(with_reducible refine (HK2.out _ e3).mono ?_);rintro e u5 ⟨rfl,hb5⟩;(have d5:=e3.carry hb5);(have B5:Below p w u5:=E3.trans (hb5.mono (Nat.le_of_lt e3.lt)))) | (go_at_call 114;(with_reducible refine (HS.out V2 B2 e2).mono ?_);rintro e u4 ⟨rfl,d4,hO4⟩;(have hs4:=hO4.size);(have B4:Below p w u4:=B2.trans (hO4.toB (Nat.le_of_lt e2.lt)));(have rb4:=(hO4.block _ (zla rb2) hwp).trans rb2);(have k4:u4.cell? ⟨w.heap.size,0,none⟩=some (.slice ra n0 rc):=(zca rb4 0).trans rfl);(have bx4:=(hO4.block _ (zla bx2) (show u1.heap.size≠p by have:=hbu1.size;omega)).trans bx2);(have t4_1:=d4.c1);obtain⟨t4_2,t4_3,t4_4⟩:=d4.c2;(have t4_z1:=d4.z 1);(have t4_z2:=d4.z 2);(have t4_z3:=d4.z 3);(have t4_z4:=d4.z 4);obtain⟨V3,hV3⟩:∃ V,u4.setCell ⟨p,3,none⟩ (.int .i64 fr)=V:=⟨_,rfl⟩;(have e3:Dsk p l ad cap i2 2 fr 0 0 (.slice none 0 0) V3:=by rw [← hV3];exact d4.st3 _);(have E3:Below p w V3:=by rw [← hV3];exact B4.trans (bl_set _ _ _ _));(have t5_1:=e3.c1);obtain⟨t5_2,t5_3,t5_4⟩:=e3.c2;(have t5_z1:=e3.z 1);(have t5_z2:=e3.z 2);(have t5_z3:=e3.z 3);(have t5_z4:=e3.z 4);(have rb3:V3.heap[w.heap.size]? = some (.cells #[.slice ra n0 rc] 53 (0,0)):=by rw [← hV3,Below.heap_setCell _ _ _ _ hwp];exact rb4);(have k3:V3.cell? ⟨w.heap.size,0,none⟩=some (.slice ra n0 rc):=(zca rb3 0).trans rfl);(have bx3:V3.heap[u1.heap.size]? = some (.cells (tkC x0) 48 (0,0)):=by rw [← hV3,Below.heap_setCell _ _ _ _ (show u1.heap.size≠p by have:=hbu1.size;omega)];exact bx4)) | (refine wpList_store_row rfl 48 (.tmp 5) (.tmp 14) rfl u1.heap.size (tkC x0) rfl rfl 48 _ hr2 infoTk rfl (by simp [tkC,Value.oneCell']) ?_;rw [hu3];(have p0:u3.cell? ⟨u1.heap.size,0,none⟩=some (.int .i64 x0.1):=(zca hr3 0).trans rfl);(have p1:u3.cell? ⟨u1.heap.size,1,none⟩=some (.string x0.2.1):=(zca hr3 1).trans rfl);(have B3:Below p w u3:=(bel3 hb1 (bel3 hbu1 hb3)).mono (Nat.le_of_lt hpw));(have d3:Dsk p l ad cap i0 0 0 0 0 (.slice none 0 0) u3:=(hdk.carry hbu1).carry hb3);(have t3_1:=d3.c1);obtain⟨t3_2,t3_3,t3_4⟩:=d3.c2;(have t3_z1:=d3.z 1);(have t3_z2:=d3.z 2);(have t3_z3:=d3.z 3);(have t3_z4:=d3.z 4);obtain⟨V1,hV1⟩:∃ V,u3.setCell ⟨p,2,none⟩ (.int .i64 2)=V:=⟨_,rfl⟩;(have e1:Dsk p l ad cap i0 2 0 0 0 (.slice none 0 0) V1:=by rw [← hV1];exact d3.st2 _);(have t1_1:=e1.c1);obtain⟨t1_2,t1_3,t1_4⟩:=e1.c2;(have t1_z1:=e1.z 1);(have t1_z2:=e1.z 2);(have t1_z3:=e1.z 3);(have t1_z4:=e1.z 4);obtain⟨V2,hV2⟩:∃ V,V1.setCell ⟨p,1,none⟩ (.int .i64 (i1:Int))=V:=⟨_,rfl⟩;(have e2:Dsk p l ad cap i1 2 0 0 0 (.slice none 0 0) V2:=by rw [← hV2];exact e1.at i1);(have B2:Below p w V2:=by rw [← hV2,← hV1];exact (B3.trans (bl_set _ _ _ _)).trans (bl_set _ _ _ _));(have rb2:V2.heap[w.heap.size]? = _:=(show V2.heap[w.heap.size]? = some (.cells #[.slice ra n0 rc] 53 (0,0)) by rw [← hV2,Below.heap_setCell _ _ _ _ hwp,← hV1,Below.heap_setCell _ _ _ _ hwp];exact (hb3.block _ (by have:=hbu1.size;omega)).trans ((hbu1.block _ (zla hrb)).trans hrb)));(have k2:V2.cell? ⟨w.heap.size,0,none⟩=some (.slice ra n0 rc):=(zca rb2 0).trans rfl);(have bx2:V2.heap[u1.heap.size]? = some (.cells (tkC x0) 48 (0,0)):=by rw [← hV2,Below.heap_setCell _ _ _ _ (show u1.heap.size≠p by have:=hbu1.size;omega),← hV1,Below.heap_setCell _ _ _ _ (show u1.heap.size≠p by have:=hbu1.size;omega)];exact hr3)) | (go_at_call 38;(with_reducible refine HH1.mono ?_);rintro e u1 ⟨rfl,hbu1⟩;obtain⟨u2,u3,hu2,hu3,hr2,hr3,hb3,hs3⟩:=box_word u1 x0))
   go_ret
   exact⟨rfl,p+1,i4,_,_,_,_,_,DN.of d12,by rw [HI4.out],by rw [HI4.out];omega,B12⟩
theorem d2_n {M:Nat}{L:List Int}{ra:Option Addr}{rc:Nat}{p:Nat}{l:List Tk4}{ad:Option Addr}{cap:Nat}{w:World}(hE:En8 M L (.agg #[.slice ra L.length rc]) p w)(h:Dsk p l ad cap 0 0 0 0 0 (.slice none 0 0) w)(hS:Shw6 l)(x0:Tk4)(hx0:hereT l 0=x0)(hk0:x0.1=2)(ht0:x0.2.1.toList=[114,101,112,108,121])(fr:Int)(hfr:sgR L l 1=.ok fr)(h3:(hereT l 2).1=3)(rd:Nat)(hrd:(numR (hereT l 2).2.1).getD 0=rd)(hgd:1≤rd∧rd≤1099511627775)(hset:setKT (hereT l 3)=true)(N:Nat)(hpar:parseR L (hereT l 3).2.1=(N,0,0))(hl:l.length≤800000)(hbr:mkD (hereT l 4) ⟨#[91]⟩=true):Calls Tryz.prog 37 #[.pointer (some ⟨p,0,none⟩),.agg #[.slice ra L.length rc]] w (RdO8 p l ad cap w (restD L l 4 2 fr rd N)):=by
 have hmx:=mixO
 obtain⟨RN,hRN⟩:∃ RN,nwD L l (l.length+1) (4+1) []=RN:=⟨_,rfl⟩
 have HRN:Hid (nwD L l (l.length+1) 5 []=RN):=hRN
 obtain⟨R,hRR⟩:∃ R,restD L l 4 2 fr rd N=R:=⟨_,rfl⟩
 have HRES:Hid (R=endR l 2 fr rd N RN):=by
   show R=_
   rw [← hRR,restD,nwsD,if_pos hbr,hRN]
 rw [hRR]
 have hK1:5≤l.length:=by
   have hb2:=hbr
   unfold mkD at hb2
   simp at hb2
   exact here_lt (l:=l) (i:=4) (by omega)
 have HS6:Hid (Shw6 l):=hS
 obtain⟨W1,hW1⟩:∃ W1,w.alloc (.cells #[.slice ra L.length rc] 53)=W1:=⟨_,rfl⟩
 have hb1:Below w.heap.size w W1:=by rw [← hW1];exact al1t _ _
 have hrb:W1.heap[w.heap.size]? = some (.cells #[.slice ra L.length rc] 53 (0,0)):=by rw [← hW1];exact zna rfl
 have hpw:=h.lt
 have hwp:w.heap.size≠p:=by omega
 have hs1:=hb1.size
 have hlb:=zla hrb
 obtain⟨i0,hi0⟩:∃ i0,i0=0:=⟨_,rfl⟩
 obtain⟨i1,hi1⟩:∃ i1,i1=1:=⟨_,rfl⟩
 obtain⟨i2,hi2⟩:∃ i2,i2=2:=⟨_,rfl⟩
 obtain⟨i3,hi3⟩:∃ i3,i3=3:=⟨_,rfl⟩
 obtain⟨i4,hi4⟩:∃ i4,i4=4:=⟨_,rfl⟩
 obtain⟨i5,hi5⟩:∃ i5,i5=5:=⟨_,rfl⟩
 have HI5:Hid (i5=5):=hi5
 have HI1:Hid (i1=1):=hi1
 have HI2:Hid (i2=2):=hi2
 have HI3:Hid (i3=3):=hi3
 have HI4:Hid (i4=4):=hi4
 have hdk:Dsk p l ad cap i0 0 0 0 0 (.slice none 0 0) W1:=by rw [hi0];exact h.carry hb1
 have HH1:=here_any hdk (by omega)
 rw [hi0,hx0] at HH1
 unfold tk4 tkV at HH1
 have hkb:(x0.1 == 2)=true:=by rw [hk0];rfl
 have hE1:Hid (En8 M L (.agg #[.slice ra L.length rc]) p w):=hE
 have hEW:Hid (En8 M L (.agg #[.slice ra L.length rc]) p w):=hE
 have ha01:(i0:Int)+1=(i1:Int):=by omega
 have ha12:(i1:Int)+1=(i2:Int):=by omega
 have ha23:(i2:Int)+1=(i3:Int):=by omega
 have ha34:(i3:Int)+1=(i4:Int):=by omega
 have hw1:(i1:Int)≤1000000:=by omega
 have hw2:(i2:Int)≤1000000:=by omega
 have hw3:(i3:Int)≤1000000:=by omega
 have hw4:(i4:Int)≤1000000:=by omega
 have hf0:=fld_t0
 have hf1:=fld_t1
 have hoo:oneS (hereT l 1)=true∧((rn (hereT l 1).2.1 0:Nat):Int)∈L∧((L.idxOf ((rn (hereT l 1).2.1 0:Nat):Int):Nat):Int)=fr:=by
   unfold sgR sgI at hfr
   split at hfr
   · rename_i q1
     split at hfr
     · rename_i q2
       cases hfr
       exact⟨q1,q2,rfl⟩
     · cases hfr
   · cases hfr
 obtain⟨ho,hin,hid⟩:=hoo
 have hfr0:0≤fr:=by omega
 have hom1:(fr == -1)=false:=by simp;omega
 have hom2:(fr == -2)=false:=by simp;omega
 have HS:Hid (∀ V,Below p w V→Dsk p l ad cap i1 2 0 0 0 (.slice none 0 0) V→Calls Tryz.prog 114 #[.pointer (some ⟨p,0,none⟩),.agg #[.slice ra L.length rc]] V fun e w'=>e=.returned (.int .i64 fr)∧Dsk p l ad cap i2 2 0 0 0 (.slice none 0 0) w'∧Ob p V w'):=fun V hB hV=>(sign_two (hE1.out.on hB) hV hS (by omega) (by rw [hi1];exact ho)).mono (fun e w' q=>by
   have q2:=q.2 (by rw [hi1];exact hin)
   rw [hi1,hid] at q2
   rw [hi2]
   exact q2)
 obtain⟨x2,hx2⟩:∃ x2,hereT l 2=x2:=⟨_,rfl⟩
 have hxs2:=hS 2
 rw [hx2] at hxs2
 have HK2:Hid (∀ V,Dsk p l ad cap i2 2 fr 0 0 (.slice none 0 0) V→Calls Tryz.prog 38 #[.pointer (some ⟨p,0,none⟩)] V fun e w'=>e=.returned (.agg #[.int .i64 x2.1,.string x2.2.1,.int .i64 x2.2.2.1,.int .i64 x2.2.2.2])∧Below V.heap.size V w'):=fun V hV=>by
   have q:=here_any hV (by omega)
   rw [hi2,hx2] at q
   exact q
 rw [hx2] at h3 hrd
 have HNU:∀ V,Calls Tryz.prog 115 #[.string x2.2.1] V fun e w'=>∃ er:Int,e=.returned (.tuple #[.int .i64 (rd:Int),.int .i64 er])∧Below V.heap.size V w':=by
   rw [← hrd]
   exact rNum_get x2.2.1 (by unfold maxLen;omega)
 have h3b:(x2.1 != 3)=false:=by simpa using h3
 have g1:¬ (rd:Int)<1:=by omega
 have g2:¬ (1099511627775:Int)<(rd:Int):=by omega
 obtain⟨x3,hx3⟩:∃ x3,hereT l 3=x3:=⟨_,rfl⟩
 have hxs3:=hS 3
 rw [hx3] at hxs3
 have HK3:Hid (∀ V,Dsk p l ad cap i3 2 fr (rd:Int) 0 (.slice none 0 0) V→Calls Tryz.prog 38 #[.pointer (some ⟨p,0,none⟩)] V fun e w'=>e=.returned (.agg #[.int .i64 x3.1,.string x3.2.1,.int .i64 x3.2.2.1,.int .i64 x3.2.2.2])∧Below V.heap.size V w'):=fun V hV=>by
   have q:=here_any hV (by omega)
   rw [hi3,hx3] at q
   exact q
 rw [hx3] at hset hpar
 have HP:Hid (∀ V,Below p w V→Calls Tryz.prog 116 #[.agg #[.slice ra L.length rc],.string x3.2.1] V fun e w'=>e=.returned (.tuple #[.agg #[.int .u32 (wd N 0:Nat),.int .u32 (wd N 1:Nat),.int .u32 (wd N 2:Nat),.int .u32 (wd N 3:Nat)],.int .i64 0,.int .i64 0])∧Below V.heap.size V w'):=fun V hV=>by
   have q:=rParse_any V (hEW.out.ros V hV) (Nat.le_trans hEW.out.le hV.size) x3.2.1 (by unfold maxLen;omega)
   rw [hpar] at q
   exact q
 have HMK:Hid (∀ V,Dsk p l ad cap i4 2 fr (rd:Int) N (.slice none 0 0) V→Calls Tryz.prog 117 #[.pointer (some ⟨p,0,none⟩),.string ⟨#[91]⟩] V fun e w'=>e=.returned (.bool true)∧Dsk p l ad cap i5 2 fr (rd:Int) N (.slice none 0 0) w'∧Ob p V w'):=fun V hV=>by
   have q:=mark_yes hV (by omega) ⟨#[91]⟩ (by rw [HI4.out];exact hbr)
   rw [show i4+1=i5 by rw [HI4.out,HI5.out]] at q
   exact q
 have hcond:(x3.1 == 2)=true∨((x3.1 == 2)=false∧(x3.1 == 5)=true∧(x3.2.1.toList == [45])=true):=by
   unfold setKT at hset
   cases q1:(x3.1 == 2) with
   | true=>exact .inl rfl
   | false =>
     rw [q1,Bool.false_or,Bool.and_eq_true] at hset
     exact .inr ⟨rfl,hset.1,hset.2⟩
 obtain⟨n0,hn0⟩:∃ n0,L.length=n0:=⟨_,rfl⟩
 have HN0:Hid (L.length=n0):=hn0
 rw [hn0] at hW1 hrb HS HP ⊢
 clear hset hpar
 clear hk0 hn0 hE h hx0 hi0 hi1 hi2 hi3 hi4 hi5 ho hin hid hfr h3 hrd hgd hbr hRN hRR hS
 rcases hcond with q1 | ⟨q1,q5,q6⟩
 · have q1b:(x3.1 != 2)=false:=by simp at q1 ⊢;exact q1
   clear q1
   go_enter Tryz.func37,Tryz.ntmps37
   go_wp2_with (first | (refine wpList_store_row rfl 48 (.tmp 5) (.tmp 115) rfl u1.heap.size (tkC x3) rfl rfl 48 _ bx8 infoTk rfl (by simp [tkC,Value.oneCell']) ?_;rw [hV6];show Hid _) | (go_at_call 38;(have hzz:=hb7);(with_reducible refine (HK3.out _ e5).mono ?_);rintro e u8 ⟨rfl,hb8⟩;(have d8:=e5.carry hb8);(have B8:Below p w u8:=E5.trans (hb8.mono (Nat.le_of_lt e5.lt)));(have bx8:=(hb8.block _ (zla bx5)).trans bx5);(have rb8:=(hb8.block _ (zla rb5)).trans rb5);obtain⟨V6,hV6⟩:∃ V,u8.setRow u1.heap.size (tkC x3)=V:=⟨_,rfl⟩;(have o6:∀ q,q≠u1.heap.size→V6.heap[q]? = u8.heap[q]? := fun q hq=>by rw [← hV6];exact Go.setRow_other _ _ _ _ hq);(have b6:Below p u8 V6:=by rw [← hV6];exact⟨rfl,rfl,rfl,by simp [World.setRow],fun q hq=>Go.setRow_other _ _ _ _ (by have:=hbu1.size;omega)⟩);(have hr6:V6.heap[u1.heap.size]? = some (.cells (tkC x3) 48 (0,0)):=by rw [← hV6];exact setRow_heap _ _ _ _ _ _ bx8);(have e6:Dsk p l ad cap i3 2 fr (rd:Int) 0 (.slice none 0 0) V6:=d8.put b6 ((o6 p (by have:=hbu1.size;omega)).trans d8.bx));(have E6:Below p w V6:=B8.trans b6);(have rb6:=(o6 w.heap.size (by have:=hbu1.size;omega)).trans rb8);(have k6:V6.cell? ⟨w.heap.size,0,none⟩=some (.slice ra n0 rc):=(zca rb6 0).trans rfl);(have y0:V6.cell? ⟨u1.heap.size,0,none⟩=some (.int .i64 x3.1):=(zca hr6 0).trans rfl);(have y1:V6.cell? ⟨u1.heap.size,1,none⟩=some (.string x3.2.1):=(zca hr6 1).trans rfl)) | (go_at_call 115;(with_reducible refine (HNU _).mono ?_);rintro e u7 ⟨er7,rfl,hb7⟩;(have d7:=d6.carry hb7);(have hb57:=bel3 (bel3 hb5 hb6) hb7);(have B7:Below p w u7:=E3.trans (hb57.mono (Nat.le_of_lt e3.lt)));(have t7_1:=d7.c1);obtain⟨t7_2,t7_3,t7_4⟩:=d7.c2;(have t7_z1:=d7.z 1);(have t7_z2:=d7.z 2);(have t7_z3:=d7.z 3);(have t7_z4:=d7.z 4);obtain⟨V4,hV4⟩:∃ V,u7.setCell ⟨p,4,none⟩ (.int .i64 (rd:Int))=V:=⟨_,rfl⟩;(have e4:Dsk p l ad cap i2 2 fr (rd:Int) 0 (.slice none 0 0) V4:=by rw [← hV4];exact d7.st4 _);(have t8_1:=e4.c1);obtain⟨t8_2,t8_3,t8_4⟩:=e4.c2;(have t8_z1:=e4.z 1);(have t8_z2:=e4.z 2);(have t8_z3:=e4.z 3);(have t8_z4:=e4.z 4);obtain⟨V5,hV5⟩:∃ V,V4.setCell ⟨p,1,none⟩ (.int .i64 (i3:Int))=V:=⟨_,rfl⟩;(have e5:Dsk p l ad cap i3 2 fr (rd:Int) 0 (.slice none 0 0) V5:=by rw [← hV5];exact e4.at i3);(have E5:Below p w V5:=by rw [← hV5,← hV4];exact (B7.trans (bl_set _ _ _ _)).trans (bl_set _ _ _ _));(have t9_1:=e5.c1);obtain⟨t9_2,t9_3,t9_4⟩:=e5.c2;(have t9_z1:=e5.z 1);(have t9_z2:=e5.z 2);(have t9_z3:=e5.z 3);(have t9_z4:=e5.z 4);(have rb5:V5.heap[w.heap.size]? = some (.cells #[.slice ra n0 rc] 53 (0,0)):=by rw [← hV5,Below.heap_setCell _ _ _ _ hwp,← hV4,Below.heap_setCell _ _ _ _ hwp];exact (hb57.block _ (zla rb3)).trans rb3);(have k5:V5.cell? ⟨w.heap.size,0,none⟩=some (.slice ra n0 rc):=(zca rb5 0).trans rfl);(have bx5:V5.heap[u1.heap.size]? = some (.cells (tkC x0) 48 (0,0)):=by rw [← hV5,Below.heap_setCell _ _ _ _ (show u1.heap.size≠p by have:=hbu1.size;omega),← hV4,Below.heap_setCell _ _ _ _ (show u1.heap.size≠p by have:=hbu1.size;omega)];exact (hb57.block _ (zla bx3)).trans bx3)) | (go_at_call 38;(have hzz:=hb5);(with_reducible refine (HK2.out _ d5).mono ?_);rintro e u6 ⟨rfl,hb6⟩;(have d6:=d5.carry hb6)) | (go_at_call 38;(have hzz:=hO4);(with_reducible refine (HK2.out _ e3).mono ?_);rintro e u5 ⟨rfl,hb5⟩;(have d5:=e3.carry hb5);(have B5:Below p w u5:=E3.trans (hb5.mono (Nat.le_of_lt e3.lt)))) | (go_at_call 114;(with_reducible refine (HS.out V2 B2 e2).mono ?_);rintro e u4 ⟨rfl,d4,hO4⟩;(have hs4:=hO4.size);(have B4:Below p w u4:=B2.trans (hO4.toB (Nat.le_of_lt e2.lt)));(have rb4:=(hO4.block _ (zla rb2) hwp).trans rb2);(have k4:u4.cell? ⟨w.heap.size,0,none⟩=some (.slice ra n0 rc):=(zca rb4 0).trans rfl);(have bx4:=(hO4.block _ (zla bx2) (show u1.heap.size≠p by have:=hbu1.size;omega)).trans bx2);(have t4_1:=d4.c1);obtain⟨t4_2,t4_3,t4_4⟩:=d4.c2;(have t4_z1:=d4.z 1);(have t4_z2:=d4.z 2);(have t4_z3:=d4.z 3);(have t4_z4:=d4.z 4);obtain⟨V3,hV3⟩:∃ V,u4.setCell ⟨p,3,none⟩ (.int .i64 fr)=V:=⟨_,rfl⟩;(have e3:Dsk p l ad cap i2 2 fr 0 0 (.slice none 0 0) V3:=by rw [← hV3];exact d4.st3 _);(have E3:Below p w V3:=by rw [← hV3];exact B4.trans (bl_set _ _ _ _));(have t5_1:=e3.c1);obtain⟨t5_2,t5_3,t5_4⟩:=e3.c2;(have t5_z1:=e3.z 1);(have t5_z2:=e3.z 2);(have t5_z3:=e3.z 3);(have t5_z4:=e3.z 4);(have rb3:V3.heap[w.heap.size]? = some (.cells #[.slice ra n0 rc] 53 (0,0)):=by rw [← hV3,Below.heap_setCell _ _ _ _ hwp];exact rb4);(have k3:V3.cell? ⟨w.heap.size,0,none⟩=some (.slice ra n0 rc):=(zca rb3 0).trans rfl);(have bx3:V3.heap[u1.heap.size]? = some (.cells (tkC x0) 48 (0,0)):=by rw [← hV3,Below.heap_setCell _ _ _ _ (show u1.heap.size≠p by have:=hbu1.size;omega)];exact bx4)) | (refine wpList_store_row rfl 48 (.tmp 5) (.tmp 14) rfl u1.heap.size (tkC x0) rfl rfl 48 _ hr2 infoTk rfl (by simp [tkC,Value.oneCell']) ?_;rw [hu3];(have p0:u3.cell? ⟨u1.heap.size,0,none⟩=some (.int .i64 x0.1):=(zca hr3 0).trans rfl);(have p1:u3.cell? ⟨u1.heap.size,1,none⟩=some (.string x0.2.1):=(zca hr3 1).trans rfl);(have B3:Below p w u3:=(bel3 hb1 (bel3 hbu1 hb3)).mono (Nat.le_of_lt hpw));(have d3:Dsk p l ad cap i0 0 0 0 0 (.slice none 0 0) u3:=(hdk.carry hbu1).carry hb3);(have t3_1:=d3.c1);obtain⟨t3_2,t3_3,t3_4⟩:=d3.c2;(have t3_z1:=d3.z 1);(have t3_z2:=d3.z 2);(have t3_z3:=d3.z 3);(have t3_z4:=d3.z 4);obtain⟨V1,hV1⟩:∃ V,u3.setCell ⟨p,2,none⟩ (.int .i64 2)=V:=⟨_,rfl⟩;(have e1:Dsk p l ad cap i0 2 0 0 0 (.slice none 0 0) V1:=by rw [← hV1];exact d3.st2 _);(have t1_1:=e1.c1);obtain⟨t1_2,t1_3,t1_4⟩:=e1.c2;(have t1_z1:=e1.z 1);(have t1_z2:=e1.z 2);(have t1_z3:=e1.z 3);(have t1_z4:=e1.z 4);obtain⟨V2,hV2⟩:∃ V,V1.setCell ⟨p,1,none⟩ (.int .i64 (i1:Int))=V:=⟨_,rfl⟩;(have e2:Dsk p l ad cap i1 2 0 0 0 (.slice none 0 0) V2:=by rw [← hV2];exact e1.at i1);(have B2:Below p w V2:=by rw [← hV2,← hV1];exact (B3.trans (bl_set _ _ _ _)).trans (bl_set _ _ _ _));(have rb2:V2.heap[w.heap.size]? = _:=(show V2.heap[w.heap.size]? = some (.cells #[.slice ra n0 rc] 53 (0,0)) by rw [← hV2,Below.heap_setCell _ _ _ _ hwp,← hV1,Below.heap_setCell _ _ _ _ hwp];exact (hb3.block _ (by have:=hbu1.size;omega)).trans ((hbu1.block _ (zla hrb)).trans hrb)));(have k2:V2.cell? ⟨w.heap.size,0,none⟩=some (.slice ra n0 rc):=(zca rb2 0).trans rfl);(have bx2:V2.heap[u1.heap.size]? = some (.cells (tkC x0) 48 (0,0)):=by rw [← hV2,Below.heap_setCell _ _ _ _ (show u1.heap.size≠p by have:=hbu1.size;omega),← hV1,Below.heap_setCell _ _ _ _ (show u1.heap.size≠p by have:=hbu1.size;omega)];exact hr3)) | (go_at_call 38;(with_reducible refine HH1.mono ?_);rintro e u1 ⟨rfl,hbu1⟩;obtain⟨u2,u3,hu2,hu3,hr2,hr3,hb3,hs3⟩:=box_word u1 x0))
   refine (show _ from ?_)
   rename_i K0 hK
   refine hK _ _ ?_
   repeat (apply wp_seq)
   refine wp_region ?_
   refine wpOps_pure0 (fun i__=>([(.pointer (some ⟨u1.heap.size,0,none⟩)),(.int .i64 x3.1),(.bool false),(.bool false),undef,undef,undef,undef,undef,undef,undef,undef,(.bool false)]:List Value).getD i__ undef) (fun V=>V=V6) (by kernel_rfl) (rfl) ?_ ?_
   · refine (sqc ?_ (sqc ?_ (sqc ?_ (sqc ?_ (sqc ?_ (sqc ?_ (sqc ?_ (sqc ?_ (sqc ?_ (sqc ?_ (sqc ?_ (sqc ?_ (sqc ?_ trivial)))))))))))))
     · exact zfa rfl trivial _ _ _ _ rfl rfl (fun v hw=>by subst hw;exact fld_k0 _ _)
     · exact zld rfl trivial _ _ _ rfl rfl (fun v hw=>by subst hw;exact ld_k0 hr6)
     · exact zbo rfl trivial _ _ _ _ _ _ _ rfl rfl rfl (fun v hw=>by rw [← q1b];rfl)
     · exact zmv rfl trivial _ rfl (by kernel_rfl)
     · exact zsk rfl 3 true 119 (.bool false) rfl rfl (by kernel_rfl) (by intro h;cases h) rfl
     · exact zsk rfl 3 true 119 (.bool false) rfl rfl (by kernel_rfl) (by intro h;cases h) rfl
     · exact zsk rfl 3 true 119 (.bool false) rfl rfl (by kernel_rfl) (by intro h;cases h) rfl
     · exact zsk rfl 3 true 119 (.bool false) rfl rfl (by kernel_rfl) (by intro h;cases h) rfl
     · exact zsk rfl 7 false 123 undef rfl rfl (by kernel_rfl) (by intro h;cases h) rfl
     · exact zsk rfl 7 false 123 undef rfl rfl (by kernel_rfl) (by intro h;cases h) rfl
     · exact zsk rfl 7 false 123 undef rfl rfl (by kernel_rfl) (by intro h;cases h) rfl
     · exact zsk rfl 3 true 119 (.bool false) rfl rfl (by kernel_rfl) (by intro h;cases h) rfl
     · exact step_pick rfl trivial _ _ _ false rfl (by kernel_rfl) (by kernel_rfl)
   intro W hW
   simp only [Exit.then,finL,List.getD_cons_zero,List.getD_cons_succ,Nat.zero_add,Nat.reduceAdd,List.setIfInBounds_toArray,List.set_cons_zero,List.set_cons_succ]
   have hWV:W=V6:=hW
   subst hWV
   go_wp2_with (first | (go_at_call 117;(with_reducible refine (HMK.out _ e8).mono ?_);rintro e u12 ⟨rfl,d12,hO12⟩;(have B12:Below p w u12:=E8.trans (hO12.toB (Nat.le_of_lt e8.lt)));(have rb12:=(hO12.block _ (zla rb9) hwp).trans rb9)) | (go_at_call 116;(with_reducible refine (HP.out _ E6).mono ?_);rintro e u9 ⟨rfl,hb9⟩;(have d9:=e6.carry hb9);obtain⟨u10,hu10⟩:∃ u10,u9.alloc (.cells #[.int .u32 (wd N 0:Nat),.int .u32 (wd N 1:Nat),.int .u32 (wd N 2:Nat),.int .u32 (wd N 3:Nat)] 36)=u10:=⟨_,rfl⟩;(have hb10:Below u9.heap.size u9 u10:=by rw [← hu10];exact al1t _ _);(have s10:u10.heap[u9.heap.size]? = some (.cells #[.int .u32 (wd N 0:Nat),.int .u32 (wd N 1:Nat),.int .u32 (wd N 2:Nat),.int .u32 (wd N 3:Nat)] 36 (0,0)):=by rw [← hu10];exact zna rfl);(have d10:=d9.carry hb10);(have B10:Below p w u10:=E6.trans ((bel3 hb9 hb10).mono (Nat.le_of_lt e6.lt)));(have w0:u10.cell? ⟨u9.heap.size,0,none⟩=some (.int .u32 (wd N 0:Nat)):=(zca s10 0).trans rfl);(have w1:u10.cell? ⟨u9.heap.size,1,none⟩=some (.int .u32 (wd N 1:Nat)):=(zca s10 1).trans rfl);(have w2:u10.cell? ⟨u9.heap.size,2,none⟩=some (.int .u32 (wd N 2:Nat)):=(zca s10 2).trans rfl);(have w3:u10.cell? ⟨u9.heap.size,3,none⟩=some (.int .u32 (wd N 3:Nat)):=(zca s10 3).trans rfl);obtain⟨m5,m6,m7,m8⟩:=dsk_c58 d10;(have n5:=d10.z 5);(have n6:=d10.z 6);(have n7:=d10.z 7);(have n8:=d10.z 8);obtain⟨V7,hV7⟩:∃ V,(((u10.setCell ⟨p,5,none⟩ (.int .u32 (wd N 0:Nat))).setCell ⟨p,6,none⟩ (.int .u32 (wd N 1:Nat))).setCell ⟨p,7,none⟩ (.int .u32 (wd N 2:Nat))).setCell ⟨p,8,none⟩ (.int .u32 (wd N 3:Nat))=V:=⟨_,rfl⟩;(have e7:Dsk p l ad cap i3 2 fr (rd:Int) N (.slice none 0 0) V7:=by rw [← hV7];exact dsk_st58 d10 N);(have E7:Below p w V7:=by rw [← hV7];exact B10.trans (bl_58 p u10 N));(have t11_1:=e7.c1);obtain⟨t11_2,t11_3,t11_4⟩:=e7.c2;(have t11_z1:=e7.z 1);(have t11_z2:=e7.z 2);(have t11_z3:=e7.z 3);(have t11_z4:=e7.z 4);(have rb7:V7.heap[w.heap.size]? = some (.cells #[.slice ra n0 rc] 53 (0,0)):=by rw [← hV7];exact (st58_other p u10 N _ hwp).trans ((hb10.block _ (Nat.lt_of_lt_of_le (zla rb6) hb9.size)).trans ((hb9.block _ (zla rb6)).trans rb6)));obtain⟨V8,hV8⟩:∃ V,V7.setCell ⟨p,1,none⟩ (.int .i64 (i4:Int))=V:=⟨_,rfl⟩;(have e8:Dsk p l ad cap i4 2 fr (rd:Int) N (.slice none 0 0) V8:=by rw [← hV8];exact e7.at i4);(have E8:Below p w V8:=by rw [← hV8];exact E7.trans (bl_set _ _ _ _));(have rb9:V8.heap[w.heap.size]? = some (.cells #[.slice ra n0 rc] 53 (0,0)):=by rw [← hV8,Below.heap_setCell _ _ _ _ hwp];exact rb7)))
   obtain⟨Bq,hBq⟩:∃ B,u12.heap.size=B:=⟨_,rfl⟩
   have hpB:p<Bq:=by rw [← hBq];exact d12.lt
   have hwB:w.heap.size<Bq:=by rw [← hBq];exact zla rb12
   have HBQ:Hid (u12.heap.size=Bq):=hBq
   have HD12:Hid (Dsk p l ad cap i5 2 fr (rd:Int) N (.slice none 0 0) u12):=d12
   clear hBq d12
   go_loopw [12] (fun x wz=>∃ (i f:Nat) (ns:List N3t),DN Bq p l ad cap i 2 fr (rd:Int) N ns wz∧ObB p Bq u12 wz∧ns.length≤i∧i≤l.length∧l.length<i+3*f∧Hid (nwD L l f i ns=RN)) (fun _ wz=>l.length+1-atW p wz)
   case atStart=>exact⟨i5,l.length+1,[],DN.of HD12.out,⟨rfl,rfl,rfl,Nat.le_refl _,fun _ _ _=>rfl⟩,Nat.zero_le _,by rw [HI5.out];exact hK1,by omega,by rw [HI5.out];exact HRN⟩
   case round =>
     obtain⟨i,f,ns,hDN,hOB,hni,hil,hf,HN⟩:=hrel
     obtain⟨v,hdk2,hrow⟩:=hDN.dk
     obtain⟨g,rfl⟩:∃ g,f=g+1:=⟨f-1,by omega⟩
     have hBel:Below p w wr:=B12.trans (hOB.toB hpB)
     have hsz:Bq≤wr.heap.size:=by rw [← HBQ.out];exact hOB.size
     have rbr:=(hOB.block w.heap.size hwB hwp).trans rb12
     have kr:wr.cell? ⟨w.heap.size,0,none⟩=some (.slice ra n0 rc):=(zca rbr 0).trans rfl
     have HDN:Hid (DN Bq p l ad cap i 2 fr (rd:Int) N ns wr):=hDN
     have hatr:=hdk2.atW
     by_cases hm:mkD (hereT l i) ⟨#[93]⟩=true
     · have HRN2:Hid (RN=.ok (ns,i+1)):=by show RN=_;rw [← HN.out,nwD,if_pos hm]
       have HMY:Hid (Calls Tryz.prog 117 #[.pointer (some ⟨p,0,none⟩),.string ⟨#[93]⟩] wr fun e w'=>e=.returned (.bool true)∧Dsk p l ad cap (i+1) 2 fr (rd:Int) N v w'∧Ob p wr w'):=mark_yes hdk2 (by omega) _ hm
       have HHE:Hid (∀ V,Dsk p l ad cap (i+1) 2 fr (rd:Int) N v V→Calls Tryz.prog 38 #[.pointer (some ⟨p,0,none⟩)] V fun e w'=>e=.returned (.agg #[.int .i64 (hereT l (i+1)).1,.string (hereT l (i+1)).2.1,.int .i64 (hereT l (i+1)).2.2.1,.int .i64 (hereT l (i+1)).2.2.2])∧Below V.heap.size V w'):=fun V hV=>here_any hV (by omega)
       have HROW:Hid (wr.ownsRow Bq 124 3 v ns.length (fl ns)):=hrow
       obtain⟨y,hy⟩:∃ y,hereT l (i+1)=y:=⟨_,rfl⟩
       rw [hy] at HHE
       clear hm hDN hrow hdk2 HN hatr
       by_cases h1:y.1=1
       · have h1b:(y.1 != 1)=false:=by simpa using h1
         obtain⟨k2,hk2⟩:∃ k2,i+1+1=k2:=⟨_,rfl⟩
         obtain⟨k1,hk1⟩:∃ k1,i+1=k1:=⟨_,rfl⟩
         have had:(k1:Int)+1=(k2:Int):=by omega
         have hkb1:k1≤900001:=by omega
         have HK2:Hid (i+1+1=k2):=hk2
         have HK1:Hid (i+1=k1):=hk1
         rw [hk1] at HMY HHE
         have HY1:Hid (y.1=1):=h1
         have HY:Hid (hereT l (i+1)=y):=hy
         clear hk1 hk2 h1 hy
         go_wp2_with (first | (go_at_call 38;(with_reducible refine (HHE.out _ d13).mono ?_);rintro e u14 ⟨rfl,hb14⟩;(have d14:=d13.carry hb14);(have n1:=d14.c1);(have z1:=d14.z 1);obtain⟨V9,hV9⟩:∃ V,u14.setCell ⟨p,1,none⟩ (.int .i64 (k2:Int))=V:=⟨_,rfl⟩;(have d9:Dsk p l ad cap k2 2 fr (rd:Int) N v V9:=by rw [← hV9];exact d14.at k2)) | (go_at_call 117;(with_reducible refine HMY.out.mono ?_);rintro e u13 ⟨rfl,d13,hO13⟩))
         have hO9:Ob p wr V9:=by rw [← hV9];exact hO13.trans ((Ob.of hb14).trans (ob_set _ _ _ _))
         have hrow9:V9.ownsRow Bq 124 3 v ns.length (fl ns):=ownsRow_ob HROW.out hO9 (fun g hg=>by have:=own_block HROW.out g hg;omega)
         have B9:Below p w V9:=hBel.trans (hO9.toB (by omega))
         have HD9:Hid (Dsk p l ad cap k2 2 fr (rd:Int) N v V9):=d9
         obtain⟨n,hn⟩:∃ n,l.length=n:=⟨_,rfl⟩
         have hn':Hid (l.length=n):=hn
         obtain⟨q,hq⟩:∃ q,decide ((k2:Int)<(n:Int))=q:=⟨_,rfl⟩
         refine wp_region_any hmx ?_
         refine zwp (fun i__=>([(.pointer (some ⟨p,0,none⟩)),(.pointer (some ⟨p,0,none⟩)),(.pointer (some ⟨p,1,none⟩)),(.int .i64 (k2:Int)),(.pointer (some ⟨p,0,none⟩)),(.pointer (some ⟨p,0,none⟩)),(.pointer (some ⟨p,0,none⟩)),(.slice ad n cap),(.int .i64 (n:Int)),(.bool q)]:List Value).getD i__ undef) (fun V=>Below V9.heap.size V9 V) (by kernel_rfl) ((Below.refl _ _).drew) ?_ ?_
         · refine (sqc ?_ (sqc ?_ (sqc ?_ (sqc ?_ (sqc ?_ (sqc ?_ (sqc ?_ (sqc ?_ (sqc ?_ (sqc ?_ trivial))))))))))
           · exact zmv rfl trivial _ rfl (by kernel_rfl)
           · exact znc rfl trivial _ _ _ rfl rfl rfl
           · exact zfa rfl trivial _ _ _ _ rfl rfl (fun v hw=>fld_d1 v _)
           · exact zld rfl trivial _ _ _ rfl rfl (fun v hw=>ld_d1 (HD9.out.carry hw))
           · exact zmv rfl trivial _ rfl (by kernel_rfl)
           · exact znc rfl trivial _ _ _ rfl rfl rfl
           · exact zfa rfl trivial _ _ _ _ rfl rfl (fun v hw=>fld_d0 v _)
           · exact zld rfl trivial _ _ _ rfl rfl (fun v hw=>by rw [← hn'.out];exact ld_d0 (HD9.out.carry hw))
           · exact step_bi rfl trivial _ _ _ [(.slice ad n cap)] rfl (by kernel_rfl) (fun cs w hw=>bi_lenK _ cs _ _ _ w)
           · exact zbo rfl trivial _ _ _ _ _ _ _ rfl rfl rfl (fun w hw=>by rw [← hq];exact bin_lss _ _ _)
         intro W hW
         first | refine hK _ _ ?_ | refine (‹∀ (a:Act) (w:World),Code.wp Tryz.prog _ _ a w→_›) _ _ ?_ | skip
         simp only [finL,List.getD_cons_zero,List.getD_cons_succ,Nat.zero_add,Nat.reduceAdd,List.setIfInBounds_toArray,List.set_cons_zero,List.set_cons_succ]
         have hdW:=HD9.out.carry hW
         have hrW:=zrb hrow9 hW
         have BW:Below p w W:=B9.trans (hW.mono (Nat.le_of_lt d9.lt))
         cases q with
         | true =>
           have hlt:k2<l.length:=by have:=of_decide_eq_true hq;omega
           have HRR:Hid (R=.error (80,(hereT l k2).2.2.2)):=by
             show R=_
             rw [HRES.out,HRN2.out,endR]
             dsimp only
             rw [endD,HY.out,if_pos HY1.out,HK2.out,if_pos hlt]
           clear hq hW
           go_wp2
           go_ret
           rw [HRR.out]
           exact⟨rfl,Bq,k2,_,_,_,_,_,⟨_,hdW,hrW⟩,rfl,by omega,BW⟩
         | false =>
           have hlt:¬ k2<l.length:=by have:=of_decide_eq_false hq;omega
           have HRR:Hid (R=.ok (2,fr,rd,N,ns)):=by
             show R=_
             rw [HRES.out,HRN2.out,endR]
             dsimp only
             rw [endD,HY.out,if_pos HY1.out,HK2.out,if_neg hlt]
           clear hq hW
           go_wp2
           go_ret
           rw [HRR.out]
           exact⟨rfl,Bq,k2,⟨_,hdW,hrW⟩,BW⟩
       · have h1b:(y.1 != 1)=true:=by simpa using h1
         have HRR:Hid (R=.error (80,(hereT l (i+1)).2.2.2)):=by
           show R=_
           rw [HRES.out,HRN2.out,endR]
           dsimp only
           rw [endD,hy,if_neg h1]
         clear h1 hy
         go_wp2_with (first | (go_at_call 38;(with_reducible refine (HHE.out _ d13).mono ?_);rintro e u14 ⟨rfl,hb14⟩;(have d14:=d13.carry hb14)) | (go_at_call 117;(with_reducible refine HMY.out.mono ?_);rintro e u13 ⟨rfl,d13,hO13⟩))
         go_ret
         have hO9:Ob p wr u14:=hO13.trans (Ob.of hb14)
         rw [HRR.out]
         exact⟨rfl,Bq,i+1,_,_,_,_,_,⟨_,d14,ownsRow_ob HROW.out hO9 (fun g hg=>by have:=own_block HROW.out g hg;omega)⟩,rfl,by omega,hBel.trans (hO9.toB (by omega))⟩
     · have HRN2:Hid (RN=match stD L l i ns with | .error q=>.error q | .ok n=>nwD L l g (i+3) (ns ++ [n])):=by
         show RN=_
         rw [← HN.out,nwD,if_neg hm]
         all_goals (cases stD L l i ns <;> rfl)
       have HMN:Hid (Calls Tryz.prog 117 #[.pointer (some ⟨p,0,none⟩),.string ⟨#[93]⟩] wr fun e w'=>e=.returned (.bool false)∧Below wr.heap.size wr w'):=mark_no hdk2 (by omega) _ (by simpa using hm)
       have HNO:Hid (∀ V,Below wr.heap.size wr V→Calls Tryz.prog 118 #[.pointer (some ⟨p,0,none⟩),.agg #[.slice ra n0 rc]] V (NdO Bq p l ad cap i 2 fr (rd:Int) N ns V (stD L l i ns))):=fun V hV=>by
         rw [← HN0.out]
         exact rnotice_any (hEW.out.on (hBel.trans (hV.mono (by omega)))) (HDN.out.carry hV) hpB (Nat.le_trans hsz hV.size) HS6.out (by omega) (by omega)
       clear hm hDN hrow hdk2 HN
       cases hst:stD L l i ns with
       | error q =>
         rw [hst] at HRN2 HNO
         unfold NdO at HNO
         have HRR:Hid (R=.error q):=by
           show R=_
           rw [HRES.out,HRN2.out]
           rfl
         dsimp only at HNO
         have hq0:Hid (q.1≠0):=stD_ne hst
         have hqb:(q.1 != 0)=true:=by simpa using hq0.out
         clear hst
         go_wp2_with (first | (go_at_call 118;(with_reducible refine (HNO.out _ hb13).mono ?_);rintro e u14 ⟨rfl,hk14⟩) | (go_at_call 117;(with_reducible refine HMN.out.mono ?_);rintro e u13 ⟨rfl,hb13⟩;(have rb13:=(hb13.block _ (zla rbr)).trans rbr);(have k13:u13.cell? ⟨w.heap.size,0,none⟩=some (.slice ra n0 rc):=(zca rb13 0).trans rfl)))
         go_ret
         rw [HRR.out]
         obtain⟨k,hk1,hk2,hk3,hk4⟩:=hk14
         exact⟨rfl,Bq,k,_,_,_,_,_,hk1,hk2,by omega,hBel.trans ((hb13.mono (by omega)).trans (hk4.toB hpB))⟩
       | ok n =>
         rw [hst] at HRN2 HNO
         unfold NdO at HNO
         dsimp only at HNO
         have hlt:=stD_lt hst
         clear hst
         go_wp2_with (first | (go_at_call 118;(with_reducible refine (HNO.out _ hb13).mono ?_);rintro e u14 ⟨rfl,hD14,hO14⟩) | (go_at_call 117;(with_reducible refine HMN.out.mono ?_);rintro e u13 ⟨rfl,hb13⟩;(have rb13:=(hb13.block _ (zla rbr)).trans rbr);(have k13:u13.cell? ⟨w.heap.size,0,none⟩=some (.slice ra n0 rc):=(zca rb13 0).trans rfl)))
         go_roundw
         case rel=>exact⟨i+3,g,ns ++ [n],hD14,hOB.trans ((ObB.ofB (hb13.mono (by omega))).trans hO14),by rw [List.length_append];show _+1≤_;omega,by omega,by omega,HRN2.out.symm⟩
         case measure =>
           obtain⟨v2,q1,_⟩:=hD14.dk
           rw [q1.atW,hatr]
           omega
 · have q1b:(x3.1 != 2)=true:=by simp at q1 ⊢;exact q1
   have q5b:(x3.1 != 5)=false:=by simp at q5 ⊢;exact q5
   have q6b:x3.2.1.toList=[45]:=by simpa using q6
   clear q1 q5 q6
   go_enter Tryz.func37,Tryz.ntmps37
   go_wp2_with (first | (go_at_call 117;(with_reducible refine (HMK.out _ e8).mono ?_);rintro e u12 ⟨rfl,d12,hO12⟩;(have B12:Below p w u12:=E8.trans (hO12.toB (Nat.le_of_lt e8.lt)));(have rb12:=(hO12.block _ (zla rb9) hwp).trans rb9)) | (go_at_call 116;(with_reducible refine (HP.out _ E6).mono ?_);rintro e u9 ⟨rfl,hb9⟩;(have d9:=e6.carry hb9);obtain⟨u10,hu10⟩:∃ u10,u9.alloc (.cells #[.int .u32 (wd N 0:Nat),.int .u32 (wd N 1:Nat),.int .u32 (wd N 2:Nat),.int .u32 (wd N 3:Nat)] 36)=u10:=⟨_,rfl⟩;(have hb10:Below u9.heap.size u9 u10:=by rw [← hu10];exact al1t _ _);(have s10:u10.heap[u9.heap.size]? = some (.cells #[.int .u32 (wd N 0:Nat),.int .u32 (wd N 1:Nat),.int .u32 (wd N 2:Nat),.int .u32 (wd N 3:Nat)] 36 (0,0)):=by rw [← hu10];exact zna rfl);(have d10:=d9.carry hb10);(have B10:Below p w u10:=E6.trans ((bel3 hb9 hb10).mono (Nat.le_of_lt e6.lt)));(have w0:u10.cell? ⟨u9.heap.size,0,none⟩=some (.int .u32 (wd N 0:Nat)):=(zca s10 0).trans rfl);(have w1:u10.cell? ⟨u9.heap.size,1,none⟩=some (.int .u32 (wd N 1:Nat)):=(zca s10 1).trans rfl);(have w2:u10.cell? ⟨u9.heap.size,2,none⟩=some (.int .u32 (wd N 2:Nat)):=(zca s10 2).trans rfl);(have w3:u10.cell? ⟨u9.heap.size,3,none⟩=some (.int .u32 (wd N 3:Nat)):=(zca s10 3).trans rfl);obtain⟨m5,m6,m7,m8⟩:=dsk_c58 d10;(have n5:=d10.z 5);(have n6:=d10.z 6);(have n7:=d10.z 7);(have n8:=d10.z 8);obtain⟨V7,hV7⟩:∃ V,(((u10.setCell ⟨p,5,none⟩ (.int .u32 (wd N 0:Nat))).setCell ⟨p,6,none⟩ (.int .u32 (wd N 1:Nat))).setCell ⟨p,7,none⟩ (.int .u32 (wd N 2:Nat))).setCell ⟨p,8,none⟩ (.int .u32 (wd N 3:Nat))=V:=⟨_,rfl⟩;(have e7:Dsk p l ad cap i3 2 fr (rd:Int) N (.slice none 0 0) V7:=by rw [← hV7];exact dsk_st58 d10 N);(have E7:Below p w V7:=by rw [← hV7];exact B10.trans (bl_58 p u10 N));(have t11_1:=e7.c1);obtain⟨t11_2,t11_3,t11_4⟩:=e7.c2;(have t11_z1:=e7.z 1);(have t11_z2:=e7.z 2);(have t11_z3:=e7.z 3);(have t11_z4:=e7.z 4);(have rb7:V7.heap[w.heap.size]? = some (.cells #[.slice ra n0 rc] 53 (0,0)):=by rw [← hV7];exact (st58_other p u10 N _ hwp).trans ((hb10.block _ (Nat.lt_of_lt_of_le (zla rb6) hb9.size)).trans ((hb9.block _ (zla rb6)).trans rb6)));obtain⟨V8,hV8⟩:∃ V,V7.setCell ⟨p,1,none⟩ (.int .i64 (i4:Int))=V:=⟨_,rfl⟩;(have e8:Dsk p l ad cap i4 2 fr (rd:Int) N (.slice none 0 0) V8:=by rw [← hV8];exact e7.at i4);(have E8:Below p w V8:=by rw [← hV8];exact E7.trans (bl_set _ _ _ _));(have rb9:V8.heap[w.heap.size]? = some (.cells #[.slice ra n0 rc] 53 (0,0)):=by rw [← hV8,Below.heap_setCell _ _ _ _ hwp];exact rb7)) | (refine wpList_store_row rfl 48 (.tmp 5) (.tmp 115) rfl u1.heap.size (tkC x3) rfl rfl 48 _ bx8 infoTk rfl (by simp [tkC,Value.oneCell']) ?_;rw [hV6]) | (go_at_call 38;(have hzz:=hb7);(with_reducible refine (HK3.out _ e5).mono ?_);rintro e u8 ⟨rfl,hb8⟩;(have d8:=e5.carry hb8);(have B8:Below p w u8:=E5.trans (hb8.mono (Nat.le_of_lt e5.lt)));(have bx8:=(hb8.block _ (zla bx5)).trans bx5);(have rb8:=(hb8.block _ (zla rb5)).trans rb5);obtain⟨V6,hV6⟩:∃ V,u8.setRow u1.heap.size (tkC x3)=V:=⟨_,rfl⟩;(have o6:∀ q,q≠u1.heap.size→V6.heap[q]? = u8.heap[q]? := fun q hq=>by rw [← hV6];exact Go.setRow_other _ _ _ _ hq);(have b6:Below p u8 V6:=by rw [← hV6];exact⟨rfl,rfl,rfl,by simp [World.setRow],fun q hq=>Go.setRow_other _ _ _ _ (by have:=hbu1.size;omega)⟩);(have hr6:V6.heap[u1.heap.size]? = some (.cells (tkC x3) 48 (0,0)):=by rw [← hV6];exact setRow_heap _ _ _ _ _ _ bx8);(have e6:Dsk p l ad cap i3 2 fr (rd:Int) 0 (.slice none 0 0) V6:=d8.put b6 ((o6 p (by have:=hbu1.size;omega)).trans d8.bx));(have E6:Below p w V6:=B8.trans b6);(have rb6:=(o6 w.heap.size (by have:=hbu1.size;omega)).trans rb8);(have k6:V6.cell? ⟨w.heap.size,0,none⟩=some (.slice ra n0 rc):=(zca rb6 0).trans rfl);(have y0:V6.cell? ⟨u1.heap.size,0,none⟩=some (.int .i64 x3.1):=(zca hr6 0).trans rfl);(have y1:V6.cell? ⟨u1.heap.size,1,none⟩=some (.string x3.2.1):=(zca hr6 1).trans rfl)) | (go_at_call 115;(with_reducible refine (HNU _).mono ?_);rintro e u7 ⟨er7,rfl,hb7⟩;(have d7:=d6.carry hb7);(have hb57:=bel3 (bel3 hb5 hb6) hb7);(have B7:Below p w u7:=E3.trans (hb57.mono (Nat.le_of_lt e3.lt)));(have t7_1:=d7.c1);obtain⟨t7_2,t7_3,t7_4⟩:=d7.c2;(have t7_z1:=d7.z 1);(have t7_z2:=d7.z 2);(have t7_z3:=d7.z 3);(have t7_z4:=d7.z 4);obtain⟨V4,hV4⟩:∃ V,u7.setCell ⟨p,4,none⟩ (.int .i64 (rd:Int))=V:=⟨_,rfl⟩;(have e4:Dsk p l ad cap i2 2 fr (rd:Int) 0 (.slice none 0 0) V4:=by rw [← hV4];exact d7.st4 _);(have t8_1:=e4.c1);obtain⟨t8_2,t8_3,t8_4⟩:=e4.c2;(have t8_z1:=e4.z 1);(have t8_z2:=e4.z 2);(have t8_z3:=e4.z 3);(have t8_z4:=e4.z 4);obtain⟨V5,hV5⟩:∃ V,V4.setCell ⟨p,1,none⟩ (.int .i64 (i3:Int))=V:=⟨_,rfl⟩;(have e5:Dsk p l ad cap i3 2 fr (rd:Int) 0 (.slice none 0 0) V5:=by rw [← hV5];exact e4.at i3);(have E5:Below p w V5:=by rw [← hV5,← hV4];exact (B7.trans (bl_set _ _ _ _)).trans (bl_set _ _ _ _));(have t9_1:=e5.c1);obtain⟨t9_2,t9_3,t9_4⟩:=e5.c2;(have t9_z1:=e5.z 1);(have t9_z2:=e5.z 2);(have t9_z3:=e5.z 3);(have t9_z4:=e5.z 4);(have rb5:V5.heap[w.heap.size]? = some (.cells #[.slice ra n0 rc] 53 (0,0)):=by rw [← hV5,Below.heap_setCell _ _ _ _ hwp,← hV4,Below.heap_setCell _ _ _ _ hwp];exact (hb57.block _ (zla rb3)).trans rb3);(have k5:V5.cell? ⟨w.heap.size,0,none⟩=some (.slice ra n0 rc):=(zca rb5 0).trans rfl);(have bx5:V5.heap[u1.heap.size]? = some (.cells (tkC x0) 48 (0,0)):=by rw [← hV5,Below.heap_setCell _ _ _ _ (show u1.heap.size≠p by have:=hbu1.size;omega),← hV4,Below.heap_setCell _ _ _ _ (show u1.heap.size≠p by have:=hbu1.size;omega)];exact (hb57.block _ (zla bx3)).trans bx3)) | (go_at_call 38;(have hzz:=hb5);(with_reducible refine (HK2.out _ d5).mono ?_);rintro e u6 ⟨rfl,hb6⟩;(have d6:=d5.carry hb6)) | (go_at_call 38;(have hzz:=hO4);(with_reducible refine (HK2.out _ e3).mono ?_);rintro e u5 ⟨rfl,hb5⟩;(have d5:=e3.carry hb5);(have B5:Below p w u5:=E3.trans (hb5.mono (Nat.le_of_lt e3.lt)))) | (go_at_call 114;(with_reducible refine (HS.out V2 B2 e2).mono ?_);rintro e u4 ⟨rfl,d4,hO4⟩;(have hs4:=hO4.size);(have B4:Below p w u4:=B2.trans (hO4.toB (Nat.le_of_lt e2.lt)));(have rb4:=(hO4.block _ (zla rb2) hwp).trans rb2);(have k4:u4.cell? ⟨w.heap.size,0,none⟩=some (.slice ra n0 rc):=(zca rb4 0).trans rfl);(have bx4:=(hO4.block _ (zla bx2) (show u1.heap.size≠p by have:=hbu1.size;omega)).trans bx2);(have t4_1:=d4.c1);obtain⟨t4_2,t4_3,t4_4⟩:=d4.c2;(have t4_z1:=d4.z 1);(have t4_z2:=d4.z 2);(have t4_z3:=d4.z 3);(have t4_z4:=d4.z 4);obtain⟨V3,hV3⟩:∃ V,u4.setCell ⟨p,3,none⟩ (.int .i64 fr)=V:=⟨_,rfl⟩;(have e3:Dsk p l ad cap i2 2 fr 0 0 (.slice none 0 0) V3:=by rw [← hV3];exact d4.st3 _);(have E3:Below p w V3:=by rw [← hV3];exact B4.trans (bl_set _ _ _ _));(have t5_1:=e3.c1);obtain⟨t5_2,t5_3,t5_4⟩:=e3.c2;(have t5_z1:=e3.z 1);(have t5_z2:=e3.z 2);(have t5_z3:=e3.z 3);(have t5_z4:=e3.z 4);(have rb3:V3.heap[w.heap.size]? = some (.cells #[.slice ra n0 rc] 53 (0,0)):=by rw [← hV3,Below.heap_setCell _ _ _ _ hwp];exact rb4);(have k3:V3.cell? ⟨w.heap.size,0,none⟩=some (.slice ra n0 rc):=(zca rb3 0).trans rfl);(have bx3:V3.heap[u1.heap.size]? = some (.cells (tkC x0) 48 (0,0)):=by rw [← hV3,Below.heap_setCell _ _ _ _ (show u1.heap.size≠p by have:=hbu1.size;omega)];exact bx4)) | (refine wpList_store_row rfl 48 (.tmp 5) (.tmp 14) rfl u1.heap.size (tkC x0) rfl rfl 48 _ hr2 infoTk rfl (by simp [tkC,Value.oneCell']) ?_;rw [hu3];(have p0:u3.cell? ⟨u1.heap.size,0,none⟩=some (.int .i64 x0.1):=(zca hr3 0).trans rfl);(have p1:u3.cell? ⟨u1.heap.size,1,none⟩=some (.string x0.2.1):=(zca hr3 1).trans rfl);(have B3:Below p w u3:=(bel3 hb1 (bel3 hbu1 hb3)).mono (Nat.le_of_lt hpw));(have d3:Dsk p l ad cap i0 0 0 0 0 (.slice none 0 0) u3:=(hdk.carry hbu1).carry hb3);(have t3_1:=d3.c1);obtain⟨t3_2,t3_3,t3_4⟩:=d3.c2;(have t3_z1:=d3.z 1);(have t3_z2:=d3.z 2);(have t3_z3:=d3.z 3);(have t3_z4:=d3.z 4);obtain⟨V1,hV1⟩:∃ V,u3.setCell ⟨p,2,none⟩ (.int .i64 2)=V:=⟨_,rfl⟩;(have e1:Dsk p l ad cap i0 2 0 0 0 (.slice none 0 0) V1:=by rw [← hV1];exact d3.st2 _);(have t1_1:=e1.c1);obtain⟨t1_2,t1_3,t1_4⟩:=e1.c2;(have t1_z1:=e1.z 1);(have t1_z2:=e1.z 2);(have t1_z3:=e1.z 3);(have t1_z4:=e1.z 4);obtain⟨V2,hV2⟩:∃ V,V1.setCell ⟨p,1,none⟩ (.int .i64 (i1:Int))=V:=⟨_,rfl⟩;(have e2:Dsk p l ad cap i1 2 0 0 0 (.slice none 0 0) V2:=by rw [← hV2];exact e1.at i1);(have B2:Below p w V2:=by rw [← hV2,← hV1];exact (B3.trans (bl_set _ _ _ _)).trans (bl_set _ _ _ _));(have rb2:V2.heap[w.heap.size]? = _:=(show V2.heap[w.heap.size]? = some (.cells #[.slice ra n0 rc] 53 (0,0)) by rw [← hV2,Below.heap_setCell _ _ _ _ hwp,← hV1,Below.heap_setCell _ _ _ _ hwp];exact (hb3.block _ (by have:=hbu1.size;omega)).trans ((hbu1.block _ (zla hrb)).trans hrb)));(have k2:V2.cell? ⟨w.heap.size,0,none⟩=some (.slice ra n0 rc):=(zca rb2 0).trans rfl);(have bx2:V2.heap[u1.heap.size]? = some (.cells (tkC x0) 48 (0,0)):=by rw [← hV2,Below.heap_setCell _ _ _ _ (show u1.heap.size≠p by have:=hbu1.size;omega),← hV1,Below.heap_setCell _ _ _ _ (show u1.heap.size≠p by have:=hbu1.size;omega)];exact hr3)) | (go_at_call 38;(with_reducible refine HH1.mono ?_);rintro e u1 ⟨rfl,hbu1⟩;obtain⟨u2,u3,hu2,hu3,hr2,hr3,hb3,hs3⟩:=box_word u1 x0))
   obtain⟨Bq,hBq⟩:∃ B,u12.heap.size=B:=⟨_,rfl⟩
   have hpB:p<Bq:=by rw [← hBq];exact d12.lt
   have hwB:w.heap.size<Bq:=by rw [← hBq];exact zla rb12
   have HBQ:Hid (u12.heap.size=Bq):=hBq
   have HD12:Hid (Dsk p l ad cap i5 2 fr (rd:Int) N (.slice none 0 0) u12):=d12
   clear hBq d12
   go_loopw [12] (fun x wz=>∃ (i f:Nat) (ns:List N3t),DN Bq p l ad cap i 2 fr (rd:Int) N ns wz∧ObB p Bq u12 wz∧ns.length≤i∧i≤l.length∧l.length<i+3*f∧Hid (nwD L l f i ns=RN)) (fun _ wz=>l.length+1-atW p wz)
   case atStart=>exact⟨i5,l.length+1,[],DN.of HD12.out,⟨rfl,rfl,rfl,Nat.le_refl _,fun _ _ _=>rfl⟩,Nat.zero_le _,by rw [HI5.out];exact hK1,by omega,by rw [HI5.out];exact HRN⟩
   case round =>
     obtain⟨i,f,ns,hDN,hOB,hni,hil,hf,HN⟩:=hrel
     obtain⟨v,hdk2,hrow⟩:=hDN.dk
     obtain⟨g,rfl⟩:∃ g,f=g+1:=⟨f-1,by omega⟩
     have hBel:Below p w wr:=B12.trans (hOB.toB hpB)
     have hsz:Bq≤wr.heap.size:=by rw [← HBQ.out];exact hOB.size
     have rbr:=(hOB.block w.heap.size hwB hwp).trans rb12
     have kr:wr.cell? ⟨w.heap.size,0,none⟩=some (.slice ra n0 rc):=(zca rbr 0).trans rfl
     have HDN:Hid (DN Bq p l ad cap i 2 fr (rd:Int) N ns wr):=hDN
     have hatr:=hdk2.atW
     by_cases hm:mkD (hereT l i) ⟨#[93]⟩=true
     · have HRN2:Hid (RN=.ok (ns,i+1)):=by show RN=_;rw [← HN.out,nwD,if_pos hm]
       have HMY:Hid (Calls Tryz.prog 117 #[.pointer (some ⟨p,0,none⟩),.string ⟨#[93]⟩] wr fun e w'=>e=.returned (.bool true)∧Dsk p l ad cap (i+1) 2 fr (rd:Int) N v w'∧Ob p wr w'):=mark_yes hdk2 (by omega) _ hm
       have HHE:Hid (∀ V,Dsk p l ad cap (i+1) 2 fr (rd:Int) N v V→Calls Tryz.prog 38 #[.pointer (some ⟨p,0,none⟩)] V fun e w'=>e=.returned (.agg #[.int .i64 (hereT l (i+1)).1,.string (hereT l (i+1)).2.1,.int .i64 (hereT l (i+1)).2.2.1,.int .i64 (hereT l (i+1)).2.2.2])∧Below V.heap.size V w'):=fun V hV=>here_any hV (by omega)
       have HROW:Hid (wr.ownsRow Bq 124 3 v ns.length (fl ns)):=hrow
       obtain⟨y,hy⟩:∃ y,hereT l (i+1)=y:=⟨_,rfl⟩
       rw [hy] at HHE
       clear hm hDN hrow hdk2 HN hatr
       by_cases h1:y.1=1
       · have h1b:(y.1 != 1)=false:=by simpa using h1
         obtain⟨k2,hk2⟩:∃ k2,i+1+1=k2:=⟨_,rfl⟩
         obtain⟨k1,hk1⟩:∃ k1,i+1=k1:=⟨_,rfl⟩
         have had:(k1:Int)+1=(k2:Int):=by omega
         have hkb1:k1≤900001:=by omega
         have HK2:Hid (i+1+1=k2):=hk2
         have HK1:Hid (i+1=k1):=hk1
         rw [hk1] at HMY HHE
         have HY1:Hid (y.1=1):=h1
         have HY:Hid (hereT l (i+1)=y):=hy
         clear hk1 hk2 h1 hy
         go_wp2_with (first | (go_at_call 38;(with_reducible refine (HHE.out _ d13).mono ?_);rintro e u14 ⟨rfl,hb14⟩;(have d14:=d13.carry hb14);(have n1:=d14.c1);(have z1:=d14.z 1);obtain⟨V9,hV9⟩:∃ V,u14.setCell ⟨p,1,none⟩ (.int .i64 (k2:Int))=V:=⟨_,rfl⟩;(have d9:Dsk p l ad cap k2 2 fr (rd:Int) N v V9:=by rw [← hV9];exact d14.at k2)) | (go_at_call 117;(with_reducible refine HMY.out.mono ?_);rintro e u13 ⟨rfl,d13,hO13⟩))
         have hO9:Ob p wr V9:=by rw [← hV9];exact hO13.trans ((Ob.of hb14).trans (ob_set _ _ _ _))
         have hrow9:V9.ownsRow Bq 124 3 v ns.length (fl ns):=ownsRow_ob HROW.out hO9 (fun g hg=>by have:=own_block HROW.out g hg;omega)
         have B9:Below p w V9:=hBel.trans (hO9.toB (by omega))
         have HD9:Hid (Dsk p l ad cap k2 2 fr (rd:Int) N v V9):=d9
         obtain⟨n,hn⟩:∃ n,l.length=n:=⟨_,rfl⟩
         have hn':Hid (l.length=n):=hn
         obtain⟨q,hq⟩:∃ q,decide ((k2:Int)<(n:Int))=q:=⟨_,rfl⟩
         refine wp_region_any hmx ?_
         refine zwp (fun i__=>([(.pointer (some ⟨p,0,none⟩)),(.pointer (some ⟨p,0,none⟩)),(.pointer (some ⟨p,1,none⟩)),(.int .i64 (k2:Int)),(.pointer (some ⟨p,0,none⟩)),(.pointer (some ⟨p,0,none⟩)),(.pointer (some ⟨p,0,none⟩)),(.slice ad n cap),(.int .i64 (n:Int)),(.bool q)]:List Value).getD i__ undef) (fun V=>Below V9.heap.size V9 V) (by kernel_rfl) ((Below.refl _ _).drew) ?_ ?_
         · refine (sqc ?_ (sqc ?_ (sqc ?_ (sqc ?_ (sqc ?_ (sqc ?_ (sqc ?_ (sqc ?_ (sqc ?_ (sqc ?_ trivial))))))))))
           · exact zmv rfl trivial _ rfl (by kernel_rfl)
           · exact znc rfl trivial _ _ _ rfl rfl rfl
           · exact zfa rfl trivial _ _ _ _ rfl rfl (fun v hw=>fld_d1 v _)
           · exact zld rfl trivial _ _ _ rfl rfl (fun v hw=>ld_d1 (HD9.out.carry hw))
           · exact zmv rfl trivial _ rfl (by kernel_rfl)
           · exact znc rfl trivial _ _ _ rfl rfl rfl
           · exact zfa rfl trivial _ _ _ _ rfl rfl (fun v hw=>fld_d0 v _)
           · exact zld rfl trivial _ _ _ rfl rfl (fun v hw=>by rw [← hn'.out];exact ld_d0 (HD9.out.carry hw))
           · exact step_bi rfl trivial _ _ _ [(.slice ad n cap)] rfl (by kernel_rfl) (fun cs w hw=>bi_lenK _ cs _ _ _ w)
           · exact zbo rfl trivial _ _ _ _ _ _ _ rfl rfl rfl (fun w hw=>by rw [← hq];exact bin_lss _ _ _)
         intro W hW
         first | refine hK _ _ ?_ | refine (‹∀ (a:Act) (w:World),Code.wp Tryz.prog _ _ a w→_›) _ _ ?_ | skip
         simp only [finL,List.getD_cons_zero,List.getD_cons_succ,Nat.zero_add,Nat.reduceAdd,List.setIfInBounds_toArray,List.set_cons_zero,List.set_cons_succ]
         have hdW:=HD9.out.carry hW
         have hrW:=zrb hrow9 hW
         have BW:Below p w W:=B9.trans (hW.mono (Nat.le_of_lt d9.lt))
         cases q with
         | true =>
           have hlt:k2<l.length:=by have:=of_decide_eq_true hq;omega
           have HRR:Hid (R=.error (80,(hereT l k2).2.2.2)):=by
             show R=_
             rw [HRES.out,HRN2.out,endR]
             dsimp only
             rw [endD,HY.out,if_pos HY1.out,HK2.out,if_pos hlt]
           clear hq hW
           go_wp2
           go_ret
           rw [HRR.out]
           exact⟨rfl,Bq,k2,_,_,_,_,_,⟨_,hdW,hrW⟩,rfl,by omega,BW⟩
         | false =>
           have hlt:¬ k2<l.length:=by have:=of_decide_eq_false hq;omega
           have HRR:Hid (R=.ok (2,fr,rd,N,ns)):=by
             show R=_
             rw [HRES.out,HRN2.out,endR]
             dsimp only
             rw [endD,HY.out,if_pos HY1.out,HK2.out,if_neg hlt]
           clear hq hW
           go_wp2
           go_ret
           rw [HRR.out]
           exact⟨rfl,Bq,k2,⟨_,hdW,hrW⟩,BW⟩
       · have h1b:(y.1 != 1)=true:=by simpa using h1
         have HRR:Hid (R=.error (80,(hereT l (i+1)).2.2.2)):=by
           show R=_
           rw [HRES.out,HRN2.out,endR]
           dsimp only
           rw [endD,hy,if_neg h1]
         clear h1 hy
         go_wp2_with (first | (go_at_call 38;(with_reducible refine (HHE.out _ d13).mono ?_);rintro e u14 ⟨rfl,hb14⟩;(have d14:=d13.carry hb14)) | (go_at_call 117;(with_reducible refine HMY.out.mono ?_);rintro e u13 ⟨rfl,d13,hO13⟩))
         go_ret
         have hO9:Ob p wr u14:=hO13.trans (Ob.of hb14)
         rw [HRR.out]
         exact⟨rfl,Bq,i+1,_,_,_,_,_,⟨_,d14,ownsRow_ob HROW.out hO9 (fun g hg=>by have:=own_block HROW.out g hg;omega)⟩,rfl,by omega,hBel.trans (hO9.toB (by omega))⟩
     · have HRN2:Hid (RN=match stD L l i ns with | .error q=>.error q | .ok n=>nwD L l g (i+3) (ns ++ [n])):=by
         show RN=_
         rw [← HN.out,nwD,if_neg hm]
         all_goals (cases stD L l i ns <;> rfl)
       have HMN:Hid (Calls Tryz.prog 117 #[.pointer (some ⟨p,0,none⟩),.string ⟨#[93]⟩] wr fun e w'=>e=.returned (.bool false)∧Below wr.heap.size wr w'):=mark_no hdk2 (by omega) _ (by simpa using hm)
       have HNO:Hid (∀ V,Below wr.heap.size wr V→Calls Tryz.prog 118 #[.pointer (some ⟨p,0,none⟩),.agg #[.slice ra n0 rc]] V (NdO Bq p l ad cap i 2 fr (rd:Int) N ns V (stD L l i ns))):=fun V hV=>by
         rw [← HN0.out]
         exact rnotice_any (hEW.out.on (hBel.trans (hV.mono (by omega)))) (HDN.out.carry hV) hpB (Nat.le_trans hsz hV.size) HS6.out (by omega) (by omega)
       clear hm hDN hrow hdk2 HN
       cases hst:stD L l i ns with
       | error q =>
         rw [hst] at HRN2 HNO
         unfold NdO at HNO
         have HRR:Hid (R=.error q):=by
           show R=_
           rw [HRES.out,HRN2.out]
           rfl
         dsimp only at HNO
         have hq0:Hid (q.1≠0):=stD_ne hst
         have hqb:(q.1 != 0)=true:=by simpa using hq0.out
         clear hst
         go_wp2_with (first | (go_at_call 118;(with_reducible refine (HNO.out _ hb13).mono ?_);rintro e u14 ⟨rfl,hk14⟩) | (go_at_call 117;(with_reducible refine HMN.out.mono ?_);rintro e u13 ⟨rfl,hb13⟩;(have rb13:=(hb13.block _ (zla rbr)).trans rbr);(have k13:u13.cell? ⟨w.heap.size,0,none⟩=some (.slice ra n0 rc):=(zca rb13 0).trans rfl)))
         go_ret
         rw [HRR.out]
         obtain⟨k,hk1,hk2,hk3,hk4⟩:=hk14
         exact⟨rfl,Bq,k,_,_,_,_,_,hk1,hk2,by omega,hBel.trans ((hb13.mono (by omega)).trans (hk4.toB hpB))⟩
       | ok n =>
         rw [hst] at HRN2 HNO
         unfold NdO at HNO
         dsimp only at HNO
         have hlt:=stD_lt hst
         clear hst
         go_wp2_with (first | (go_at_call 118;(with_reducible refine (HNO.out _ hb13).mono ?_);rintro e u14 ⟨rfl,hD14,hO14⟩) | (go_at_call 117;(with_reducible refine HMN.out.mono ?_);rintro e u13 ⟨rfl,hb13⟩;(have rb13:=(hb13.block _ (zla rbr)).trans rbr);(have k13:u13.cell? ⟨w.heap.size,0,none⟩=some (.slice ra n0 rc):=(zca rb13 0).trans rfl)))
         go_roundw
         case rel=>exact⟨i+3,g,ns ++ [n],hD14,hOB.trans ((ObB.ofB (hb13.mono (by omega))).trans hO14),by rw [List.length_append];show _+1≤_;omega,by omega,by omega,HRN2.out.symm⟩
         case measure =>
           obtain⟨v2,q1,_⟩:=hD14.dk
           rw [q1.atW,hatr]
           omega
def kdD (x:Tk4):Nat:=if x.1=2 then (if x.2.1.toList=[113,117,101,114,121] then 1 else if x.2.1.toList=[114,101,112,108,121] then 2 else if x.2.1.toList=[114,117,109,111,114] then 3 else 0) else 0
theorem d0_no {L:List Int}{ra:Option Addr}{rc:Nat}{p:Nat}{l:List Tk4}{ad:Option Addr}{cap:Nat}{w:World}(h:Dsk p l ad cap 0 0 0 0 0 (.slice none 0 0) w)(x0:Tk4)(hx0:hereT l 0=x0)(hk0:kdD x0=0):Calls Tryz.prog 37 #[.pointer (some ⟨p,0,none⟩),.agg #[.slice ra L.length rc]] w (RdO8 p l ad cap w (.error (80,x0.2.2.2))):=by
 obtain⟨W1,hW1⟩:∃ W1,w.alloc (.cells #[.slice ra L.length rc] 53)=W1:=⟨_,rfl⟩
 have hb1:Below w.heap.size w W1:=by rw [← hW1];exact al1t _ _
 have hpw:=h.lt
 have hdk:Dsk p l ad cap 0 0 0 0 0 (.slice none 0 0) W1:=h.carry hb1
 have HH1:=here_any hdk (by omega)
 have HX0:Hid (hereT l 0=x0):=hx0
 rw [hx0] at HH1
 unfold tk4 tkV at HH1
 have HDK:Hid (Dsk p l ad cap 0 0 0 0 0 (.slice none 0 0) W1):=hdk
 obtain⟨n0,hn0⟩:∃ n0,L.length=n0:=⟨_,rfl⟩
 rw [hn0] at hW1 ⊢
 unfold kdD at hk0
 clear h hdk hx0 hn0
 by_cases hk:x0.1=2
 · rw [if_pos hk] at hk0
   have hkb:(x0.1 == 2)=true:=by simpa using hk
   split at hk0
   · cases hk0
   rename_i t1
   split at hk0
   · cases hk0
   rename_i t2
   split at hk0
   · cases hk0
   rename_i t3
   have t1b:(x0.2.1.toList == [113,117,101,114,121])=false:=by simpa using t1
   have t2b:(x0.2.1.toList == [114,101,112,108,121])=false:=by simpa using t2
   have t3b:(x0.2.1.toList == [114,117,109,111,114])=false:=by simpa using t3
   clear hk hk0 t1 t2 t3
   go_enter Tryz.func37,Tryz.ntmps37
   go_wp2_with (first | (refine wpList_store_row rfl 48 (.tmp 5) (.tmp 14) rfl u1.heap.size (tkC x0) rfl rfl 48 _ hr2 infoTk rfl (by simp [tkC,Value.oneCell']) ?_;rw [hu3];(have p0:u3.cell? ⟨u1.heap.size,0,none⟩=some (.int .i64 x0.1):=(zca hr3 0).trans rfl);(have p1:u3.cell? ⟨u1.heap.size,1,none⟩=some (.string x0.2.1):=(zca hr3 1).trans rfl);(have B3:Below W1.heap.size W1 u3:=bel3 hbu1 hb3)) | (go_at_call 38;(with_reducible refine HH1.mono ?_);rintro e u1 ⟨rfl,hbu1⟩;obtain⟨u2,u3,hu2,hu3,hr2,hr3,hb3,hs3⟩:=box_word u1 x0))
   go_ret
   exact⟨rfl,p+1,0,_,_,_,_,_,DN.of (HDK.out.carry B3),by rw [HX0.out],by omega,(bel3 hb1 B3).mono (Nat.le_of_lt hpw)⟩
 · have hkb:(x0.1 == 2)=false:=by simpa using hk
   clear hk hk0
   go_enter Tryz.func37,Tryz.ntmps37
   go_wp2_with (first | (refine wpList_store_row rfl 48 (.tmp 5) (.tmp 14) rfl u1.heap.size (tkC x0) rfl rfl 48 _ hr2 infoTk rfl (by simp [tkC,Value.oneCell']) ?_;rw [hu3];(have p0:u3.cell? ⟨u1.heap.size,0,none⟩=some (.int .i64 x0.1):=(zca hr3 0).trans rfl);(have p1:u3.cell? ⟨u1.heap.size,1,none⟩=some (.string x0.2.1):=(zca hr3 1).trans rfl);(have B3:Below W1.heap.size W1 u3:=bel3 hbu1 hb3)) | (go_at_call 38;(with_reducible refine HH1.mono ?_);rintro e u1 ⟨rfl,hbu1⟩;obtain⟨u2,u3,hu2,hu3,hr2,hr3,hb3,hs3⟩:=box_word u1 x0))
   go_ret
   exact⟨rfl,p+1,0,_,_,_,_,_,DN.of (HDK.out.carry B3),by rw [HX0.out],by omega,(bel3 hb1 B3).mono (Nat.le_of_lt hpw)⟩
def rdWD (L:List Int)(l:List Tk4):Except ErT Nt5 :=
 if kdD (hereT l 0)=0 then .error (80,(hereT l 0).2.2.2)
 else match sgR L l 1 with
  | .error q=>.error q
  | .ok fr =>
   if kdD (hereT l 0)=3 then restD L l 2 3 fr 0 0
   else match rnR l 2 with
    | .error q=>.error q
    | .ok rd=>if kdD (hereT l 0)=1 then restD L l 3 1 fr rd 0 else match hdR L l 3 with
     | .error q=>.error q
     | .ok N=>restD L l 4 2 fr rd N
theorem kdD_one {x:Tk4}(h:kdD x=1):x.1=2∧x.2.1.toList=[113,117,101,114,121]:=by
 unfold kdD at h
 split at h
 · rename_i h1
   split at h
   · rename_i h2;exact⟨h1,h2⟩
   split at h
   · cases h
   split at h <;> cases h
 · cases h
theorem kdD_two {x:Tk4}(h:kdD x=2):x.1=2∧x.2.1.toList=[114,101,112,108,121]:=by
 unfold kdD at h
 split at h
 · rename_i h1
   split at h
   · cases h
   split at h
   · rename_i h2;exact⟨h1,h2⟩
   split at h <;> cases h
 · cases h
theorem kdD_three {x:Tk4}(h:kdD x=3):x.1=2∧x.2.1.toList=[114,117,109,111,114]:=by
 unfold kdD at h
 split at h
 · rename_i h1
   split at h
   · cases h
   split at h
   · cases h
   split at h
   · rename_i h2;exact⟨h1,h2⟩
   · cases h
 · cases h
theorem kdD_le (x:Tk4):kdD x≤3:=by
 unfold kdD
 split
 · split
   · omega
   split
   · omega
   split <;> omega
 · omega
theorem rest_no {L:List Int}{l:List Tk4}{i kd:Nat}{fr:Int}{rd N:Nat}(h:mkD (hereT l i) ⟨#[91]⟩=false):restD L l i kd fr rd N=.error (80,(hereT l i).2.2.2):=by
 rw [restD,nwsD,if_neg (by simp [h]),endR]
theorem rread8_any {M:Nat}{L:List Int}{ra:Option Addr}{rc:Nat}{p:Nat}{l:List Tk4}{ad:Option Addr}{cap:Nat}{w:World}(hE:En8 M L (.agg #[.slice ra L.length rc]) p w)(h:Dsk p l ad cap 0 0 0 0 0 (.slice none 0 0) w)(hS:Shw6 l)(hl:l.length≤800000):Calls Tryz.prog 37 #[.pointer (some ⟨p,0,none⟩),.agg #[.slice ra L.length rc]] w (RdO8 p l ad cap w (rdWD L l)):=by
 obtain⟨x0,hx0⟩:∃ x0,hereT l 0=x0:=⟨_,rfl⟩
 unfold rdWD
 rw [hx0]
 by_cases hk0:kdD x0=0
 · rw [if_pos hk0]
   exact d0_no h x0 hx0 hk0
 rw [if_neg hk0]
 have hle:=kdD_le x0
 have hsg:∀ q,sgR L l 1=.error q→(oneS (hereT l 1)=false∧q=(80,(hereT l 1).2.2.2))∨(oneS (hereT l 1)=true∧¬ ((rn (hereT l 1).2.1 0:Nat):Int)∈L∧q=(41,(hereT l 1).2.2.2)):=fun q hq=>by
   unfold sgR sgI at hq
   split at hq
   · rename_i q1
     split at hq
     · cases hq
     · rename_i q2
       cases hq
       exact .inr ⟨q1,q2,rfl⟩
   · rename_i q1
     cases hq
     exact .inl ⟨by simpa using q1,rfl⟩
 have hrn:∀ q,rnR l 2=.error q→(¬ (hereT l 2).1=3∧q=(80,(hereT l 2).2.2.2))∨((hereT l 2).1=3∧((numR (hereT l 2).2.1).getD 0<1∨1099511627775<(numR (hereT l 2).2.1).getD 0)∧q=(73,(hereT l 2).2.2.2)):=fun q hq=>by
   unfold rnR rnI at hq
   split at hq
   · rename_i q1
     split at hq
     · rename_i q2
       cases hq
       exact .inr ⟨q1,q2,rfl⟩
     · cases hq
   · rename_i q1
     cases hq
     exact .inl ⟨q1,rfl⟩
 have hrk:∀ rd,rnR l 2=.ok rd→(hereT l 2).1=3∧(numR (hereT l 2).2.1).getD 0=rd∧1≤rd∧rd≤1099511627775:=fun rd hq=>by
   unfold rnR rnI at hq
   split at hq
   · rename_i q1
     split at hq
     · cases hq
     · rename_i q2
       cases hq
       exact⟨q1,rfl,by omega,by omega⟩
   · cases hq
 rcases (show kdD x0=1∨kdD x0=2∨kdD x0=3 by omega) with hk | hk | hk
 · obtain⟨g0,t0⟩:=kdD_one hk
   cases hs:sgR L l 1 with
   | error q =>
     rcases hsg q hs with ⟨a,rfl⟩ | ⟨a,b,rfl⟩
     · exact d1_s1 hE h hS x0 hx0 g0 t0 a
     · exact d1_s2 hE h hS x0 hx0 g0 t0 a b
   | ok fr =>
     dsimp only
     rw [if_neg (show ¬ kdD x0=3 by omega)]
     cases hr:rnR l 2 with
     | error q =>
       rcases hrn q hr with ⟨a,rfl⟩ | ⟨a,b,rfl⟩
       · exact d1_r1 hE h hS x0 hx0 g0 t0 fr hs a
       · exact d1_r2 hE h hS x0 hx0 g0 t0 fr hs a _ rfl b
     | ok rd =>
       obtain⟨a,b,c,d⟩:=hrk rd hr
       dsimp only
       rw [if_pos hk]
       cases hb:mkD (hereT l 3) ⟨#[91]⟩ with
       | false=>rw [rest_no hb];exact d1_b hE h hS x0 hx0 g0 t0 fr hs a rd b ⟨c,d⟩ hb
       | true=>exact d1_n hE h hS x0 hx0 g0 t0 fr hs a rd b ⟨c,d⟩ hl hb
 · obtain⟨g0,t0⟩:=kdD_two hk
   cases hs:sgR L l 1 with
   | error q =>
     rcases hsg q hs with ⟨a,rfl⟩ | ⟨a,b,rfl⟩
     · exact d2_s1 hE h hS x0 hx0 g0 t0 a
     · exact d2_s2 hE h hS x0 hx0 g0 t0 a b
   | ok fr =>
     dsimp only
     rw [if_neg (show ¬ kdD x0=3 by omega)]
     cases hr:rnR l 2 with
     | error q =>
       rcases hrn q hr with ⟨a,rfl⟩ | ⟨a,b,rfl⟩
       · exact d2_r1 hE h hS x0 hx0 g0 t0 fr hs a
       · exact d2_r2 hE h hS x0 hx0 g0 t0 fr hs a _ rfl b
     | ok rd =>
       obtain⟨a,b,c,d⟩:=hrk rd hr
       dsimp only
       rw [if_neg (show ¬ kdD x0=1 by omega)]
       by_cases hset:setKT (hereT l 3)=true
       · by_cases herr:(parseR L (hereT l 3).2.1).2.2=0
         · obtain⟨⟨N,pl,er⟩,hN⟩:∃ r,parseR L (hereT l 3).2.1=r:=⟨_,rfl⟩
           have hpl:=parse_pl L _ herr
           rw [hN] at herr hpl
           dsimp only at herr hpl
           subst herr
           subst hpl
           have hh:hdR L l 3=.ok N:=by rw [hdR,if_pos hset,hdI,hN];rfl
           rw [hh]
           dsimp only
           cases hb:mkD (hereT l 4) ⟨#[91]⟩ with
           | false=>rw [rest_no hb];exact d2_b hE h hS x0 hx0 g0 t0 fr hs a rd b ⟨c,d⟩ hset N hN hb
           | true=>exact d2_n hE h hS x0 hx0 g0 t0 fr hs a rd b ⟨c,d⟩ hset N hN hl hb
         · have hh:hdR L l 3=.error ((parseR L (hereT l 3).2.1).2.2,(hereT l 3).2.2.2):=by rw [hdR,if_pos hset,hdI,if_neg herr]
           rw [hh]
           exact d2_h2 hE h hS x0 hx0 g0 t0 fr hs a rd b ⟨c,d⟩ hset herr
       · have hh:hdR L l 3=.error (80,(hereT l 3).2.2.2):=by rw [hdR,if_neg hset]
         rw [hh]
         exact d2_h1 hE h hS x0 hx0 g0 t0 fr hs a rd b ⟨c,d⟩ hset
 · obtain⟨g0,t0⟩:=kdD_three hk
   cases hs:sgR L l 1 with
   | error q =>
     rcases hsg q hs with ⟨a,rfl⟩ | ⟨a,b,rfl⟩
     · exact d3_s1 hE h hS x0 hx0 g0 t0 a
     · exact d3_s2 hE h hS x0 hx0 g0 t0 a b
   | ok fr =>
     dsimp only
     rw [if_pos hk]
     cases hb:mkD (hereT l 2) ⟨#[91]⟩ with
     | false=>rw [rest_no hb];exact d3_b hE h hS x0 hx0 g0 t0 fr hs hb
     | true=>exact d3_n hE h hS x0 hx0 g0 t0 fr hs hl hb
end Go.Proofs.YtmahamdmapbilaaGreatDoor
namespace Go.Proofs.YtmahamdmapbilaaGreatDoor
open Go.RowKit Go.Shelf
abbrev Fou:=Int × ByteArray × Int × Int
def cells4Q:List Fou→List Value
 | []=>[]
 | (k,t,l,c) :: r=>tokC k t l c ++ cells4Q r
theorem cells4_append:∀ a b:List Fou,cells4Q (a ++ b)=cells4Q a ++ cells4Q b
 | [],b=>rfl
 | (k,t,l,c) :: a,b=>by rw [List.cons_append,cells4Q,cells4Q,cells4_append a b,List.append_assoc]
theorem flat_cells (ln:Int):∀ l:List Tok,flatT ln l=cells4Q (l.map (fun x=>(x.1,x.2.1,ln,(x.2.2:Int))))
 | []=>rfl
 | (k,t,c) :: l=>by rw [flatT,List.map_cons,cells4Q,flat_cells ln l]
def lineQ (ln:Nat)(x:ByteArray):List Fou:=if (cutR x).1.length=0 then [] else (cutR x).1.map (fun x=>(x.1,x.2.1,(ln:Int),(x.2.2:Int))) ++ [(1,⟨#[10]⟩,(ln:Int),(((starts x).length+1:Nat):Int))]
theorem lineT_cells (ln:Nat)(x:ByteArray):lineT ln x=cells4Q (lineQ ln x):=by
 unfold lineT lineQ
 split
 · rfl
 · rw [cells4_append,← flat_cells,cells4Q,cells4Q,List.append_nil]
theorem lineQ_len (ln:Nat)(x:ByteArray):(lineQ ln x).length=lineN x:=by
 unfold lineN lineQ
 split
 · rfl
 · simp
def fours:Nat→List ByteArray→List Fou
 | _,[]=>[]
 | n,x :: t=>lineQ (n+1) x ++ fours (n+1) t
theorem fours_cells:∀ (n:Nat) (L:List ByteArray),xxL n L=cells4Q (fours n L)
 | _,[]=>rfl
 | n,x :: t=>by rw [xxL,fours,cells4_append,lineT_cells,fours_cells (n+1) t]
theorem fours_len:∀ (n:Nat) (L:List ByteArray),(fours n L).length=kkL L
 | _,[]=>rfl
 | n,x :: t=>by rw [kkL,fours,List.length_append,lineQ_len,fours_len (n+1) t]
def le10 (s:ByteArray):Nat→Nat→Nat
 | 0,p=>p
 | f+1,p=>if p<s.size∧byt s p≠10 then le10 s f (p+1) else p
theorem le10_end (s:ByteArray):∀ (f p:Nat),p≤s.size→s.size≤p+f→LEnd s p (le10 s f p)
 | 0,p,h,k=>⟨Nat.le_refl _,h,fun j a b=>by rw [le10] at b;omega,.inl (by rw [le10];omega)⟩
 | f+1,p,h,k=>by
  rw [le10]
  split
  · rename_i hc
    have ih:=le10_end s f (p+1) (by omega) (by omega)
    refine⟨Nat.le_of_succ_le ih.1,ih.2.1,fun j a b=>?_,ih.2.2.2⟩
    by_cases e:j=p
    · rw [e];exact hc.2
    · exact ih.2.2.1 j (by omega) b
  · rename_i hc
    refine⟨Nat.le_refl _,h,fun j a b=>by omega,?_⟩
    by_cases q:p<s.size
    · right
      by_cases e:byt s p=10
      · exact e
      · exact absurd ⟨q,e⟩ hc
    · left;omega
def LE (s:ByteArray)(p:Nat):Nat:=le10 s s.size p
theorem le_end (s:ByteArray)(p:Nat)(h:p≤s.size):LEnd s p (LE s p):=le10_end s s.size p h (by omega)
theorem LEnd.uniq {s:ByteArray}{p E E':Nat}(h:LEnd s p E)(h':LEnd s p E'):E=E':=by
 obtain⟨a,b,c,d⟩:=h
 obtain⟨a',b',c',d'⟩:=h'
 rcases Nat.lt_trichotomy E E' with q | q | q
 · rcases d with d | d
   · omega
   · exact absurd d (c' E a q)
 · exact q
 · rcases d' with d' | d'
   · omega
   · exact absurd d' (c E' a' q)
theorem nx_le (s:ByteArray)(i E:Nat)(hi:i<s.size)(hE:LEnd s (i+1) E):(nxD s i E).2.1≤s.size:=by
 have hwl:=wdt_le s i hi
 have h1:=(runD_le s s.size i (by omega)).2
 have hsz:(s.extract 0 E).size=E:=by have:=hE.2.1;simp;omega
 have h6:=lead_le (s.extract 0 E) E (i+1) [] (by have:=hE.1;omega)
 have h7:=hE.2.1
 unfold nxD
 split
 · dsimp only;omega
 split
 · split <;> (dsimp only;omega)
 split
 · split <;> (dsimp only;omega)
 split <;> (dsimp only;omega)
abbrev Res:=List Fou ⊕ (Nat × Nat × Nat)
def cntQ (s:ByteArray)(a b:Nat):Nat:=(starts (s.extract a b)).length
def scD (s:ByteArray):Nat→Nat→Nat→Nat→Bool→List Fou→Res
 | 0,_,_,_,_,l=>.inl l
 | f+1,i,ln,fr,so,l =>
  if s.size<i then .inl l
  else if i=s.size∨byt s i=10 then scD s f (i+1) (ln+1) (i+1) false (if so=true then l ++ [(1,⟨#[10]⟩,(ln:Int),((cntQ s fr i+1:Nat):Int))] else l)
  else if byt s i=9∨byt s i=13∨byt s i=32 then scD s f (i+1) ln fr so l
  else if byt s i=35 then scD s f (LE s i) ln fr so l
  else if (nxD s i (LE s (i+1))).2.2=0 then scD s f (nxD s i (LE s (i+1))).2.1 ln fr true (l ++ [(((nxD s i (LE s (i+1))).1:Int),s.extract i (nxD s i (LE s (i+1))).2.1,(ln:Int),((cntQ s fr i+1:Nat):Int))])
  else .inr ((nxD s i (LE s (i+1))).2.2,(plc s (nxD s i (LE s (i+1))).2.1).1,cntQ s (plc s (nxD s i (LE s (i+1))).2.1).2 (nxD s i (LE s (i+1))).2.1+1)
section
variable (s:ByteArray) (f i ln fr:Nat) (so:Bool) (l:List Fou)
theorem sc_end (h:s.size<i):scD s (f+1) i ln fr so l=.inl l:=by rw [scD,if_pos h]
theorem sc_eol (h:¬ s.size<i)(h1:i=s.size∨byt s i=10):scD s (f+1) i ln fr so l=scD s f (i+1) (ln+1) (i+1) false (if so=true then l ++ [(1,⟨#[10]⟩,(ln:Int),((cntQ s fr i+1:Nat):Int))] else l):=by rw [scD,if_neg h,if_pos h1]
theorem sc_gap (h:i<s.size)(h2:byt s i=9∨byt s i=13∨byt s i=32):scD s (f+1) i ln fr so l=scD s f (i+1) ln fr so l:=by
 rw [scD,if_neg (by omega),if_neg (by rintro (e | e) <;> omega),if_pos h2]
theorem sc_rem (h:i<s.size)(h2:byt s i=35):scD s (f+1) i ln fr so l=scD s f (LE s i) ln fr so l:=by
 rw [scD,if_neg (by omega),if_neg (by rintro (e | e) <;> omega),if_neg (by rintro (e | e | e) <;> omega),if_pos h2]
theorem sc_word (h:i<s.size)(h1:byt s i≠10)(h2:¬ (byt s i=9∨byt s i=13∨byt s i=32))(h3:byt s i≠35)(h4:(nxD s i (LE s (i+1))).2.2=0):scD s (f+1) i ln fr so l=scD s f (nxD s i (LE s (i+1))).2.1 ln fr true (l ++ [(((nxD s i (LE s (i+1))).1:Int),s.extract i (nxD s i (LE s (i+1))).2.1,(ln:Int),((cntQ s fr i+1:Nat):Int))]):=by
 rw [scD,if_neg (by omega),if_neg (by rintro (e | e) <;> omega),if_neg h2,if_neg h3,if_pos h4]
theorem sc_err (h:i<s.size)(h1:byt s i≠10)(h2:¬ (byt s i=9∨byt s i=13∨byt s i=32))(h3:byt s i≠35)(h4:(nxD s i (LE s (i+1))).2.2≠0):scD s (f+1) i ln fr so l=.inr ((nxD s i (LE s (i+1))).2.2,(plc s (nxD s i (LE s (i+1))).2.1).1,cntQ s (plc s (nxD s i (LE s (i+1))).2.1).2 (nxD s i (LE s (i+1))).2.1+1):=by
 rw [scD,if_neg (by omega),if_neg (by rintro (e | e) <;> omega),if_neg h2,if_neg h3,if_neg h4]
end
end Go.Proofs.YtmahamdmapbilaaGreatDoor
