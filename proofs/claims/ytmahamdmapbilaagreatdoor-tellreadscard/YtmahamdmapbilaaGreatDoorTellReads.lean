/- TellReads: at every text of signs and every text: what the program reads of it is what the document reads, with the same error and the same column; no condition but the tie of the card. -/
import Derived.Test.YtmahamdmapbilaaGreatDoorRows
import Derived.WalkKit
import Derived.ProofKit
import Derived.OpenShut
import Derived.ChangeMaps5
import Derived.Stop.Joined
import Derived.Lay
import Derived.SevenTiedAt
import Derived.SizedLaws
import Derived.LaidMore
import Derived.Test.YtmahamdmapbilaaGreatDoorTie
import Derived.Test.YtmahamdmapbilaaGreatDoorCards
import Derived.Test.YtmahamdmapbilaaGreatDoorJrJ37
import Derived.Test.YtmahamdmapbilaaGreatDoorJrJ26
import Derived.Test.YtmahamdmapbilaaGreatDoorJrJ38
namespace Go.Proofs.YtmahamdmapbilaaGreatDoor
open Go.ChangeShapes Go.WideShapes Go.ChangeAt Go.RowKit Go.ChangeMaps
set_option linter.unusedVariables false


theorem own:ownKnob Tryz.prog.godebug=none:=by kernel_rfl
open Go.Shelf Go.Lib
theorem asN_Q (w:World):(Instr.typeAssert .nilIface 30 92 true).run Tryz.prog w=.ok (.tuple #[qZ,.bool false]) w:=by kernel_rfl
theorem asN_P (w:World):(Instr.typeAssert .nilIface 30 95 true).run Tryz.prog w=.ok (.tuple #[pZ,.bool false]) w:=by kernel_rfl
theorem asN_U (w:World):(Instr.typeAssert .nilIface 30 90 true).run Tryz.prog w=.ok (.tuple #[uZ,.bool false]) w:=by kernel_rfl
set_option maxHeartbeats 1000000 in
set_option maxRecDepth 100000 in
theorem as_nilT (w:World):Calls Tryz.prog 9 #[.nilIface] w fun e w'=>e=.returned (.tuple #[.agg zC8,.bool false])∧Below w.heap.size w w':=by
  have s1:=asN_Q
  have s2:=asN_P
  have s3:=asN_U
  unfold qZ at s1
  unfold pZ at s2
  unfold uZ at s3
  go_enter Tryz.func9,Tryz.ntmps9
  go_wp2
  exact bodyPost_ret (res2b (N:=0) rfl rfl (zna (by simp))) rfl ⟨rfl,al1t w _⟩
set_option maxHeartbeats 16000000 in
set_option maxRecDepth 100000 in
theorem walk (s0:ByteArray)(w0:s0.size≤maxLen)(s1:ByteArray)(w1:s1.size≤maxLen)(w:World)(hL:laidMetH Tryz.prog Rows.tellReadsRow.laid w) :
    Calls Tryz.prog 4 #[.string s0,.string s1] w fun e w'=>e=.returned (.bool true)∧Below w.heap.size w w':=by
  have hTB:=tabs_of (W:=w) (L:=Rows.tellReadsRow.laid) (by rw [← MakeChecks.laidMetH_plain _ _ _ (by kernel_rfl)];exact hL) (by simp [Rows.tellReadsRow]) (by simp [Rows.tellReadsRow]) (by simp [Rows.tellReadsRow]) rfl
  obtain⟨hP,hU,hT⟩:=hTB
  have HP:Hid (Pow w):=hP
  have HU:Hid (Ut w):=hU
  have hAL:Hid (∀ V,Below w.heap.size w V→Calls Tryz.prog 8 #[] V fun e w'=>e=.returned (.bool true)∧Below V.heap.size V w'):=fun V hV=>alive_any8 V (HP.out.carry hV) (HU.out.carry hV)
  clear hP hU hT
  have hrd:=read_any s0 w0
  have hrr:=rRead_any s0 w0
  have hSg:=readR_signs s0
  unfold RdV at hrd
  unfold RdR at hrr
  generalize readR s0=R at hrd hrr hSg
  obtain⟨L,x0,y0⟩:=R
  dsimp only at hrd hrr hSg
  have hB:=scans_any s1
  generalize scR s1=Sc at hB
  have HPR:Hid (∀ V p sl mp,Below w.heap.size w V→Ros p V (.agg #[sl,mp]) L→p≤V.heap.size→Calls Tryz.prog 7 #[.agg #[sl,mp],.string s1] V (RdTR V (readT L Sc))):=fun V p sl mp hV hR hp=>read_any8 hR hp (HU.out.carry hV) hB
  have HDR:Hid (∀ V p v,RosR p V v L→p≤V.heap.size→Calls Tryz.prog 14 #[v,.string s1] V (RdA8 V (readT L Sc))):=fun V p v hR hp=>rread_any hB V hR hp
  cases hq:readT L Sc with
  | error q =>
    obtain⟨q1,q2⟩:=q
    have hq0:¬ q1=0:=readT_ne hB hq
    have hq1:(q1 == 0)=false:=by simpa using hq0
    rw [hq] at HPR HDR
    unfold RdTR at HPR
    unfold RdA8 at HDR
    dsimp only at HPR HDR
    have HSM:Hid (∀ V,Calls Tryz.prog 12 #[.agg zC8,.agg zC8] V fun e w'=>e=.returned (.bool true)∧Below V.heap.size V w'):=fun V=>samen_any 0 0 0 0 (by decide) none none 0 0 [] V (fun h=>absurd rfl h) (fun h=>absurd rfl h) (by simp)
    unfold zC8 at HSM
    clear hq hB hSg
    go_enter Tryz.func4,Tryz.ntmps4
    go_wp2_with (first
      | (go_at_call 12;(with_reducible refine (HSM.out u7).mono ?_);rintro e u8 ⟨rfl,hu8⟩)
      | (go_at_call 8;(with_reducible refine (hAL.out _ hw6s).mono ?_);rintro e u7 ⟨rfl,hu7⟩;(have hw7:=bel3 hw6s hu7);(have g57:=(hu7.block _ (zla g5w)).trans g5w);(have g67:=(hu7.block _ (zla g6s)).trans g6s);(have p0:u7.cell? ⟨u5.heap.size,0,none⟩=some (.int .i64 0):=(zca g57 0).trans rfl);(have p1:u7.cell? ⟨u5.heap.size,1,none⟩=some (.int .i64 0):=(zca g57 1).trans rfl);(have p2:u7.cell? ⟨u5.heap.size,2,none⟩=some (.int .i64 0):=(zca g57 2).trans rfl);(have p3:u7.cell? ⟨u5.heap.size,3,none⟩=some (.int .u32 0):=(zca g57 3).trans rfl);(have p4:u7.cell? ⟨u5.heap.size,4,none⟩=some (.int .u32 0):=(zca g57 4).trans rfl);(have p5:u7.cell? ⟨u5.heap.size,5,none⟩=some (.int .u32 0):=(zca g57 5).trans rfl);(have p6:u7.cell? ⟨u5.heap.size,6,none⟩=some (.int .u32 0):=(zca g57 6).trans rfl);(have p7:u7.cell? ⟨u5.heap.size,7,none⟩=some (.slice none 0 0):=(zca g57 7).trans rfl);(have q0:u7.cell? ⟨u6.heap.size,0,none⟩=some (.int .i64 0):=(zca g67 0).trans rfl);(have q1:u7.cell? ⟨u6.heap.size,1,none⟩=some (.int .i64 0):=(zca g67 1).trans rfl);(have q2:u7.cell? ⟨u6.heap.size,2,none⟩=some (.int .i64 0):=(zca g67 2).trans rfl);(have q3:u7.cell? ⟨u6.heap.size,3,none⟩=some (.int .u32 0):=(zca g67 3).trans rfl);(have q4:u7.cell? ⟨u6.heap.size,4,none⟩=some (.int .u32 0):=(zca g67 4).trans rfl);(have q5:u7.cell? ⟨u6.heap.size,5,none⟩=some (.int .u32 0):=(zca g67 5).trans rfl);(have q6:u7.cell? ⟨u6.heap.size,6,none⟩=some (.int .u32 0):=(zca g67 6).trans rfl);(have q7:u7.cell? ⟨u6.heap.size,7,none⟩=some (.slice none 0 0):=(zca g67 7).trans rfl))
      | (refine wpList_store_row rfl 39 (.tmp 17) (.tmp 48) rfl u6.heap.size zC8 rfl rfl 39 _ g6 info8R rfl (by simp [Value.oneCell']) ?_;rw [hV6s])
      | (go_at_call 9;(with_reducible refine (as_nilT V5s).mono ?_);rintro e u6 ⟨rfl,hu6⟩;obtain⟨V6,hV6⟩:∃ V6,u6.alloc (.cells #[.int .i64 0,.int .i64 0,.int .i64 0,.int .u32 0,.int .u32 0,.int .u32 0,.int .u32 0,.slice none 0 0] 39)=V6:=⟨_,rfl⟩;(have hb6:Below u6.heap.size u6 V6:=by rw [← hV6];exact al1t _ _);(have g6:V6.heap[u6.heap.size]? = some (.cells #[.int .i64 0,.int .i64 0,.int .i64 0,.int .u32 0,.int .u32 0,.int .u32 0,.int .u32 0,.slice none 0 0] 39 (0,0)):=by rw [← hV6];exact zna rfl);(have hw6:=bel3 (bel3 hw5s hu6) hb6);(have g5v:=(hb6.block _ (zla ((hu6.block _ (zla g5s)).trans g5s))).trans ((hu6.block _ (zla g5s)).trans g5s));obtain⟨V6s,hV6s,g6s,hw6s,ho6,hs6⟩:=note_set (ds:=zC8) g6 hw6 (bel3 hw5s hu6).size;(have g5w:=(ho6 u5.heap.size (by have:=zla g5s;have:=hu6.size;omega)).trans g5v);unfold zC8 at hV6s)
      | (refine wpList_store_row rfl 39 (.tmp 14) (.tmp 42) rfl u5.heap.size zC8 rfl rfl 39 _ g5 info8R rfl (by simp [Value.oneCell']) ?_;rw [hV5s])
      | (go_at_call 14;(with_reducible refine (HDR.out u4 u3.heap.size _ hRr4 hle3).mono ?_);rintro e u5 ⟨rfl,hu5⟩;obtain⟨V5,hV5⟩:∃ V5,u5.alloc (.cells #[.int .i64 0,.int .i64 0,.int .i64 0,.int .u32 0,.int .u32 0,.int .u32 0,.int .u32 0,.slice none 0 0] 39)=V5:=⟨_,rfl⟩;(have hb5:Below u5.heap.size u5 V5:=by rw [← hV5];exact al1t _ _);(have g5:V5.heap[u5.heap.size]? = some (.cells #[.int .i64 0,.int .i64 0,.int .i64 0,.int .u32 0,.int .u32 0,.int .u32 0,.int .u32 0,.slice none 0 0] 39 (0,0)):=by rw [← hV5];exact zna rfl);(have hw5:=bel3 (bel3 hw4 hu5) hb5);obtain⟨V5s,hV5s,g5s,hw5s,ho5,hs5⟩:=note_set (ds:=zC8) g5 hw5 (bel3 hw4 hu5).size;unfold zC8 at hV5s)
      | (go_at_call 7;(with_reducible refine (HPR.out V3 u2.heap.size _ _ hw3 hRo3 hle2).mono ?_);rintro e u4 ⟨rfl,hu4⟩;(have g3u:=(hu4.block _ (zla g3)).trans g3);(have c0:u4.cell? ⟨u3.heap.size,0,none⟩=some (.slice ads L.length caps):=(zca g3u 0).trans rfl);(have hRr4:=hRr.below (hu4.mono hb3.size));(have hw4:=bel3 hw3 hu4);(have hle3:u3.heap.size≤u4.heap.size:=Nat.le_trans hb3.size hu4.size))
      | (go_at_call 13;(with_reducible refine (hrr _).mono ?_);rintro e u3 ⟨⟨vr,rfl,hvr⟩,hu3⟩;obtain⟨ads,caps,rfl⟩:=hvr.form;obtain⟨V3,hV3⟩:∃ V3,u3.alloc (.cells #[.slice ads L.length caps] 53)=V3:=⟨_,rfl⟩;(have hb3:Below u3.heap.size u3 V3:=by rw [← hV3];exact al1t _ _);(have g3:V3.heap[u3.heap.size]? = some (.cells #[.slice ads L.length caps] 53 (0,0)):=by rw [← hV3];exact zna rfl);(have g2u:=(hu3.block _ (zla g2)).trans g2);(have g2v:=(hb3.block _ (zla g2u)).trans g2u);(have b0:V3.cell? ⟨u2.heap.size,0,none⟩=some (.slice ad n cap):=(zca g2v 0).trans rfl);(have b1:V3.cell? ⟨u2.heap.size,1,none⟩=some (.map mb):=(zca g2v 1).trans rfl);(have hRo3:=(hRo.below (hu3.mono hb2.size)).below (hb3.mono (Nat.le_trans hb2.size hu3.size)));(have hRr:=hvr.below hb3);(have hw3:=bel3 (bel3 hw2 hu3) hb3);(have hle2:u2.heap.size≤V3.heap.size:=Nat.le_trans hb2.size (Nat.le_trans hu3.size hb3.size)))
      | (go_at_call 6;(with_reducible refine (hrd _).mono ?_);rintro e u2 ⟨⟨v,rfl,hv⟩,hu2⟩;obtain⟨ad,n,cap,mb,rfl⟩:∃ ad n cap mb,v=.agg #[.slice ad n cap,.map mb]:=(by obtain⟨ad,cap,mb,e⟩:=hv.form;exact⟨_,_,_,_,e⟩);obtain⟨V2,hV2⟩:∃ V2,u2.alloc (.cells #[.slice ad n cap,.map mb] 25)=V2:=⟨_,rfl⟩;(have hb2:Below u2.heap.size u2 V2:=by rw [← hV2];exact al1t _ _);(have g2:V2.heap[u2.heap.size]? = some (.cells #[.slice ad n cap,.map mb] 25 (0,0)):=by rw [← hV2];exact zna rfl);(have hRo:=hv.below hb2);(have hw2:=bel3 hu2 hb2)))
    go_ret
    exact⟨rfl,bel3 hw7 hu8⟩
  | ok n =>
    obtain⟨kd,fr,rd,N,ns⟩:=n
    obtain⟨hk1,hk2,hk3,hk4,hN,hl⟩:=readT_ok hSg hB hq
    dsimp only at hk1 hk2 hk3 hk4 hN hl
    rw [hq] at HPR HDR
    unfold RdTR at HPR
    unfold RdA8 at HDR
    dsimp only at HPR HDR
    have hk3:kd=3→(rd:Int)=0:=fun e=>by rw [hk3 e];rfl
    have HSM:Hid (∀ ad ad1 cap cap1 V,RdN V ad ns→RdN V ad1 ns→Calls Tryz.prog 12 #[rnv kd fr rd N (.slice ad ns.length cap),rnv kd fr rd N (.slice ad1 ns.length cap1)] V fun e w'=>e=.returned (.bool true)∧Below V.heap.size V w'):=fun ad ad1 cap cap1 V h h'=>samen_any kd fr rd N hN ad ad1 cap cap1 ns V h h' (by omega)
    have HAS:Hid (∀ ad cap V,Calls Tryz.prog 9 #[noteV kd fr rd N (.slice ad ns.length cap)] V fun e w'=>e=.returned (.tuple #[rnv kd fr rd N (.slice ad ns.length cap),.bool true])∧Below V.heap.size V w'):=fun ad cap V=>as_any kd ⟨hk1,hk2⟩ fr (rd:Int) N hk3 hk4 ad ns.length cap V
    unfold rnv at HSM HAS
    clear hq hB hSg
    go_enter Tryz.func4,Tryz.ntmps4
    go_wp2_with (first
      | (go_at_call 12;(with_reducible refine (HSM.out a4 a5 c4 c5 u7 hrn7 hrn8).mono ?_);rintro e u8 ⟨rfl,hu8⟩)
      | (go_at_call 8;(with_reducible refine (hAL.out _ hw6).mono ?_);rintro e u7 ⟨rfl,hu7⟩;(have hw7:=bel3 hw6 hu7);(have g57:=(hu7.block _ (zla g5v)).trans g5v);(have g67:=(hu7.block _ (zla g6)).trans g6);(have p0:u7.cell? ⟨u5.heap.size,0,none⟩=some (.int .i64 (kd:Int)):=(zca g57 0).trans rfl);(have p1:u7.cell? ⟨u5.heap.size,1,none⟩=some (.int .i64 fr):=(zca g57 1).trans rfl);(have p2:u7.cell? ⟨u5.heap.size,2,none⟩=some (.int .i64 (rd:Int)):=(zca g57 2).trans rfl);(have p3:u7.cell? ⟨u5.heap.size,3,none⟩=some (.int .u32 (wd N 0:Nat)):=(zca g57 3).trans rfl);(have p4:u7.cell? ⟨u5.heap.size,4,none⟩=some (.int .u32 (wd N 1:Nat)):=(zca g57 4).trans rfl);(have p5:u7.cell? ⟨u5.heap.size,5,none⟩=some (.int .u32 (wd N 2:Nat)):=(zca g57 5).trans rfl);(have p6:u7.cell? ⟨u5.heap.size,6,none⟩=some (.int .u32 (wd N 3:Nat)):=(zca g57 6).trans rfl);(have p7:u7.cell? ⟨u5.heap.size,7,none⟩=some (.slice a5 ns.length c5):=(zca g57 7).trans rfl);(have q0:u7.cell? ⟨u6.heap.size,0,none⟩=some (.int .i64 (kd:Int)):=(zca g67 0).trans rfl);(have q1:u7.cell? ⟨u6.heap.size,1,none⟩=some (.int .i64 fr):=(zca g67 1).trans rfl);(have q2:u7.cell? ⟨u6.heap.size,2,none⟩=some (.int .i64 (rd:Int)):=(zca g67 2).trans rfl);(have q3:u7.cell? ⟨u6.heap.size,3,none⟩=some (.int .u32 (wd N 0:Nat)):=(zca g67 3).trans rfl);(have q4:u7.cell? ⟨u6.heap.size,4,none⟩=some (.int .u32 (wd N 1:Nat)):=(zca g67 4).trans rfl);(have q5:u7.cell? ⟨u6.heap.size,5,none⟩=some (.int .u32 (wd N 2:Nat)):=(zca g67 5).trans rfl);(have q6:u7.cell? ⟨u6.heap.size,6,none⟩=some (.int .u32 (wd N 3:Nat)):=(zca g67 6).trans rfl);(have q7:u7.cell? ⟨u6.heap.size,7,none⟩=some (.slice a4 ns.length c4):=(zca g67 7).trans rfl);(have hrn7:=((hrn6.carry hu6).carry hb6).carry hu7);(have hrn8:=((hrn9.carry hu6).carry hb6).carry hu7))
      | (go_at_call 9;(with_reducible refine (HAS.out a4 c4 V5).mono ?_);rintro e u6 ⟨rfl,hu6⟩;obtain⟨V6,hV6⟩:∃ V6,u6.alloc (.cells #[.int .i64 (kd:Int),.int .i64 fr,.int .i64 (rd:Int),.int .u32 (wd N 0:Nat),.int .u32 (wd N 1:Nat),.int .u32 (wd N 2:Nat),.int .u32 (wd N 3:Nat),.slice a4 ns.length c4] 39)=V6:=⟨_,rfl⟩;(have hb6:Below u6.heap.size u6 V6:=by rw [← hV6];exact al1t _ _);(have g6:V6.heap[u6.heap.size]? = some (.cells #[.int .i64 (kd:Int),.int .i64 fr,.int .i64 (rd:Int),.int .u32 (wd N 0:Nat),.int .u32 (wd N 1:Nat),.int .u32 (wd N 2:Nat),.int .u32 (wd N 3:Nat),.slice a4 ns.length c4] 39 (0,0)):=by rw [← hV6];exact zna rfl);(have hw6:=bel3 (bel3 hw5 hu6) hb6);(have g5v:=(hb6.block _ (zla ((hu6.block _ (zla g5)).trans g5))).trans ((hu6.block _ (zla g5)).trans g5)))
      | (go_at_call 14;(with_reducible refine (HDR.out u4 u3.heap.size _ hRr4 hle3).mono ?_);rintro e u5 ⟨a5,c5,rfl,hrn5,hu5⟩;obtain⟨V5,hV5⟩:∃ V5,u5.alloc (.cells #[.int .i64 (kd:Int),.int .i64 fr,.int .i64 (rd:Int),.int .u32 (wd N 0:Nat),.int .u32 (wd N 1:Nat),.int .u32 (wd N 2:Nat),.int .u32 (wd N 3:Nat),.slice a5 ns.length c5] 39)=V5:=⟨_,rfl⟩;(have hb5:Below u5.heap.size u5 V5:=by rw [← hV5];exact al1t _ _);(have g5:V5.heap[u5.heap.size]? = some (.cells #[.int .i64 (kd:Int),.int .i64 fr,.int .i64 (rd:Int),.int .u32 (wd N 0:Nat),.int .u32 (wd N 1:Nat),.int .u32 (wd N 2:Nat),.int .u32 (wd N 3:Nat),.slice a5 ns.length c5] 39 (0,0)):=by rw [← hV5];exact zna rfl);(have hw5:=bel3 (bel3 hw4 hu5) hb5);(have hrn6:=(hrn4.carry hu5).carry hb5);(have hrn9:=hrn5.carry hb5))
      | (go_at_call 7;(with_reducible refine (HPR.out V3 u2.heap.size _ _ hw3 hRo3 hle2).mono ?_);rintro e u4 ⟨v4,rfl,hrow4,hu4⟩;obtain⟨a4,c4,rfl⟩:=row_sliceT hrow4;(have hrn4:=rdn_ownT hrow4);(have g3u:=(hu4.block _ (zla g3)).trans g3);(have c0:u4.cell? ⟨u3.heap.size,0,none⟩=some (.slice ads L.length caps):=(zca g3u 0).trans rfl);(have hRr4:=hRr.below (hu4.mono hb3.size));(have hw4:=bel3 hw3 hu4);(have hle3:u3.heap.size≤u4.heap.size:=Nat.le_trans hb3.size hu4.size))
      | (go_at_call 13;(with_reducible refine (hrr _).mono ?_);rintro e u3 ⟨⟨vr,rfl,hvr⟩,hu3⟩;obtain⟨ads,caps,rfl⟩:=hvr.form;obtain⟨V3,hV3⟩:∃ V3,u3.alloc (.cells #[.slice ads L.length caps] 53)=V3:=⟨_,rfl⟩;(have hb3:Below u3.heap.size u3 V3:=by rw [← hV3];exact al1t _ _);(have g3:V3.heap[u3.heap.size]? = some (.cells #[.slice ads L.length caps] 53 (0,0)):=by rw [← hV3];exact zna rfl);(have g2u:=(hu3.block _ (zla g2)).trans g2);(have g2v:=(hb3.block _ (zla g2u)).trans g2u);(have b0:V3.cell? ⟨u2.heap.size,0,none⟩=some (.slice ad n cap):=(zca g2v 0).trans rfl);(have b1:V3.cell? ⟨u2.heap.size,1,none⟩=some (.map mb):=(zca g2v 1).trans rfl);(have hRo3:=(hRo.below (hu3.mono hb2.size)).below (hb3.mono (Nat.le_trans hb2.size hu3.size)));(have hRr:=hvr.below hb3);(have hw3:=bel3 (bel3 hw2 hu3) hb3);(have hle2:u2.heap.size≤V3.heap.size:=Nat.le_trans hb2.size (Nat.le_trans hu3.size hb3.size)))
      | (go_at_call 6;(with_reducible refine (hrd _).mono ?_);rintro e u2 ⟨⟨v,rfl,hv⟩,hu2⟩;obtain⟨ad,n,cap,mb,rfl⟩:∃ ad n cap mb,v=.agg #[.slice ad n cap,.map mb]:=(by obtain⟨ad,cap,mb,e⟩:=hv.form;exact⟨_,_,_,_,e⟩);obtain⟨V2,hV2⟩:∃ V2,u2.alloc (.cells #[.slice ad n cap,.map mb] 25)=V2:=⟨_,rfl⟩;(have hb2:Below u2.heap.size u2 V2:=by rw [← hV2];exact al1t _ _);(have g2:V2.heap[u2.heap.size]? = some (.cells #[.slice ad n cap,.map mb] 25 (0,0)):=by rw [← hV2];exact zna rfl);(have hRo:=hv.below hb2);(have hw2:=bel3 hu2 hb2)))
    go_ret
    exact⟨rfl,bel3 hw7 hu8⟩

set_option maxRecDepth 100000 in
theorem lifted (os:Os)(started:os.Started)(H:Type)(enc:TypeId × Value→H) :
    ReturnsInHanded {} Tryz.checked os 4 .any (fun w args=>(Rows.tellReadsSpec.pre enc Tryz.prog Tryz.f4 [] false w args∧laidMetH Tryz.prog Rows.tellReadsRow.laid w)∧sizedMet enc Tryz.prog Tryz.f4 (OpenSpec.ofChange Rows.tellReadsSpec) false w args)
      (Rows.tellReadsSpec.post enc Tryz.prog Tryz.f4 false true false false):=by
  refine returnsInHanded_of_change_and (C:=Tryz.checked) (X:=fun w _=>laidMetH Tryz.prog Rows.tellReadsRow.laid w) (fun _ _ _ hh h=>h.of_heap hh) own started (by kernel_rfl) Tryz.func4
    (ChangeSpec.witness_shaped (enc:=enc) (C:=Tryz.checked) (os:=os) (X:=fun w _=>laidMetH Tryz.prog Rows.tellReadsRow.laid w) false (World.laidAll Tryz.prog os Rows.tellReadsRow.laid) #[.string ByteArray.empty,.string ByteArray.empty] 8 (World.laidAll_os _ _ _)
      (World.shaped_of_ZipB (by kernel_rfl) (by kernel_rfl)) (by kernel_rfl) (by kernel_rfl) (by kernel_rfl)
      (by rw [MakeChecks.laidMetH_plain _ _ _ (by kernel_rfl)];exact laidMet_laidAll _ (by kernel_rfl) (by kernel_rfl))) ?_
  intro W base args ds gs before hval0 hW _ hsz hL _
  have hval:∀ (j:Nat) t v,Tryz.f4.params[j]? = some t→args[j]? = some v→Value.okWide Tryz.prog W .any base t v:=hval0
  have hW':=hW
  obtain⟨p,q,hA0,hV,rfl,hfz,hnd⟩:=hW
  have hA:DataW.TrodAll enc Tryz.prog W 0 (fun _=>true) true Tryz.f4.params.toList args.toList ds p:=hA0
  rw [Tryz.params4] at hA hval
  obtain⟨v0,vs0,d0,ds0,p0,q0,hargs,rfl,rfl,h0,r0⟩:=trodAll_cons hA
  obtain⟨v1,vs1,d1,ds1,p1,q1,rfl,rfl,rfl,h1,r1⟩:=trodAll_cons r0
  obtain⟨rfl,rfl,rfl⟩:=trodAll_nil r1
  obtain rfl:args=#[v0,v1]:=by cases args;simp_all
  obtain⟨rfl,rfl⟩:=trodVars_none hV
  obtain⟨s0,rfl,rfl,rfl,w0⟩:=open_string Tryz.underlying9 (hval 0 9 v0 rfl rfl) h0
  obtain⟨s1,rfl,rfl,rfl,w1⟩:=open_string Tryz.underlying9 (hval 1 9 v1 rfl rfl) h1
  clear hA0 hval0
  simp only [List.append_nil] at hW'
  refine (walk s0 w0 s1 w1 W hL).mono fun e W' ⟨he,hg⟩=>?_
  subst he
  exact⟨_,rfl,_,_,_,[],_,[],hW',(trodAll_cons_mk (shut_bool Tryz.underlying4 _) trodAll_mk0),(trodAll_cons_mk (shut_string Tryz.underlying9 w0) (trodAll_cons_mk (shut_string Tryz.underlying9 w1) trodAll_mk0)),rfl,hg.frame _,fun h=>by cases h⟩

theorem over:Rows.tellReadsRow.holds Tryz.pinned (OpenSpec.ofChange Rows.tellReadsSpec) :=
  OpenClaim.holds_of_wide 4 Tryz.f4 rfl rfl rfl rfl rfl rfl rfl ⟨rfl,rfl,rfl,rfl,rfl⟩ rfl rfl rfl rfl rfl (by kernel_rfl) Tryz.func4 (by kernel_rfl)
    (of_decide_eq_true (by kernel_rfl)) (by unfold Func.isWrapper;first | (rw [if_pos (by decide +kernel)];kernel_rfl) | (rw [if_neg (by decide +kernel)];exact⟨rfl,rfl⟩))
    (fun os started H enc _=>lifted os started H enc)

theorem row_proved:Rows.TellReadsSaid :=
  over
theorem proved:Rows.TellReadsCardSaid :=
  Claim7.holds_tied_plain_at .later [] [.data,.data,.data,.data,.pinned] true (true, "2dde5e618d5576d52211e791b676e7f6a37e0a0809c2c81d43f5c5d12d406039") true
    row_proved (fun _ h=>by cases h) (by kernel_rfl) (fun _ h=>by cases h) tellReads_row_tie rfl ⟨rfl,rfl⟩ (by kernel_rfl) rfl
    (fun f fn hf hfn=>by
      obtain rfl:f=4:=Option.some.inj ((show Tryz.prog.funcNamed "earshot/earshotlaw8.TellReads"=some 4 by kernel_rfl).symm.trans hf) |>.symm
      obtain rfl:fn=Tryz.f4:=(Option.some.inj (Tryz.func4.symm.trans hfn)).symm
      exact⟨by kernel_rfl,fun j t ht=>by
        rw [Tryz.params4] at ht
        rcases j with _ | j
        · have e:t=9:=by simpa using ht.symm
          subst e
          exact (show Tryz.prog.wantsStandIn 9=false by kernel_rfl)
        rcases j with _ | j
        · have e:t=9:=by simpa using ht.symm
          subst e
          exact (show Tryz.prog.wantsStandIn 9=false by kernel_rfl)
        simp at ht⟩)
    (by kernel_rfl)
#print axioms proved
end Go.Proofs.YtmahamdmapbilaaGreatDoor
