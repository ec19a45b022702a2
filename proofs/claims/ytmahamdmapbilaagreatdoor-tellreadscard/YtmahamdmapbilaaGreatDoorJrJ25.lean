import Derived.Test.YtmahamdmapbilaaGreatDoorJrJ21
import Derived.Test.YtmahamdmapbilaaGreatDoorJrJ14
import Derived.Test.YtmahamdmapbilaaGreatDoorJrJ24
import Derived.Test.YtmahamdmapbilaaGreatDoorJrJ3
import Derived.Test.YtmahamdmapbilaaGreatDoorJrJ7
import Derived.Test.YtmahamdmapbilaaGreatDoorJrJ17
import Derived.Test.YtmahamdmapbilaaGreatDoorJrJ10
set_option maxHeartbeats 40000000
set_option maxRecDepth 100000
set_option linter.unusedVariables false
namespace Go.Proofs.YtmahamdmapbilaaGreatDoor
open Go.RowKit Go.Shelf Go.Lib
attribute [local go_sem] Oper.semAt_some
theorem load_rosQ {W:World}{B:Nat}{u v:Value}(h:W.heap[B]? = some (.cells #[u,v] 25 (0,0))):(Instr.loadAt 25 (.pointer (some ⟨B,0,none⟩))).run Tryz.prog W=.ok (.agg #[u,v]) W:=by
 have c0:=zca h 0
 have c1:=zca h 1
 go_simp
end Go.Proofs.YtmahamdmapbilaaGreatDoor
namespace Go.Proofs.YtmahamdmapbilaaGreatDoor
open Go.RowKit Go.Shelf Go.Lib
def tlT (L:List Int)(kd:Nat)(fr rd:Int)(N:Nat)(ns:List N3t):ByteArray:=if flt kd (L.length:Int) fr rd N ns=0 then txt (pcR (noteP L kd fr rd.toNat N ns)) else ⟨#[]⟩
def TlO (L:List Int)(kd:Nat)(fr rd:Int)(N:Nat)(ns:List N3t)(w:World)(e:Ending)(w':World):Prop:=e=.returned (.tuple #[.string (tlT L kd fr rd N ns),.int .i64 (flt kd (L.length:Int) fr rd N ns)])∧Below w.heap.size w w'
theorem join_two (x y:ByteArray)(r:List ByteArray):(jnB (x :: y :: r)).data.toList=x.data.toList ++ (32 :: (jnB (y :: r)).data.toList):=by
 unfold jnB
 rw [List.map_cons,List.map_cons,Lib.join_cons,Lib.join_cons,Lib.joinTail,List.map_cons,List.flatten_cons,Lib.joinTail]
 try simp
theorem join_last (x:ByteArray):(jnB [x]).data.toList=x.data.toList:=by
 unfold jnB
 rw [List.map_cons,List.map_nil,Lib.join_one]
theorem wr_wd (b:ByteArray)(h:∀ x∈b.data.toList,x.toNat<128):wr (wordP b).2=b.data.toList:=wr_asc _ h
theorem wr_bl:wr [32]=[32]:=by kernel_rfl
theorem told_u (L:List Int)(fr:Nat)(rd:Int)(N:Nat)(ns:List N3t):jnB ([⟨#[114,117,109,111,114]⟩,txt [L.getD fr 0]] ++ [] ++ [nwT L ns])=txt (pcR (noteP L 3 (fr:Int) rd.toNat N ns)):=by
 apply ByteArray.ext
 apply Array.toList_inj.1
 show (jnB [_,_,_]).data.toList=_
 rw [join_two,join_two,join_last,txt_data]
 have e:noteP L 3 (fr:Int) rd.toNat N ns=wordP ⟨#[114,117,109,111,114]⟩ :: blP :: sgP (L.getD fr 0) :: blP :: newsP L ns:=by unfold noteP;rw [if_neg (by decide),if_neg (by decide),Int.toNat_natCast]
 rw [e]
 have e2:pcR (wordP ⟨#[114,117,109,111,114]⟩ :: blP :: sgP (L.getD fr 0) :: blP :: newsP L ns)=(wordP ⟨#[114,117,109,111,114]⟩).2 ++ ([32] ++ ([L.getD fr 0] ++ ([32] ++ pcR (newsP L ns)))):=rfl
 rw [e2,txt_data,wr_append,wr_append,wr_append,wr_append,wr_wd _ (by decide),wr_bl]
 unfold nwT
 simp only [txt_data]
 simp
theorem ris_v {L:List Int}:∀ (ns:List N3t) (a:Int),ris (L.length:Int) a ns=true→∀ x∈ns,vN L x
 | [],_,_,x,hx=>by cases hx
 | y :: ns,a,h,x,hx=>by
  unfold ris at h
  simp only [Bool.and_eq_true,decide_eq_true_eq] at h
  rcases List.mem_cons.1 hx with e | hx
  · rw [e];exact h.1
  · exact ris_v ns _ h.2.2 x hx
theorem ris_r {L:List Int}:∀ (ns:List N3t) (a:Int),ris (L.length:Int) a ns=true→∀ k (x y:N3t),ns[k]? = some x→ns[k+1]? = some y→x.1<y.1
 | [],_,_,k,x,y,hx,_=>by simp at hx
 | z :: ns,a,h,0,x,y,hx,hy=>by
  unfold ris at h
  simp only [Bool.and_eq_true,decide_eq_true_eq] at h
  simp at hx hy
  subst hx
  cases ns with
  | nil=>simp at hy
  | cons u ns =>
   have h2:=h.2.2
   unfold ris at h2
   simp only [Bool.and_eq_true,decide_eq_true_eq] at h2
   simp at hy
   subst hy
   exact h2.2.1
 | z :: ns,a,h,k+1,x,y,hx,hy=>by
  unfold ris at h
  simp only [Bool.and_eq_true,decide_eq_true_eq] at h
  simp at hx hy
  exact ris_r ns _ h.2.2 k x y hx hy
theorem nsV_of {L:List Int}{ns:List N3t}{a:Int}(h:ris (L.length:Int) a ns=true)(hn:ns.length≤1000):NsV L ns:=⟨ris_v ns a h,ris_r ns a h,hn⟩
theorem ntm_q {w:World}(n fr rd:Int)(ad:Option Addr)(cap:Nat)(ns:List N3t)(h:RdN w ad ns)(hl:ns.length≤1000):NtM w 92 (.agg #[.int .i64 fr,.int .i64 rd,.slice ad ns.length cap]) 282 285 284 n 1 fr rd 0 ns :=
 ⟨fun a w=>cmQ_Bytes _ _ w,fun w=>naQ _ w,fun w=>cmQ_Sender _ w,fun w=>cmQ_Notices _ w,fun V hb=>qbytes_any n fr rd ad cap ns V (h.carry hb) (by omega),fun V=>senderQ_any fr rd ad ns.length cap V,fun V hb=>noticesQ_any fr rd ad cap ns V (h.carry hb) (by omega)⟩
theorem ntm_u {w:World}(n fr rd:Int)(hrd:rd=0)(ad:Option Addr)(cap:Nat)(ns:List N3t)(h:RdN w ad ns)(hl:ns.length≤1000):NtM w 90 (.agg #[.int .i64 fr,.slice ad ns.length cap]) 265 268 267 n 3 fr rd 0 ns:=by
 subst hrd
 exact⟨fun a w=>cmU_Bytes _ _ w,fun w=>naU _ w,fun w=>cmU_Sender _ w,fun w=>cmU_Notices _ w,fun V hb=>ubytes_any n fr ad cap ns V (h.carry hb) (by omega),fun V=>senderU_any fr ad ns.length cap V,fun V hb=>noticesU_any fr ad cap ns V (h.carry hb) (by omega)⟩
theorem line_any {M:Nat}{sl mp:Value}{L:List Int}{w:World}(hR:Ros M w (.agg #[sl,mp]) L)(hM:M≤w.heap.size)(hP:Pow w){T:TypeId}{X:Value}{FB FS FN:FuncId}{kd:Nat}{fr rd:Int}{N:Nat}{ns:List N3t}(hX:NtM w T X FB FS FN (L.length:Int) kd fr rd N ns)(hn1:ns.length≤1000)(first:ByteArray)(xs:List ByteArray)(adb:Option Addr)(cb:Nat)(hxs:RdX w adb xs)(hx2:xs.length≤2)(hx0:xs=[]→adb=none∧cb=0)(htx:∀ f:Nat,fr=f→(kd=3∨0≤rd)→wthB N L.length=true→jnB ([first,txt [L.getD f 0]] ++ xs ++ [nwT L ns])=txt (pcR (noteP L kd fr rd.toNat N ns)))(hrd:kd=3→rd=0):Calls Tryz.prog 101 #[.agg #[sl,mp],.iface T X,.string first,.slice adb xs.length cb] w (TlO L kd fr rd N ns w):=by
 by_cases hf:flt kd (L.length:Int) fr rd N ns=0
 · obtain⟨h1,h2,h3,h4,h5⟩:=flt_0 hf
   obtain⟨f,rfl⟩:=Int.eq_ofNat_of_zero_le h2.1
   have hV:=nsV_of h5 hn1
   have hr0:kd=3∨0≤rd:=by rcases h3 with h | h;exact .inl h;exact .inr (by omega)
   have ht:=htx f rfl hr0 h4
   have hrb:rd.toNat≤1099511627775:=by
    rcases h3 with h | h
    · rw [hrd h];decide
    · omega
   have hs:=note_short (kd:=kd) (fr:=(f:Int)) (N:=N) hrb hV.v hn1
   refine (line_ok hR hM hP hX hf (by omega) hV.v hn1 first xs adb cb hxs hx2 hx0 (by rw [ht];omega)).mono ?_
   rintro e w' ⟨rfl,hb⟩
   refine⟨?_,hb⟩
   unfold tlT
   rw [ht,if_pos hf,hf]
 · refine (line_no hR hM hX hf first (.slice adb xs.length cb)).mono ?_
   rintro e w' ⟨rfl,hb⟩
   refine⟨?_,hb⟩
   unfold tlT
   rw [if_neg hf]
theorem TlO.form {L:List Int}{kd:Nat}{fr rd:Int}{N:Nat}{ns:List N3t}{W:World}{e:Ending}{w':World}{TT:ByteArray}{E:Int}(hT:tlT L kd fr rd N ns=TT)(hE:flt kd (L.length:Int) fr rd N ns=E)(h:TlO L kd fr rd N ns W e w'):e=.returned (.tuple #[.string TT,.int .i64 E])∧Below W.heap.size W w':=by
 obtain⟨h1,h2⟩:=h
 rw [hT,hE] at h1
 exact⟨h1,h2⟩
theorem trumor_any {M:Nat}{sl mp:Value}{L:List Int}{w:World}(hR:Ros M w (.agg #[sl,mp]) L)(hM:M≤w.heap.size)(hP:Pow w)(fr:Int)(ad:Option Addr)(cap:Nat)(ns:List N3t)(h:RdN w ad ns)(hl:ns.length≤1000):Calls Tryz.prog 24 #[.agg #[sl,mp],.agg #[.int .i64 fr,.slice ad ns.length cap]] w (TlO L 3 fr 0 0 ns w):=by
 have hmx:=mixO
 obtain⟨TT,hTT⟩:∃ TT,tlT L 3 fr 0 0 ns=TT:=⟨_,rfl⟩
 obtain⟨E,hE⟩:∃ E,flt 3 (L.length:Int) fr 0 0 ns=E:=⟨_,rfl⟩
 obtain⟨W1,hW1⟩:∃ W1,w.alloc (.cells #[sl,mp] 25)=W1:=⟨_,rfl⟩
 have hb1:Below w.heap.size w W1:=by rw [← hW1];exact al1t _ _
 have z1:W1.heap.size=w.heap.size+1:=by rw [← hW1];simp
 have r1:W1.heap[w.heap.size]? = some (.cells #[sl,mp] 25 (0,0)):=by rw [← hW1];exact zna rfl
 obtain⟨W2,hW2⟩:∃ W2,W1.alloc (.cells #[.int .i64 fr,.slice ad ns.length cap] 90)=W2:=⟨_,rfl⟩
 have hb2:Below W1.heap.size W1 W2:=by rw [← hW2];exact al1t _ _
 have r2:W2.heap[w.heap.size+1]? = some (.cells #[.int .i64 fr,.slice ad ns.length cap] 90 (0,0)):=by rw [← hW2];exact zna z1.symm
 have hb02:=bel3 hb1 hb2
 have r12:=(hb2.block _ (zla r1)).trans r1
 have HLN:Hid (∀ V,Below w.heap.size w V→Calls Tryz.prog 101 #[.agg #[sl,mp],.iface 90 (.agg #[.int .i64 fr,.slice ad ns.length cap]),.string ⟨#[114,117,109,111,114]⟩,.slice none 0 0] V fun e w'=>e=.returned (.tuple #[.string TT,.int .i64 E])∧Below V.heap.size V w'):=fun V hV =>
  (line_any (hR.below (hV.mono hM)) (Nat.le_trans hM hV.size) (hP.carry hV) (ntm_u (L.length:Int) fr 0 rfl ad cap ns (h.carry hV) hl) hl ⟨#[114,117,109,111,114]⟩ [] none 0 (fun e=>absurd rfl e) (by simp) (fun _=>⟨rfl,rfl⟩) (fun f e hr hw=>by
   subst e
   exact told_u L f 0 0 ns) (fun _=>rfl)).mono (fun _ _ q=>q.form hTT hE)
 have HF:Hid (∀ V:World,Below w.heap.size w V→TlO L 3 fr 0 0 ns w (.returned (.tuple #[.string TT,.int .i64 E])) V):=fun V hV=>⟨by rw [hTT,hE],hV⟩
 have c0:W2.cell? ⟨w.heap.size,0,none⟩=some sl:=(zca r12 0).trans rfl
 have c1:W2.cell? ⟨w.heap.size,1,none⟩=some mp:=(zca r12 1).trans rfl
 have d0:W2.cell? ⟨w.heap.size+1,0,none⟩=some (.int .i64 fr):=(zca r2 0).trans rfl
 have d1:W2.cell? ⟨w.heap.size+1,1,none⟩=some (.slice ad ns.length cap):=(zca r2 1).trans rfl
 clear hR hP h hTT hE r1 r2 r12 hb1 hb2 hl
 have q1:W1.heap.size=w.heap.size+1:=z1
 go_enter Tryz.func24,Tryz.ntmps24
 go_wp2_with (go_at_call 101;(with_reducible refine (HLN.out _ hb02).mono ?_);rintro e u ⟨rfl,hu⟩)
 go_ret2
 exact HF.out _ (bel3 hb02 hu)
end Go.Proofs.YtmahamdmapbilaaGreatDoor
namespace Go.Proofs.YtmahamdmapbilaaGreatDoor
open Go.RowKit Go.Shelf
theorem idx_n (gb off n cap i:Nat)(h:i<n)(W:World):(Instr.indexAt 37 (.slice (some ⟨gb,off,none⟩) n cap) (.int .i64 (i:Int))).run Tryz.prog W=.ok (.pointer (some ⟨gb,off+i*3,none⟩)) W:=by
 have h1:(i:Int)<(n:Int):=by omega
 have h2:0≤(i:Int):=by omega
 go_simp
theorem load_at {W:World}{b off:Nat}{l:List (Int × Int × Int)}(h:NtsAt W b off l){k:Nat}{o t q:Int}(hx:l[k]? = some (o,t,q)):(Instr.loadAt 124 (.pointer (some ⟨b,off+k*3,none⟩))).run Tryz.prog W=.ok (nt o t q) W:=by
 obtain⟨c0,c1,c2⟩:=h k _ hx
 unfold nt
 go_simp
theorem un_notQ {P:Program}(a:Bool)(w:World):(Op.unary .not (.bool a)).run P w=.ok (.bool (!a)) w:=by
 cases a <;> simp [go_sem]
structure JI (w:World)(b off:Nat)(l:List (Int × Int × Int))(c of:Nat)(m:List (Int × Int × Int))(W:World):Prop where
 lt:b<W.heap.size
 at':NtsAt W b off l
 lt2:c<W.heap.size
 at2:NtsAt W c of m
 below:Below w.heap.size w W
theorem NtsAt.carry {W W':World}{b off:Nat}{l:List (Int × Int × Int)}(h:NtsAt W b off l)(hl:b<W.heap.size)(hb:Below W.heap.size W W'):NtsAt W' b off l:=fun k x hk=>by
 obtain⟨c0,c1,c2⟩:=h k x hk
 exact⟨(hb.cell (p:=⟨b,_,none⟩) hl).trans c0,(hb.cell (p:=⟨b,_,none⟩) hl).trans c1,(hb.cell (p:=⟨b,_,none⟩) hl).trans c2⟩
theorem JI.carry {w:World}{b off c of:Nat}{l m:List (Int × Int × Int)}{W W':World}(h:JI w b off l c of m W)(hb:Below W.heap.size W W'):JI w b off l c of m W' :=
 ⟨Nat.lt_of_lt_of_le h.lt hb.size,h.at'.carry h.lt hb,Nat.lt_of_lt_of_le h.lt2 hb.size,h.at2.carry h.lt2 hb,bel2 h.below hb⟩
theorem same_any (ad ad2:Option Addr)(cap cap2:Nat)(l:List (Int × Int × Int))(w:World)(h:RdN w ad l)(h2:RdN w ad2 l)(hl:l.length≤6000000000000):Calls Tryz.prog 32 #[.slice ad l.length cap,.slice ad2 l.length cap2] w fun e w'=>e=.returned (.bool true)∧Below w.heap.size w w':=by
 have hmx:=mixO
 go_enter Tryz.func32,Tryz.ntmps32
 go_wp2
 go_loopw [5] (fun i wz=>∃ (k:Nat),i=.int .i64 k∧k≤l.length∧Below w.heap.size w wz) (fun i _=>l.length-vnatR i)
 case atStart=>exact⟨0,rfl,Nat.zero_le _,Below.refl _ _⟩
 case round =>
  obtain⟨k,rfl,hk,hbw⟩:=hrel
  by_cases hkl:k<l.length
  · have hne:l≠[]:=fun e=>by subst e;simp at hkl
    obtain⟨b,off,e1,hbl,hat⟩:=h.carry hbw hne
    obtain⟨c,of,e2,hcl,hat2⟩:=h2.carry hbw hne
    subst e1 e2
    have hj:JI w b off l c of l wr:=⟨hbl,hat,hcl,hat2,hbw⟩
    obtain⟨⟨o,t,q⟩,hx⟩:∃ x,l[k]? = some x:=⟨_,List.getElem?_eq_getElem hkl⟩
    have hki:(k:Int)<(l.length:Int):=by omega
    clear hat hat2
    go_wp2
    rename_i Q0 K0 hK
    refine wp_region_any hmx ?_
    refine zwp (fun i__=>([(.slice (some ⟨b,off,none⟩) l.length cap),(.int .i64 (k:Int)),(.pointer (some ⟨b,off+k*3,none⟩)),(nt o t q),(.slice (some ⟨c,of,none⟩) l.length cap2),(.int .i64 (k:Int)),(.pointer (some ⟨c,of+k*3,none⟩)),(nt o t q),(.bool true),(.bool false)]:List Value).getD i__ undef) (fun W=>JI w b off l c of l W) (by kernel_rfl) (hj.carry (Below.refl _ _).drew) ?_ ?_
    · refine (sqc ?_ (sqc ?_ (sqc ?_ (sqc ?_ (sqc ?_ (sqc ?_ (sqc ?_ (sqc ?_ (sqc ?_ (sqc ?_ trivial))))))))))
      · exact zmv rfl trivial _ rfl (by kernel_rfl)
      · exact zmv rfl trivial _ rfl (by kernel_rfl)
      · exact zia rfl trivial _ _ _ _ _ rfl rfl rfl (fun w hw=>idx_n b off l.length cap k hkl w)
      · exact zld rfl trivial _ _ _ rfl rfl (fun w hw=>load_at hw.at' hx)
      · exact zmv rfl trivial _ rfl (by kernel_rfl)
      · exact zmv rfl trivial _ rfl (by kernel_rfl)
      · exact zia rfl trivial _ _ _ _ _ rfl rfl rfl (fun w hw=>idx_n c of l.length cap2 k hkl w)
      · exact zld rfl trivial _ _ _ rfl rfl (fun w hw=>load_at hw.at2 hx)
      · exact zbo rfl trivial _ _ _ _ _ _ _ rfl rfl rfl (fun w hw=>(bin_eqn _ _ _ _ _ _).trans (by simp))
      · exact step_unOp rfl trivial _ _ _ _ rfl rfl (fun w hw=>un_notQ _ w)
    intro W hW
    first | refine hK _ _ ?_ | refine (‹∀ (a:Act) (w:World),Code.wp Tryz.prog _ _ a w→_›) _ _ ?_ | skip
    simp only [finL,List.getD_cons_zero,List.getD_cons_succ,Nat.zero_add,Nat.reduceAdd,List.setIfInBounds_toArray,List.set_cons_zero,List.set_cons_succ]
    clear hK
    go_wp2
    go_roundw
    case rel=>exact⟨k+1,by simp,by omega,hW.below⟩
    case measure=>simp [vnatR];omega
  · have hkk:k=l.length:=by omega
    subst hkk
    go_wp2
    go_ret
    exact⟨rfl,hbw⟩
end Go.Proofs.YtmahamdmapbilaaGreatDoor
