import Derived.Test.YtmahamdmapbilaaGreatDoorJrJ32
import Derived.Test.YtmahamdmapbilaaGreatDoorJrJ34
import Derived.Test.YtmahamdmapbilaaGreatDoorJrJ16
set_option maxHeartbeats 40000000
set_option maxRecDepth 100000
set_option linter.unusedVariables false
namespace Go.Proofs.YtmahamdmapbilaaGreatDoor
open Go.RowKit Go.Shelf Go.Lib
theorem numAt_leT (s:ByteArray):∀ (f p v u:Nat),v≤1099511627776→numAt s f p v=some u→u≤1099511627776
 | 0,p,v,u,hv,h=>by
  by_cases hp:p<s.size
  · unfold numAt at h
    simp at h
    omega
  · rw [numAt_end s 0 p v hp] at h
    cases h
    exact hv
 | f+1,p,v,u,hv,h=>by
  by_cases hp:p<s.size
  · by_cases hd:48≤byt s p∧byt s p≤57
    · by_cases hg:1099511627776<v*10+(byt s p-48)
      · rw [numAt_great s f p v hp hd hg] at h
        cases h
      · rw [numAt_on s f p v hp hd hg] at h
        exact numAt_leT s f _ _ u (by omega) h
    · rw [numAt_no s f p v hp hd] at h
      cases h
  · rw [numAt_end s (f+1) p v hp] at h
    cases h
    exact hv
theorem numR_leT {s:ByteArray}{u:Nat}(h:numR s=some u):u≤1099511627776:=by
 unfold numR at h
 split at h
 · cases h
 · exact numAt_leT s _ _ _ u (by decide) h
theorem numR_size {s:ByteArray}{u:Nat}(h:numR s=some u):0<s.size∧s.size≤20:=by
 have hu:=numR_leT h
 have h1:=num_canon h
 have h2:s.size=(decDigits u).length:=by rw [← h1];rfl
 have h3:=decDigits_length u
 have h4:=nDigits_le20 u (by omega)
 have h5:=nDigits_pos u
 omega
structure WdsT (l:List Tk4):Prop where
 kn:Wk4 l
 sz:Shw6 l
 num:∀ i,(hereT l i).1=3→∃ v,numR (hereT l i).2.1=some v
 fst:∀ i,kdW (hereT l i).2.1≠0→(hereT l i).1=2
 sgn:∀ i,oneS (hereT l i)=true→looseB (hereT l i).2.1 0=false
theorem one_wdt {x:ByteArray}(h:((starts x).length:Int)=1):wdt x 0=x.size:=by
 have hp:=pos_of_one h
 have hle:=wdt_le x 0 hp
 obtain⟨f,hf⟩:∃ f,x.size=f+1:=⟨x.size-1,by omega⟩
 unfold starts at h
 rw [hf,startsFrom_step x f 0 hp,List.length_cons,Nat.zero_add] at h
 rcases Nat.lt_or_ge (wdt x 0) x.size with q | q
 · exfalso
   have hw:=wdt_pos x 0
   obtain⟨g,rfl⟩:∃ g,f=g+1:=⟨f-1,by omega⟩
   rw [startsFrom_step x g _ q,List.length_cons] at h
   omega
 · omega
theorem rdP_nt {L:List Int}(hS:Signs L){x y z:ByteArray}{c u:Nat}(hx:((starts x).length:Int)=1)(hlo:looseB x 0=false)(hin:((rn x 0:Nat):Int)∈L)(hy:y=⟨#[UInt8.ofNat c]⟩)(hc:c=63∨c=33)(hz:numR z=some u):rdP L (x ++ y ++ z)=if 1048576<u then (0,0,0,80) else (((L.idxOf ((rn x 0:Nat):Int):Nat):Int),(u:Int),if c=63 then 2 else 1,0):=by
 have hp:=pos_of_one hx
 have hw:=one_wdt hx
 have hw4:=wdt_le4 x 0
 obtain⟨z0,z1⟩:=numR_size hz
 rw [rd_eq hS]
 obtain⟨s,hs⟩:∃ s,x ++ y ++ z=s:=⟨_,rfl⟩
 have hs2:s=x ++ (y ++ z):=by rw [← hs,ByteArray.append_assoc]
 have hys:y.size=1:=by rw [hy];rfl
 have hss:s.size=x.size+1+z.size:=by rw [← hs,ByteArray.size_append,ByteArray.size_append,hys]
 have hfull:s.extract 0 s.size=s:=by
  apply ByteArray.ext
  simp
 obtain⟨a1,a2,a3,a4⟩:=rest_app s x (y ++ z) 0 (Nat.zero_le _) (by rw [hfull];exact hs2)
 rw [Nat.zero_add] at a1 a3 a4
 obtain⟨b1,b2,b3,b4⟩:=rest_app s y z x.size (by omega) a3
 have hb:=b2 0 (by omega)
 rw [Nat.add_zero] at hb
 have hyb:byt y 0=c:=by
  rw [hy]
  rcases hc with rfl | rfl <;> rfl
 rw [hyb] at hb
 rw [hys] at b3
 have hdl:=dec_line s 0 x.size 0 (by omega) hp (.inr (by rw [Nat.zero_add,hb];rcases hc with rfl | rfl <;> decide))
 rw [Nat.zero_add,a4,Nat.add_zero] at hdl
 have e1:rn s 0=rn x 0:=by unfold rn;rw [hdl]
 have e2:wdt s 0=wdt x 0:=by unfold wdt;rw [hdl]
 have e3:looseB s 0=looseB x 0:=by unfold looseB;rw [e1,e2]
 rw [hs,rdD,if_neg (by omega),if_neg (by
  rw [e1,e2,e3,hlo,hw]
  rintro (q | q | q | q | ⟨q,q2⟩)
  · omega
  · cases q
  · exact q hin
  · omega
  · rcases hc with rfl | rfl <;> omega),e2,hw,b3,hz,e1,hb]
theorem mkD_text {y:Tk4}{b:UInt8}(h:mkD y ⟨#[b]⟩=true):y.2.1=⟨#[b]⟩:=by
 unfold mkD at h
 rw [Bool.and_eq_true] at h
 have h2:y.2.1.toList=(⟨#[b]⟩:ByteArray).toList:=by simpa using h.2
 have e:∀ a:ByteArray,a.toList=a.data.toList:=fun a=>by simp [ByteArray.toList_eq]
 exact ByteArray.ext (Array.ext' (by rw [← e,h2,e]))
theorem nte_eq {L:List Int}(hS:Signs L){l:List Tk4}(hW:WdsT l){i:Nat}(ho:oneS (hereT l i)=true)(hin:((rn (hereT l i).2.1 0:Nat):Int)∈L):nteT L l i=nteD l i ((L.idxOf ((rn (hereT l i).2.1 0:Nat):Int):Nat):Int):=by
 have hx:=(oneS_k ho).2
 have hlo:=hW.sgn i ho
 unfold nteT nteD
 by_cases hm:mrkB (hereT l (i+1))=true
 case neg=>rw [if_neg hm,if_neg hm]
 rw [if_pos hm,if_pos hm]
 by_cases h3:(hereT l (i+2)).1=3
 case neg=>rw [if_neg h3,if_neg (show ¬ (hereT l (i+1+1)).1=3 from h3)]
 rw [if_pos h3,if_pos (show (hereT l (i+1+1)).1=3 from h3)]
 obtain⟨u,hu⟩:=hW.num (i+2) h3
 have hu2:(numR (hereT l (i+1+1)).2.1).getD 0=u:=by
   show (numR (hereT l (i+2)).2.1).getD 0=u
   rw [hu]
   rfl
 rw [hu2]
 unfold ntS
 rcases mrk_two hm with h | ⟨h,h'⟩
 · rw [rdP_nt (c:=63) hS hx hlo hin (mkD_text h) (.inl rfl) hu,if_pos h]
   by_cases hb:1048576<u
   · rw [if_pos hb,if_pos hb]
     rfl
   · rw [if_neg hb,if_neg hb]
     rfl
 · rw [rdP_nt (c:=33) hS hx hlo hin (mkD_text h') (.inr rfl) hu]
   by_cases hb:1048576<u
   · rw [if_pos hb,if_pos hb]
     rfl
   · rw [if_neg hb,if_neg hb,show (if mkD (hereT l (i+1)) ⟨#[63]⟩=true then (2:Int) else 1)=1 from if_neg (by rw [h];decide)]
     rfl
theorem mkD_end (x:Tk4):mkD x ⟨#[93]⟩=endB x:=by
 unfold mkD endB
 rw [show (⟨#[93]⟩:ByteArray).toList=[93] by kernel_rfl]
theorem mkD_beg (x:Tk4):mkD x ⟨#[91]⟩=begB x:=by
 unfold mkD begB
 rw [show (⟨#[91]⟩:ByteArray).toList=[91] by kernel_rfl]
theorem st_eq {L:List Int}(hS:Signs L){l:List Tk4}(hW:WdsT l)(i:Nat)(ns:List N3t)(he:endB (hereT l i)=false):stT L l i (lstO ns)=match stD L l i ns with | .error q=>.error q | .ok n=>.ok (some n):=by
 unfold stD
 by_cases ho:oneS (hereT l i)=true
 · rw [if_pos ho]
   by_cases hin:((rn (hereT l i).2.1 0:Nat):Int)∈L
   · rw [sgI,if_pos hin]
     dsimp only
     by_cases hlo:((L.idxOf ((rn (hereT l i).2.1 0:Nat):Int):Nat):Int)≤lstO ns
     · rw [st_low he ho hin hlo,if_pos hlo]
     · rw [st_nt he ho hin hlo,if_neg hlo,nte_eq hS hW ho hin]
       cases nteD l i ((L.idxOf ((rn (hereT l i).2.1 0:Nat):Int):Nat):Int) <;> rfl
   · rw [st_sign he ho hin,sgI,if_neg hin]
 · rw [if_neg ho,st_no he (by simpa using ho)]
theorem nw_eq {L:List Int}(hS:Signs L){l:List Tk4}(hW:WdsT l):∀ (f i:Nat) (ns:List N3t),nwD L l f i ns=preT ns (nwR L l f i (lstO ns))
 | 0,i,ns=>by rw [nwD,nwR];rfl
 | f+1,i,ns=>by
  rw [nwD,mkD_end]
  cases he:endB (hereT l i) with
  | true =>
   rw [if_pos rfl,nw_end (st_end he)]
   simp [preT]
  | false =>
   rw [if_neg (by decide)]
   have h:=st_eq hS hW i ns he
   cases hd:stD L l i ns with
   | error q =>
    rw [hd] at h
    rw [nw_err h]
    rfl
   | ok n =>
    rw [hd] at h
    dsimp only
    rw [nw_on h,nw_eq hS hW f (i+3) (ns ++ [n]),lst_snoc]
theorem nws_eq {L:List Int}(hS:Signs L){l:List Tk4}(hW:WdsT l)(i:Nat):nwsD L l i=nwsR L l i:=by
 unfold nwsD nwsR
 rw [mkD_beg]
 split
 · rw [nw_eq hS hW,pre_nil]
   rfl
 · rfl
theorem end_eq {l:List Tk4}(hW:WdsT l)(n:Nt5)(j:Nat):endD l n j=if (hereT l j).1=1 then (if (hereT l (j+1)).1=0 then .ok n else .error (80,(hereT l (j+1)).2.2.2)) else .error (80,(hereT l j).2.2.2):=by
 unfold endD
 split
 · by_cases h:j+1<l.length
   · rw [if_pos h,if_neg (hW.kn (j+1) _ (here_some h))]
   · rw [if_neg h,here_none (by omega)]
     rfl
 · rfl
theorem ba_list {t:ByteArray}{a:Array UInt8}:t=⟨a⟩↔t.toList=a.toList:=by
 have e:∀ b:ByteArray,b.toList=b.data.toList:=fun b=>by simp [ByteArray.toList_eq]
 constructor
 · rintro rfl
   rw [e]
 · intro h
   rw [e] at h
   exact ByteArray.ext (Array.ext' h)
theorem kd_eq {x:Tk4}(h:kdW x.2.1≠0→x.1=2):kdW x.2.1=kdD x:=by
 have e:kdW x.2.1=if x.2.1.toList=[113,117,101,114,121] then 1 else if x.2.1.toList=[114,101,112,108,121] then 2 else if x.2.1.toList=[114,117,109,111,114] then 3 else 0:=by
   unfold kdW
   simp only [ba_list]
 by_cases h1:x.1=2
 · rw [kdD,if_pos h1,e]
 · rw [kdD,if_neg h1]
   cases hz:kdW x.2.1 with
   | zero=>rfl
   | succ n=>exact absurd (h (by rw [hz];omega)) h1
theorem rest_eq {L:List Int}(hS:Signs L){l:List Tk4}(hW:WdsT l)(i kd:Nat)(fr:Int)(rd N:Nat):restD L l i kd fr rd N=match nwsR L l i with
  | .error q=>.error q
  | .ok x=>if (hereT l x.2).1=1 then (if (hereT l (x.2+1)).1=0 then .ok (kd,fr,rd,N,x.1) else .error (80,(hereT l (x.2+1)).2.2.2)) else .error (80,(hereT l x.2).2.2.2):=by
 unfold restD
 rw [nws_eq hS hW]
 cases nwsR L l i with
 | error q=>rfl
 | ok x=>exact end_eq hW _ _
theorem rdW_eq {L:List Int}(hS:Signs L){l:List Tk4}(hW:WdsT l):rdWD L l=rdWT L l:=by
 unfold rdWD rdWT bodR
 rw [kd_eq (hW.fst 0)]
 have hle:=kdD_le (hereT l 0)
 rcases (show kdD (hereT l 0)=0∨kdD (hereT l 0)=1∨kdD (hereT l 0)=2∨kdD (hereT l 0)=3 by omega) with h | h | h | h
 · rw [h,if_pos rfl,if_pos rfl]
 · rw [h,if_neg (by decide),if_neg (by decide),if_pos rfl]
   unfold qR
   cases sgR L l 1 with
   | error q=>rfl
   | ok fr =>
    dsimp only
    rw [if_neg (by decide)]
    cases rnR l 2 with
    | error q=>rfl
    | ok rd =>
     dsimp only
     rw [if_pos rfl,rest_eq hS hW]
     cases nwsR L l 3 <;> rfl
 · rw [h,if_neg (by decide),if_neg (by decide),if_neg (by decide),if_pos rfl]
   unfold pR
   cases sgR L l 1 with
   | error q=>rfl
   | ok fr =>
    dsimp only
    rw [if_neg (by decide)]
    cases rnR l 2 with
    | error q=>rfl
    | ok rd =>
     dsimp only
     rw [if_neg (by decide)]
     cases hdR L l 3 with
     | error q=>rfl
     | ok N =>
      dsimp only
      rw [rest_eq hS hW]
      cases nwsR L l 4 <;> rfl
 · rw [h,if_neg (by decide),if_neg (by decide),if_neg (by decide),if_neg (by decide)]
   unfold uR
   cases sgR L l 1 with
   | error q=>rfl
   | ok fr =>
    dsimp only
    rw [if_pos rfl,rest_eq hS hW]
    cases nwsR L l 2 <;> rfl
def spT (x:ByteArray):ByteArray:=x ++ ⟨#[32]⟩
theorem sp_size (x:ByteArray):(spT x).size=x.size+1:=by
 unfold spT
 rw [ByteArray.size_append]
 rfl
theorem sp_pre (x:ByteArray):(spT x).extract 0 (0+x.size)=x:=by
 rw [Nat.zero_add]
 exact ByteArray.extract_append_eq_left rfl
theorem sp_last (x:ByteArray):byt (spT x) (0+x.size)=32:=by
 have hfull:(spT x).extract 0 (spT x).size=spT x:=by
  apply ByteArray.ext
  simp
 obtain⟨a1,a2,a3,a4⟩:=rest_app (spT x) x ⟨#[32]⟩ 0 (Nat.zero_le _) (by rw [hfull];rfl)
 obtain⟨b1,b2,b3,b4⟩:=rest_app (spT x) ⟨#[32]⟩ ByteArray.empty (0+x.size) a1 (by rw [a3,ByteArray.append_empty])
 exact b2 0 (by decide)
theorem wrd_nx {N:Nat}{k:Int}{x:ByteArray}(h:Wrd N k x):(((nxD (spT x) 0 (LE (spT x) 1)).1:Nat):Int)=k∧(nxD (spT x) 0 (LE (spT x) 1)).2.1=x.size∧(nxD (spT x) 0 (LE (spT x) 1)).2.2=0:=by
 obtain⟨_,h1,h2,h3⟩:=h.there (spT x) 0 (by rw [sp_size];omega) (sp_pre x) (.inr (.inl (sp_last x)))
 exact⟨h1,by rw [h2];omega,h3⟩
theorem wrd_cls {N:Nat}{k:Int}{x:ByteArray}(h:Wrd N k x)(h4:cls (rn (spT x) 0:Int)=4):k=2:=by
 obtain⟨h1,h2,h3⟩:=wrd_nx h
 unfold nxD at h1 h3
 split at h3
 · cases h3
 rename_i q1
 rw [if_neg q1,if_pos h4] at h1
 split at h3
 · cases h3
 rename_i q2
 rw [if_neg q2] at h1
 exact h1.symm
theorem wrd_two {N:Nat}{x:ByteArray}(h:Wrd N 2 x):looseB x 0=false:=by
 obtain⟨h1,h2,h3⟩:=wrd_nx h
 have hsz:=sp_size x
 have hso:=h.some
 have h4:cls (rn (spT x) 0:Int)=4∧runD (spT x) (spT x).size 0=x.size:=by
  unfold nxD at h1 h2 h3
  split at h3
  · cases h3
  rename_i q1
  rw [if_neg q1] at h1 h2
  split at h3
  · rename_i q4
    rw [if_pos q4] at h2
    split at h3
    · cases h3
    rename_i q2
    rw [if_neg q2] at h2
    exact⟨q4,h2⟩
  rename_i q4
  rw [if_neg q4] at h1
  exfalso
  split at h1
  · split at h1 <;> (dsimp only at h1;omega)
  split at h1 <;> (dsimp only at h1;omega)
 obtain⟨h4,h5⟩:=h4
 have hlo:=loose_no_letter h4
 have hw:wdt (spT x) 0≤x.size:=by
  have hwl:=wdt_le (spT x) 0 (by omega)
  rw [hsz,runD_on (spT x) x.size 0 (by omega) hlo (.inr h4)] at h5
  have:=runD_le (spT x) x.size (0+wdt (spT x) 0) hwl
  omega
 have hL:Loc (spT x) 0 x 0 x.size:=⟨by omega,by omega,.inl (by omega),by rw [sp_pre];apply ByteArray.ext;simp⟩
 have:=(hL.chr 0 hso (by rw [Nat.zero_add,Nat.zero_add];exact hw)).2.2
 rw [Nat.zero_add] at this
 rw [this]
 exact hlo
theorem wrd_num {N:Nat}{x:ByteArray}(h:Wrd N 3 x):∃ v,numR x=some v:=by
 obtain⟨h1,h2,h3⟩:=wrd_nx h
 have hpre:=sp_pre x
 rw [Nat.zero_add] at hpre
 unfold nxD at h1 h2 h3
 split at h3
 · cases h3
 rename_i q1
 rw [if_neg q1] at h1 h2
 split at h3
 · rename_i q4
   rw [if_pos q4] at h1
   exfalso
   split at h1 <;> (dsimp only at h1;omega)
 rename_i q4
 rw [if_neg q4] at h1 h2
 split at h3
 · rename_i q3
   rw [if_pos q3] at h2
   split at h3
   · cases h3
   rename_i v hv
   rw [hv] at h2
   dsimp only at h2
   rw [h2,hpre] at hv
   exact⟨v,hv⟩
 rename_i q3
 rw [if_neg q3] at h1
 exfalso
 split at h1 <;> (dsimp only at h1;omega)
theorem wrd_pos {N:Nat}{k:Int}{x:ByteArray}(h:Wrd N k x):k≠0:=by
 obtain⟨h1,h2,h3⟩:=wrd_nx h
 unfold nxD at h1 h3
 split at h3
 · cases h3
 rename_i q1
 rw [if_neg q1] at h1
 split at h3
 · rename_i q4
   rw [if_pos q4] at h1
   split at h3
   · cases h3
   rename_i q2
   rw [if_neg q2] at h1
   dsimp only at h1
   omega
 rename_i q4
 rw [if_neg q4] at h1
 split at h3
 · rename_i q3
   rw [if_pos q3] at h1
   split at h3
   · cases h3
   rename_i v hv
   rw [hv] at h1
   dsimp only at h1
   omega
 rename_i q3
 rw [if_neg q3] at h1
 split at h1 <;> (dsimp only at h1;omega)
theorem kw_cls {x:ByteArray}(h:kdW x≠0):cls (rn (spT x) 0:Int)=4:=by
 unfold kdW at h
 split at h
 · rename_i e;rw [e];kernel_rfl
 split at h
 · rename_i e;rw [e];kernel_rfl
 split at h
 · rename_i e;rw [e];kernel_rfl
 · exact absurd rfl h
def WdT (q:Fou):Prop:=q.1≠0∧q.2.1.size≤65536∧(q.1=3→∃ v,numR q.2.1=some v)∧(kdW q.2.1≠0→q.1=2)∧(q.1=2→looseB q.2.1 0=false)
theorem shp_wdt:∀ (N:Nat) (so:Bool) (l:List Fou),N≤65536→Shp N so l→∀ q∈l,WdT q
 | _,_,[],_,_,q,hq=>by cases hq
 | N,so,x :: l,hN,h,q,hq=>by
  rcases h with ⟨k1,k2,k3,hr⟩ | ⟨k1,hw,hr⟩
  · rcases List.mem_cons.1 hq with rfl | hq
    · refine⟨by omega,by rw [k2];decide,fun e=>by omega,fun e=>?_,fun e=>by omega⟩
      rw [k2] at e
      exact absurd (by decide) e
    · exact shp_wdt N false l hN hr q hq
  · rcases List.mem_cons.1 hq with rfl | hq
    · exact⟨wrd_pos hw,Nat.le_trans hw.le hN,fun e=>wrd_num (by rw [e] at hw;exact hw),fun e=>wrd_cls hw (kw_cls e),fun e=>wrd_two (by rw [e] at hw;exact hw)⟩
    · exact shp_wdt N true l hN hr q hq
theorem wdsT_of {l:List Tk4}(h:∀ q∈l,WdT q):WdsT l:=by
 have hh:∀ i,hereT l i∈l∨hereT l i=(0,⟨#[]⟩,0,1):=fun i=>by
   unfold hereT
   cases e:l[i]? with
   | none=>exact .inr rfl
   | some x=>exact .inl (List.mem_of_getElem? e)
 refine⟨fun i x hx=>(h x (List.mem_of_getElem? hx)).1,fun i=>?_,fun i hi=>?_,fun i hi=>?_,fun i hi=>?_⟩
 · rcases hh i with e | e
   · exact (h _ e).2.1
   · rw [e];decide
 · rcases hh i with e | e
   · exact (h _ e).2.2.1 hi
   · rw [e] at hi;cases hi
 · rcases hh i with e | e
   · exact (h _ e).2.2.2.1 hi
   · rw [e] at hi;exact absurd (by decide) hi
 · rcases hh i with e | e
   · exact (h _ e).2.2.2.2 (oneS_k hi).1
   · rw [e] at hi;exact absurd (oneS_k hi).1 (by decide)
theorem scan_wds {s:ByteArray}{l:List Tk4}(hs:s.size≤65536)(h:scD s (s.size+2) 0 1 0 false []=.inl l):WdsT l:=by
 obtain⟨m,e,hm⟩:=sc_shp s (s.size+2) 0 1 0 false [] l h (by omega) (fun _=>rfl)
 rw [List.nil_append] at e
 subst e
 exact wdsT_of (shp_wdt s.size false l hs hm)
theorem scan_len (s:ByteArray)(l:List Tk4)(h:scD s (s.size+2) 0 1 0 false []=.inl l):l.length≤2*(s.size+1):=by
 have hE:=scan_eq s
 unfold TxE at hE
 have hkk:=kk_pre (s:=s) (List.prefix_refl (linesOf s))
 cases hb:badL (linesOf s) with
 | none =>
  rw [hb] at hE
  dsimp only at hE
  have e:(Sum.inl l:Res)=.inl ([] ++ fours 0 (linesOf s)):=h.symm.trans hE
  cases e
  rw [List.nil_append,fours_len]
  exact hkk
 | some r =>
  obtain⟨i,er,c⟩:=r
  rw [hb] at hE
  dsimp only at hE
  rw [h] at hE
  cases hE
theorem sgI_ne {L:List Int}{x:Tk4}{q:ErT}(h:sgI L x=.error q):q.1≠0:=by
 unfold sgI at h
 split at h
 · cases h
 · cases h;exact (by decide:(41:Int)≠0)
theorem sgR_ne {L:List Int}{l:List Tk4}{i:Nat}{q:ErT}(h:sgR L l i=.error q):q.1≠0:=by
 unfold sgR at h
 split at h
 · exact sgI_ne h
 · cases h;exact (by decide:(80:Int)≠0)
theorem rnR_ne {l:List Tk4}{i:Nat}{q:ErT}(h:rnR l i=.error q):q.1≠0:=by
 unfold rnR rnI at h
 split at h
 · split at h
   · cases h;exact (by decide:(73:Int)≠0)
   · cases h
 · cases h;exact (by decide:(80:Int)≠0)
theorem hdR_ne {L:List Int}{l:List Tk4}{i:Nat}{q:ErT}(h:hdR L l i=.error q):q.1≠0:=by
 unfold hdR hdI at h
 split at h
 · split at h
   · cases h
   · rename_i h1;cases h;exact h1
 · cases h;exact (by decide:(80:Int)≠0)
theorem nteT_ne {L:List Int}{l:List Tk4}{i:Nat}{q:ErT}(h:nteT L l i=.error q):q.1≠0:=by
 unfold nteT at h
 split at h
 · split at h
   · split at h
     · cases h
     · cases h;exact (by decide:(75:Int)≠0)
   · cases h;exact (by decide:(80:Int)≠0)
 · cases h;exact (by decide:(80:Int)≠0)
theorem stT_ne {L:List Int}{l:List Tk4}{i:Nat}{A:Int}{q:ErT}(h:stT L l i A=.error q):q.1≠0:=by
 unfold stT at h
 split at h
 · cases h
 split at h
 · cases hs:sgI L (hereT l i) with
   | error x=>rw [hs] at h;cases h;exact sgI_ne hs
   | ok o =>
    rw [hs] at h
    dsimp only at h
    split at h
    · cases h;exact (by decide:(75:Int)≠0)
    · cases hn:nteT L l i with
      | error x=>rw [hn] at h;cases h;exact nteT_ne hn
      | ok n=>rw [hn] at h;cases h
 · cases h;exact (by decide:(80:Int)≠0)
theorem nwR_ne {L:List Int}{l:List Tk4}:∀ (f i:Nat) (A:Int) (q:ErT),nwR L l f i A=.error q→q.1≠0
 | 0,i,A,q,h=>by cases h;exact (by decide:(80:Int)≠0)
 | f+1,i,A,q,h=>by
  rw [nwR] at h
  cases hs:stT L l i A with
  | error x=>rw [hs] at h;cases h;exact stT_ne hs
  | ok o =>
   rw [hs] at h
   cases o with
   | none=>cases h
   | some n =>
    dsimp only at h
    cases hn:nwR L l f (i+3) n.1 with
    | error x=>rw [hn] at h;cases h;exact nwR_ne f _ _ _ hn
    | ok y=>rw [hn] at h;cases h
theorem nwR_cnt {L:List Int}{l:List Tk4}:∀ (f i:Nat) (A:Int) (ns:List N3t) (j:Nat),nwR L l f i A=.ok (ns,j)→ns.length≤f
 | 0,i,A,ns,j,h=>by cases h
 | f+1,i,A,ns,j,h=>by
  rw [nwR] at h
  cases hs:stT L l i A with
  | error x=>rw [hs] at h;cases h
  | ok o =>
   rw [hs] at h
   cases o with
   | none=>cases h;exact Nat.zero_le _
   | some n =>
    dsimp only at h
    cases hn:nwR L l f (i+3) n.1 with
    | error x=>rw [hn] at h;cases h
    | ok y =>
     rw [hn] at h
     obtain⟨y1,y2⟩:=y
     cases h
     have:=nwR_cnt f _ _ _ _ hn
     rw [List.length_cons]
     omega
theorem nwsR_ne {L:List Int}{l:List Tk4}{i:Nat}{q:ErT}(h:nwsR L l i=.error q):q.1≠0:=by
 unfold nwsR at h
 split at h
 · exact nwR_ne _ _ _ _ h
 · cases h;exact (by decide:(80:Int)≠0)
theorem nwsR_cnt {L:List Int}{l:List Tk4}{i j:Nat}{ns:List N3t}(h:nwsR L l i=.ok (ns,j)):ns.length≤l.length+1:=by
 unfold nwsR at h
 split at h
 · exact nwR_cnt _ _ _ _ _ h
 · cases h
structure NtR (L:List Int)(l:List Tk4)(n:Nt5):Prop where
 lo:1≤n.1
 hi:n.1≤3
 rd3:n.1=3→n.2.2.1=0
 hd2:n.1≠2→n.2.2.2.1=0
 lt:n.2.2.2.1<S128
 len:n.2.2.2.2.length≤l.length+1
theorem hdR_lt {L:List Int}(hS:Signs L){l:List Tk4}{i N:Nat}(h:hdR L l i=.ok N):N<S128:=by
 unfold hdR hdI at h
 split at h
 · split at h
   · cases h
     have h1:=parseR_lt hS (hereT l i).2.1
     have h2:S100≤S128:=by unfold S100 S128;decide
     omega
   · cases h
 · cases h
theorem s128_pos:0<S128:=by unfold S128;decide
theorem bodR_bad {L:List Int}{l:List Tk4}{q:ErT}(h:bodR L l=.error q):q.1≠0:=by
 unfold bodR at h
 split at h
 · cases h;exact (by decide:(80:Int)≠0)
 split at h
 · unfold qR at h
   cases h1:sgR L l 1 with
   | error x=>rw [h1] at h;cases h;exact sgR_ne h1
   | ok fr =>
    rw [h1] at h
    dsimp only at h
    cases h2:rnR l 2 with
    | error x=>rw [h2] at h;cases h;exact rnR_ne h2
    | ok rd =>
     rw [h2] at h
     dsimp only at h
     cases h3:nwsR L l 3 with
     | error x=>rw [h3] at h;cases h;exact nwsR_ne h3
     | ok y=>rw [h3] at h;cases h
 split at h
 · unfold pR at h
   cases h1:sgR L l 1 with
   | error x=>rw [h1] at h;cases h;exact sgR_ne h1
   | ok fr =>
    rw [h1] at h
    dsimp only at h
    cases h2:rnR l 2 with
    | error x=>rw [h2] at h;cases h;exact rnR_ne h2
    | ok rd =>
     rw [h2] at h
     dsimp only at h
     cases h4:hdR L l 3 with
     | error x=>rw [h4] at h;cases h;exact hdR_ne h4
     | ok N =>
      rw [h4] at h
      dsimp only at h
      cases h3:nwsR L l 4 with
      | error x=>rw [h3] at h;cases h;exact nwsR_ne h3
      | ok y=>rw [h3] at h;cases h
 · unfold uR at h
   cases h1:sgR L l 1 with
   | error x=>rw [h1] at h;cases h;exact sgR_ne h1
   | ok fr =>
    rw [h1] at h
    dsimp only at h
    cases h3:nwsR L l 2 with
    | error x=>rw [h3] at h;cases h;exact nwsR_ne h3
    | ok y=>rw [h3] at h;cases h
theorem bodR_ok {L:List Int}(hS:Signs L){l:List Tk4}{n:Nt5}{j:Nat}(h:bodR L l=.ok (n,j)):NtR L l n:=by
 unfold bodR at h
 split at h
 · cases h
 split at h
 · unfold qR at h
   cases h1:sgR L l 1 with
   | error x=>rw [h1] at h;cases h
   | ok fr =>
    rw [h1] at h
    dsimp only at h
    cases h2:rnR l 2 with
    | error x=>rw [h2] at h;cases h
    | ok rd =>
     rw [h2] at h
     dsimp only at h
     cases h3:nwsR L l 3 with
     | error x=>rw [h3] at h;cases h
     | ok y =>
      rw [h3] at h
      obtain⟨ns,k⟩:=y
      cases h
      exact⟨Nat.le_refl 1,(by decide:(1:Nat)≤3),fun e=>absurd e (by decide:¬ (1:Nat)=3),fun _=>rfl,s128_pos,nwsR_cnt h3⟩
 split at h
 · unfold pR at h
   cases h1:sgR L l 1 with
   | error x=>rw [h1] at h;cases h
   | ok fr =>
    rw [h1] at h
    dsimp only at h
    cases h2:rnR l 2 with
    | error x=>rw [h2] at h;cases h
    | ok rd =>
     rw [h2] at h
     dsimp only at h
     cases h4:hdR L l 3 with
     | error x=>rw [h4] at h;cases h
     | ok N =>
      rw [h4] at h
      dsimp only at h
      cases h3:nwsR L l 4 with
      | error x=>rw [h3] at h;cases h
      | ok y =>
       rw [h3] at h
       obtain⟨ns,k⟩:=y
       cases h
       exact⟨(by decide:(1:Nat)≤2),(by decide:(2:Nat)≤3),fun e=>absurd e (by decide:¬ (2:Nat)=3),fun e=>absurd rfl e,hdR_lt hS h4,nwsR_cnt h3⟩
 · unfold uR at h
   cases h1:sgR L l 1 with
   | error x=>rw [h1] at h;cases h
   | ok fr =>
    rw [h1] at h
    dsimp only at h
    cases h3:nwsR L l 2 with
    | error x=>rw [h3] at h;cases h
    | ok y =>
     rw [h3] at h
     obtain⟨ns,k⟩:=y
     cases h
     exact⟨(by decide:(1:Nat)≤3),Nat.le_refl 3,fun _=>rfl,fun _=>rfl,s128_pos,nwsR_cnt h3⟩
theorem rdW_ne {L:List Int}{l:List Tk4}{q:ErT}(h:rdWT L l=.error q):q.1≠0:=by
 unfold rdWT at h
 cases hb:bodR L l with
 | error x=>rw [hb] at h;cases h;exact bodR_bad hb
 | ok y =>
  obtain⟨n,j⟩:=y
  rw [hb] at h
  dsimp only at h
  split at h
  · split at h
    · cases h
    · cases h;exact (by decide:(80:Int)≠0)
  · cases h;exact (by decide:(80:Int)≠0)
theorem rdW_ok {L:List Int}(hS:Signs L){l:List Tk4}{n:Nt5}(h:rdWT L l=.ok n):NtR L l n:=by
 unfold rdWT at h
 cases hb:bodR L l with
 | error x=>rw [hb] at h;cases h
 | ok y =>
  obtain⟨m,j⟩:=y
  rw [hb] at h
  dsimp only at h
  split at h
  · split at h
    · cases h;exact bodR_ok hS hb
    · cases h
  · cases h
theorem res8R {tmps:Array Value}{W:World}{a:Nat}{x0 x1 x2 x3 x4 x5 x6 x7:Value}{y z:Int}(h4:tmps[4]?.getD undef=.pointer (some ⟨a,0,none⟩))(h5:tmps[5]?.getD undef=.int .i64 y)(h6:tmps[6]?.getD undef=.int .i64 z)(hx:W.heap[a]? = some (.cells #[x0,x1,x2,x3,x4,x5,x6,x7] 39 (0,0))):(results Tryz.f14 tmps).run Tryz.prog W=.ok (.tuple #[.agg #[x0,x1,x2,x3,x4,x5,x6,x7],.int .i64 y,.int .i64 z]) W:=by
 have c0:=zca hx 0
 have c1:=zca hx 1
 have c2:=zca hx 2
 have c3:=zca hx 3
 have c4:=zca hx 4
 have c5:=zca hx 5
 have c6:=zca hx 6
 have c7:=zca hx 7
 simp at c0 c1 c2 c3 c4 c5 c6 c7
 simp [results,Tryz.results14,go_sem,h4,h5,h6,c0,c1,c2,c3,c4,c5,c6,c7]
def RdA8 (w:World)(r:Except ErT Nt5)(e:Ending)(w':World):Prop:=match r with
 | .error q=>e=.returned (.tuple #[.agg #[.int .i64 0,.int .i64 0,.int .i64 0,.int .u32 0,.int .u32 0,.int .u32 0,.int .u32 0,.slice none 0 0],.int .i64 q.1,.int .i64 q.2])∧Below w.heap.size w w'
 | .ok n=>∃ a c,e=.returned (.tuple #[.agg #[.int .i64 (n.1:Nat),.int .i64 n.2.1,.int .i64 (n.2.2.1:Nat),.int .u32 (wd n.2.2.2.1 0:Nat),.int .u32 (wd n.2.2.2.1 1:Nat),.int .u32 (wd n.2.2.2.1 2:Nat),.int .u32 (wd n.2.2.2.1 3:Nat),.slice a n.2.2.2.2.length c],.int .i64 0,.int .i64 0])∧RdN w' a n.2.2.2.2∧Below w.heap.size w w'
theorem rread_zero {ra:Option Addr}{rc:Nat}(s:ByteArray)(w:World):Calls Tryz.prog 14 #[.agg #[.slice ra 0 rc],.string s] w (RdA8 w (.error (1,0))):=by
 have ha:=al1t w (.cells #[.slice ra 0 rc] 53)
 have hb:=al1t (w.alloc (.cells #[.slice ra 0 rc] 53)) (.cells #[.int .i64 0,.int .i64 0,.int .i64 0,.int .u32 0,.int .u32 0,.int .u32 0,.int .u32 0,.slice none 0 0] 39)
 go_enter Tryz.func14,Tryz.ntmps14
 go_wp2
 exact⟨rfl,_,res8R rfl rfl rfl (zna (by simp)),rfl,ha.trans (hb.mono (by simp))⟩
abbrev zC8:Array Value:=#[.int .i64 0,.int .i64 0,.int .i64 0,.int .u32 0,.int .u32 0,.int .u32 0,.int .u32 0,.slice none 0 0]
theorem info8R:(Tryz.prog.info? 39).map (·.size)=some 8:=by kernel_rfl
theorem rdn_ownT {W:World}{base:Nat}{a:Option Addr}{c:Nat}{l:List N3t}(h:W.ownsRow base 124 3 (.slice a l.length c) l.length (fl l)):RdN W a l:=fun hl=>by
 rcases own_form h with ⟨_,e⟩ | ⟨g,cap,e,h1,h2,h3⟩
 · exact absurd (List.length_eq_zero_iff.1 e) hl
 · cases e
   exact⟨g,0,rfl,h2,nts_own h rfl⟩
theorem row_keepT {W V:World}{base:Nat}{e:TypeId}{size:Nat}{v:Value}{n:Nat}{xs:List Value}(h:W.ownsRow base e size v n xs){b:Nat}{cs:Array Value}{T:TypeId}(hb:W.heap[b]? = some (.cells cs T (0,0)))(ht:T≠e)(ho:∀ q,q≠b→V.heap[q]? = W.heap[q]?):V.ownsRow base e size v n xs:=by
 refine⟨h.1,?_⟩
 rcases h.2 with h1 | ⟨g,cap,cur,h1,h2,h3,h4⟩
 · exact .inl h1
 · refine .inr ⟨g,cap,cur,h1,h2,(ho g fun q=>?_).trans h3,h4⟩
   subst q
   rw [hb] at h3
   simp only [Option.some.injEq,Obj.cells.injEq] at h3
   exact ht h3.2.1
theorem row_sliceT {w:World}{base size:Nat}{e:TypeId}{v:Value}{n:Nat}{xs:List Value}(h:w.ownsRow base e size v n xs):∃ ad cap,v=.slice ad n cap:=by
 rcases own_form h with ⟨e1,e2⟩ | ⟨g,cap,e1,_⟩
 · exact⟨none,0,by rw [e1,e2]⟩
 · exact⟨_,cap,e1⟩
theorem two_box (w:World)(ra:Option Addr)(n rc:Nat):∃ W2,(w.alloc (.cells #[.slice ra n rc] 53)).alloc (.cells zC8 39)=W2∧W2.heap[w.heap.size]? = some (.cells #[.slice ra n rc] 53 (0,0))∧W2.heap[w.heap.size+1]? = some (.cells zC8 39 (0,0))∧Below w.heap.size w W2∧W2.heap.size=w.heap.size+2 :=
 ⟨_,rfl,get_old (get_new rfl),get_new (by simp),al2x w _ _,by simp⟩
theorem note_set {w W:World}{b:Nat}{cs ds:Array Value}(h:W.heap[b]? = some (.cells cs 39 (0,0)))(hw:Below w.heap.size w W)(hB:w.heap.size≤b):∃ V,W.setRow b ds=V∧V.heap[b]? = some (.cells ds 39 (0,0))∧Below w.heap.size w V∧(∀ q,q≠b→V.heap[q]? = W.heap[q]?)∧V.heap.size=W.heap.size :=
 ⟨_,rfl,setRow_heap _ _ _ _ _ _ h,hw.trans ⟨rfl,rfl,rfl,by simp [World.setRow],fun q hq=>Go.setRow_other _ _ _ _ (by omega)⟩,fun q hq=>Go.setRow_other _ _ _ _ (by omega),by simp [World.setRow]⟩
theorem rread_scan {ra:Option Addr}{n rc:Nat}(hn:n≠0)(s:ByteArray)(q:Int × Int × Int)(hq:q.1≠0)(w:World)(hS:∀ V,Calls Tryz.prog 36 #[.string s] V (ScT (.inr q) V)):Calls Tryz.prog 14 #[.agg #[.slice ra n rc],.string s] w (RdA8 w (.error (q.1,q.2.2))):=by
 obtain⟨q1,q2,q3⟩:=q
 obtain⟨W2,hW2,hr,hz,hb2,hs2⟩:=two_box w ra n rc
 have hne:((n:Int) == 0)=false:=by simpa using hn
 have hn0:¬ (n:Int)=0:=by omega
 have hq':(q1 == 0)=false:=by simpa using hq
 have hq0:¬ q1=0:=hq
 have c0:W2.cell? ⟨w.heap.size,0,none⟩=some (.slice ra n rc):=(zca hr 0).trans rfl
 have HS:Hid (∀ V,Calls Tryz.prog 36 #[.string s] V (ScT (.inr (q1,q2,q3)) V)):=hS
 clear hS hq hn
 go_enter Tryz.func14,Tryz.ntmps14
 go_wp2_with (first
  | (refine wpList_store_row rfl 39 (.tmp 4) (.tmp 26) rfl (w.heap.size+1) zC8 rfl rfl 39 _ hz1 info8R rfl (by simp [Value.oneCell']) ?_;rw [hV])
  | (go_at_call 36;(with_reducible refine (HS.out _).mono ?_);rintro e u1 ⟨rfl,hb1⟩;(have hz1:=(hb1.block _ (zla hz)).trans hz);obtain⟨V,hV,hzV,hbV,_,_⟩:=note_set (ds:=zC8) hz1 (bel3 hb2 hb1) (Nat.le_succ _)))
 exact⟨rfl,_,res8R rfl rfl rfl hzV,rfl,hbV⟩
theorem fld_tk3 (x1:Int)(x2:ByteArray)(x3 x4:Int)(W:World):(Instr.field 48 (.agg #[.int .i64 x1,.string x2,.int .i64 x3,.int .i64 x4]) 3).run Tryz.prog W=.ok (.int .i64 x4) W:=by kernel_rfl
theorem desk_new {M:Nat}{L:List Int}{ra:Option Addr}{rc:Nat}{l:List Tk4}{ad:Option Addr}{cap:Nat}{w W2 u1:World}(hR:RosR M w (.agg #[.slice ra L.length rc]) L)(hM:M≤w.heap.size)(hb2:Below w.heap.size w W2)(hb1:Below W2.heap.size W2 u1)(hk:RdK u1 ad l)(ha:∀ b off,ad=some ⟨b,off,none⟩→b<u1.heap.size)(hS:Shw6 l)(hl:l.length≤800000):∃ W3,u1.alloc (.cells #[.slice ad l.length cap,.int .i64 0,.int .i64 0,.int .i64 0,.int .i64 0,.int .u32 0,.int .u32 0,.int .u32 0,.int .u32 0,.slice none 0 0] 113)=W3∧Below u1.heap.size u1 W3∧u1.heap.size<W3.heap.size∧Calls Tryz.prog 37 #[.pointer (some ⟨u1.heap.size,0,none⟩),.agg #[.slice ra L.length rc]] W3 (RdO8 u1.heap.size l ad cap W3 (rdWD L l)):=by
 have hb3:=al1t u1 (.cells #[.slice ad l.length cap,.int .i64 0,.int .i64 0,.int .i64 0,.int .i64 0,.int .u32 0,.int .u32 0,.int .u32 0,.int .u32 0,.slice none 0 0] 113)
 have hs2:=hb2.size
 have hs1:=hb1.size
 refine⟨_,rfl,hb3,by simp,rread8_any (M:=M) ⟨fun V hV=>hR.below (((bel3 (bel3 hb2 hb1) hb3).mono hM).trans (hV.mono (by omega))),by omega,by have:=hb3.size;omega⟩ ⟨?_,hk.carry hb3,ha⟩ hS hl⟩
 exact zna rfl
theorem desk_cells {p:Nat}{l:List Tk4}{ad:Option Addr}{cap k:Nat}{kd fr rd:Int}{N:Nat}{v:Value}{u:World}(h:Dsk p l ad cap k kd fr rd N v u):u.cell? ⟨p,2,none⟩=some (.int .i64 kd)∧u.cell? ⟨p,3,none⟩=some (.int .i64 fr)∧u.cell? ⟨p,4,none⟩=some (.int .i64 rd)∧u.cell? ⟨p,5,none⟩=some (.int .u32 (wd N 0:Nat))∧u.cell? ⟨p,6,none⟩=some (.int .u32 (wd N 1:Nat))∧u.cell? ⟨p,7,none⟩=some (.int .u32 (wd N 2:Nat))∧u.cell? ⟨p,8,none⟩=some (.int .u32 (wd N 3:Nat))∧u.cell? ⟨p,9,none⟩=some v :=
 ⟨(zca h.bx 2).trans rfl,(zca h.bx 3).trans rfl,(zca h.bx 4).trans rfl,(zca h.bx 5).trans rfl,(zca h.bx 6).trans rfl,(zca h.bx 7).trans rfl,(zca h.bx 8).trans rfl,(zca h.bx 9).trans rfl⟩
theorem rread_no {M:Nat}{L:List Int}{ra:Option Addr}{rc:Nat}(hn:L.length≠0)(s:ByteArray)(l:List Tk4)(w:World)(hR:RosR M w (.agg #[.slice ra L.length rc]) L)(hM:M≤w.heap.size)(hSh:Shw6 l)(hl:l.length≤800000)(q:ErT)(hq:q.1≠0)(hr:rdWD L l=.error q)(hS:∀ V,Calls Tryz.prog 36 #[.string s] V (ScT (.inl l) V)):Calls Tryz.prog 14 #[.agg #[.slice ra L.length rc],.string s] w (RdA8 w (.error q)):=by
 obtain⟨q1,q2⟩:=q
 obtain⟨W2,hW2,hro,hz,hb2,hs2⟩:=two_box w ra L.length rc
 have hne:((L.length:Int) == 0)=false:=by simpa using hn
 have hn0:¬ (L.length:Int)=0:=by omega
 have hq':(q1 == 0)=false:=by simpa using hq
 have hq0:¬ q1=0:=hq
 have c0:W2.cell? ⟨w.heap.size,0,none⟩=some (.slice ra L.length rc):=(zca hro 0).trans rfl
 have HS:Hid (∀ V,Calls Tryz.prog 36 #[.string s] V (ScT (.inl l) V)):=hS
 have HR:Hid (RosR M w (.agg #[.slice ra L.length rc]) L):=hR
 have HQ:Hid (rdWD L l=.error (q1,q2)):=hr
 have HH:Hid (Shw6 l):=hSh
 clear hS hq hn hR hr hSh
 go_enter Tryz.func14,Tryz.ntmps14
 go_wp2_with (first
  | (refine wpList_store_row rfl 39 (.tmp 4) (.tmp 37) rfl (w.heap.size+1) zC8 rfl rfl 39 _ hz3 info8R rfl (by simp [Value.oneCell']) ?_;rw [hV])
  | (go_at_call 38;(with_reducible refine HHe.mono ?_);rintro e u3 ⟨rfl,hb5⟩;(have hz3:=(hb5.block _ (zla hz2)).trans hz2);obtain⟨V,hV,hzV,hbV,_,_⟩:=note_set (ds:=zC8) hz3 (bel3 hb6 hb5) (Nat.le_succ _))
  | (go_at_call 37;(with_reducible refine hRd.mono ?_);rw [HQ.out];rintro e u2 ⟨rfl,B,k,kd,fr,rd,N,ns,hDN,hcol,hk,hb4⟩;obtain⟨v,hDk,_⟩:=hDN.dk;(have HHe:=here_any hDk hk);obtain⟨⟨x1,x2,x3,x4⟩,hx⟩:∃ x,hereT l k=x:=⟨_,rfl⟩;rw [hx] at hcol HHe;unfold tk4 tkV at HHe;dsimp only at hcol HHe;(have hf3:=fld_tk3 x1 x2 x3);(have hb6:Below w.heap.size w u2:=(bel3 (bel3 hb2 hb1) hb3).trans (hb4.mono (by have:=hb2.size;have:=hb1.size;omega)));(have hz2:=(hb4.block _ (by have:=hb1.size;omega)).trans ((hb3.block _ (zla hz1)).trans hz1));clear hDN hDk hRd)
  | (go_at_call 36;(with_reducible refine (HS.out _).mono ?_);rintro e u1 ⟨ad,cap,rfl,hrk,had,hb1⟩;(have hz1:=(hb1.block _ (zla hz)).trans hz);(have hro1:=(hb1.block _ (zla hro)).trans hro);obtain⟨W3,hW3,hb3,hs3,hRd⟩:=desk_new (cap:=cap) HR.out hM hb2 hb1 hrk had HH.out hl;(have c01:W3.cell? ⟨w.heap.size,0,none⟩=some (.slice ra L.length rc):=(zca ((hb3.block _ (zla hro1)).trans hro1) 0).trans rfl)))
 subst hcol
 exact⟨rfl,_,res8R rfl rfl rfl hzV,rfl,hbV⟩
theorem rread_ok {M:Nat}{L:List Int}{ra:Option Addr}{rc:Nat}(hn:L.length≠0)(s:ByteArray)(l:List Tk4)(w:World)(hR:RosR M w (.agg #[.slice ra L.length rc]) L)(hM:M≤w.heap.size)(hSh:Shw6 l)(hl:l.length≤800000)(n:Nt5)(hr:rdWD L l=.ok n)(hS:∀ V,Calls Tryz.prog 36 #[.string s] V (ScT (.inl l) V)):Calls Tryz.prog 14 #[.agg #[.slice ra L.length rc],.string s] w (RdA8 w (.ok n)):=by
 obtain⟨kd,fr,rd,N,ns⟩:=n
 obtain⟨W2,hW2,hro,hz,hb2,hs2⟩:=two_box w ra L.length rc
 have hne:((L.length:Int) == 0)=false:=by simpa using hn
 have hn0:¬ (L.length:Int)=0:=by omega
 have c0:W2.cell? ⟨w.heap.size,0,none⟩=some (.slice ra L.length rc):=(zca hro 0).trans rfl
 have HS:Hid (∀ V,Calls Tryz.prog 36 #[.string s] V (ScT (.inl l) V)):=hS
 have HR:Hid (RosR M w (.agg #[.slice ra L.length rc]) L):=hR
 have HQ:Hid (rdWD L l=.ok (kd,fr,rd,N,ns)):=hr
 have HH:Hid (Shw6 l):=hSh
 clear hS hn hR hr hSh
 go_enter Tryz.func14,Tryz.ntmps14
 go_wp2_with (first
  | (refine wpList_store_row rfl 39 (.tmp 4) (.tmp 45) rfl (w.heap.size+1) #[.int .i64 (kd:Int),.int .i64 fr,.int .i64 (rd:Int),.int .u32 (wd N 0:Nat),.int .u32 (wd N 1:Nat),.int .u32 (wd N 2:Nat),.int .u32 (wd N 3:Nat),.slice an ns.length cn] rfl rfl 39 _ hz2 info8R rfl (by simp [Value.oneCell']) ?_;rw [hV])
  | (go_at_call 37;(with_reducible refine hRd.mono ?_);rw [HQ.out];rintro e u2 ⟨rfl,B,k,hDN,hb4⟩;obtain⟨v,hDk,hrow⟩:=hDN.dk;obtain⟨an,cn,rfl⟩:=row_sliceT hrow;obtain⟨e2,e3,e4,e5,e6,e7,e8,e9⟩:=desk_cells hDk;(have hb6:Below w.heap.size w u2:=(bel3 (bel3 hb2 hb1) hb3).trans (hb4.mono (by have:=hb2.size;have:=hb1.size;omega)));(have hz2:=(hb4.block _ (by have:=hb1.size;omega)).trans ((hb3.block _ (zla hz1)).trans hz1));(have hw2:w.heap.size+1<u2.heap.size:=zla hz2);obtain⟨V,hV,hzV,hbV,hoV,hsV⟩:=note_set (ds:=#[.int .i64 (kd:Int),.int .i64 fr,.int .i64 (rd:Int),.int .u32 (wd N 0:Nat),.int .u32 (wd N 1:Nat),.int .u32 (wd N 2:Nat),.int .u32 (wd N 3:Nat),.slice an ns.length cn]) hz2 hb6 (Nat.le_succ _);clear hDN hDk hRd)
  | (go_at_call 36;(with_reducible refine (HS.out _).mono ?_);rintro e u1 ⟨ad,cap,rfl,hrk,had,hb1⟩;(have hz1:=(hb1.block _ (zla hz)).trans hz);(have hro1:=(hb1.block _ (zla hro)).trans hro);obtain⟨W3,hW3,hb3,hs3,hRd⟩:=desk_new (cap:=cap) HR.out hM hb2 hb1 hrk had HH.out hl;(have c01:W3.cell? ⟨w.heap.size,0,none⟩=some (.slice ra L.length rc):=(zca ((hb3.block _ (zla hro1)).trans hro1) 0).trans rfl)))
 exact⟨rfl,_,res8R rfl rfl rfl hzV,an,cn,rfl,rdn_ownT (row_keepT hrow hz2 (by decide) hoV),hbV⟩
end Go.Proofs.YtmahamdmapbilaaGreatDoor
