import Derived.Test.YtmahamdmapbilaaGreatDoorJrJ32
set_option maxHeartbeats 40000000
set_option maxRecDepth 100000
set_option linter.unusedVariables false
namespace Go.Proofs.YtmahamdmapbilaaGreatDoor
open Go.RowKit Go.Shelf
theorem dec_cut (N M b0 b1 b2 b3 c1 c2 c3:Nat)(h0:0<M)(hle:M≤N)(e1:1<M→c1=b1)(e2:2<M→c2=b2)(e3:3<M→c3=b3)
   (l1:M=1→M<N→b1<128) (l2:M=2→M<N→b2<128) (l3:M=3→M<N→b3<128):Lib.decodeN N b0 b1 b2 b3=Lib.decodeN M b0 c1 c2 c3:=by
 have A1:(1<N∧b1 / 64=2)↔(1<M∧c1 / 64=2):=by
   by_cases h:1<M
   · rw [e1 h];omega
   · have:=l1 (by omega);omega
 have A2:1<M→((2<N∧b2 / 64=2)↔(2<M∧c2 / 64=2)):=by
   intro hM
   by_cases h:2<M
   · rw [e2 h];omega
   · have:=l2 (by omega);omega
 have A3:2<M→((3<N∧b3 / 64=2)↔(3<M∧c3 / 64=2)):=by
   intro hM
   by_cases h:3<M
   · rw [e3 h];omega
   · have:=l3 (by omega);omega
 unfold Lib.decodeN
 by_cases q0:b0<128
 · rw [if_pos q0,if_pos q0]
 rw [if_neg q0,if_neg q0]
 by_cases p1:1<M
 case neg =>
   have n1:¬ (1<M∧c1 / 64=2):=fun h=>p1 h.1
   have n2:¬ (1<N∧b1 / 64=2):=fun h=>n1 (A1.1 h)
   rw [if_neg (fun h=>n2 h.2),if_neg (fun h=>n2 h.2.1),if_neg (fun h=>n2 h.2.1),if_neg (fun h=>n1 h.2),if_neg (fun h=>n1 h.2.1),if_neg (fun h=>n1 h.2.1)]
 have E1:=e1 p1
 subst E1
 have t1:1<N:=by omega
 by_cases p2:2<M
 case neg =>
   have n1:¬ (2<M∧c2 / 64=2):=fun h=>p2 h.1
   have n2:¬ (2<N∧b2 / 64=2):=fun h=>n1 ((A2 p1).1 h)
   rw [if_neg (c:=b0 / 16=14∧(1<N∧c1 / 64=2)∧2<N∧b2 / 64=2) (fun h=>n2 h.2.2),if_neg (c:=b0 / 8=30∧(1<N∧c1 / 64=2)∧(2<N∧b2 / 64=2)∧3<N∧b3 / 64=2) (fun h=>n2 h.2.2.1),if_neg (c:=b0 / 16=14∧(1<M∧c1 / 64=2)∧2<M∧c2 / 64=2) (fun h=>n1 h.2.2),if_neg (c:=b0 / 8=30∧(1<M∧c1 / 64=2)∧(2<M∧c2 / 64=2)∧3<M∧c3 / 64=2) (fun h=>n1 h.2.2.1)]
   simp only [t1,p1,true_and]
 have E2:=e2 p2
 subst E2
 have t2:2<N:=by omega
 by_cases p3:3<M
 case neg =>
   have n1:¬ (3<M∧c3 / 64=2):=fun h=>p3 h.1
   have n2:¬ (3<N∧b3 / 64=2):=fun h=>n1 ((A3 p2).1 h)
   rw [if_neg (c:=b0 / 8=30∧(1<N∧c1 / 64=2)∧(2<N∧c2 / 64=2)∧3<N∧b3 / 64=2) (fun h=>n2 h.2.2.2),if_neg (c:=b0 / 8=30∧(1<M∧c1 / 64=2)∧(2<M∧c2 / 64=2)∧3<M∧c3 / 64=2) (fun h=>n1 h.2.2.2)]
   simp only [t1,p1,t2,p2,true_and]
 have E3:=e3 p3
 subst E3
 have t3:3<N:=by omega
 simp only [t1,p1,t2,p2,t3,p3,true_and]
theorem get_byt (s:ByteArray)(i:Nat)(h:i<s.size):(s.get! i).toNat=byt s i:=by rw [byt_get h,get_eq s i h];rfl
theorem byt_ext (s:ByteArray)(o m k:Nat)(h:o+m≤s.size)(hk:k<m):byt (s.extract o (o+m)) k=byt s (o+k):=by
 have hsz:(s.extract o (o+m)).size=m:=by simp;omega
 rw [byt_get (s:=s.extract o (o+m)) (by omega),byt_get (show o+k<s.size by omega)]
 congr 1
 exact ByteArray.getElem_extract ..
theorem dec_line (s:ByteArray)(o m p:Nat)(h:o+m≤s.size)(hp:p<m)(hend:o+m=s.size∨byt s (o+m)<128):Utf8.decode (s.extract o (o+m)) p=Utf8.decode s (o+p):=by
 have hsz:(s.extract o (o+m)).size=m:=by simp;omega
 have hb:∀ k,k<m→((s.extract o (o+m)).get! k).toNat=(s.get! (o+k)).toNat:=fun k hk=>by rw [get_byt _ k (by omega),get_byt s (o+k) (by omega),byt_ext s o m k h hk]
 rw [shape,shape,hsz,hb p hp]
 refine (dec_cut _ _ _ _ _ _ _ _ _ (by omega) (by omega) (fun h1=>hb (p+1) (by omega)) (fun h1=>hb (p+2) (by omega)) (fun h1=>hb (p+3) (by omega)) ?_ ?_ ?_).symm
 · intro e l
   rw [get_byt s _ (by omega),show o+(p+1)=o+m by omega]
   omega
 · intro e l
   rw [get_byt s _ (by omega),show o+(p+2)=o+m by omega]
   omega
 · intro e l
   rw [get_byt s _ (by omega),show o+(p+3)=o+m by omega]
   omega
theorem wd_line (s:ByteArray)(o m p:Nat)(h:o+m≤s.size)(hp:p<m)(hend:o+m=s.size∨byt s (o+m)<128):wdt (s.extract o (o+m)) p=wdt s (o+p):=by
 unfold wdt
 rw [dec_line s o m p h hp hend]
inductive ChAt (x:ByteArray):Nat→Nat→Prop
 | zero:ChAt x 0 0
 | step {p c:Nat}:ChAt x p c→p<x.size→ChAt x (p+wdt x p) (c+1)
theorem chAt_le {x:ByteArray}{p c:Nat}(h:ChAt x p c):p≤x.size:=by
 cases h with
 | zero=>exact Nat.zero_le _
 | step h hp=>exact wdt_le x _ hp
theorem chAt_count {x:ByteArray}{p c:Nat}(h:ChAt x p c):c+(startsFrom x x.size p).length=(starts x).length:=by
 induction h with
 | zero=>simp [starts]
 | @step p c h hp ih =>
  have hz:=wdt_pos x p
  rw [startsFrom_fuel x x.size (x.size-1+1) p (by omega) (by omega),startsFrom_step x _ p hp,List.length_cons,startsFrom_fuel x _ x.size (p+wdt x p) (by omega) (by omega)] at ih
  omega
theorem chAt_end (x:ByteArray):∀ (f p c:Nat),x.size-p≤f→ChAt x p c→∃ c',ChAt x x.size c'
 | 0,p,c,hf,h=>by
  have:=chAt_le h
  rw [show p=x.size by omega] at h
  exact⟨c,h⟩
 | f+1,p,c,hf,h=>by
  by_cases hp:p<x.size
  · have:=wdt_pos x p
    exact chAt_end x f _ _ (by omega) (h.step hp)
  · have:=chAt_le h
    rw [show p=x.size by omega] at h
    exact⟨c,h⟩
theorem byt_list (s:ByteArray)(k:Nat)(h:k<s.size):s.data.toList[k]? = some (s[k]'h):=by
 have:k<s.data.toList.length:=by simpa using h
 rw [List.getElem?_eq_getElem this]
 rfl
theorem nl_some {s:ByteArray}{n:Nat}(h:nlAt s=(n:Int)):byt s n=10∧n<s.size∧∀ k,k<n→byt s k≠10:=by
 have hb:=nl_bounds s
 have hn:n<s.size:=by omega
 obtain⟨h1,h2⟩:=Lib.indexByte_some (o:=n) h
 rw [byt_list s n hn] at h1
 refine⟨?_,hn,?_⟩
 · rw [byt_get hn,Option.some.inj h1];rfl
 · intro k hk e
   have hks:k<s.size:=by omega
   apply h2 k hk
   rw [byt_list s k hks]
   rw [byt_get hks] at e
   congr 1
   exact UInt8.toNat_inj.1 e
theorem nl_none {s:ByteArray}(h:nlAt s<0):∀ k,k<s.size→byt s k≠10:=by
 have hb:=nl_bounds s
 intro k hks e
 apply Lib.indexByte_none (l:=s.data.toList) (c:=10) (by show nlAt s=-1;omega) k
 rw [byt_list s k hks]
 rw [byt_get hks] at e
 congr 1
 exact UInt8.toNat_inj.1 e
theorem dec_short (N M b0 b1 b2 b3 c1 c2 c3:Nat)(hle:M≤N)(e1:1<M→c1=b1)(e2:2<M→c2=b2)(e3:3<M→c3=b3)(hw:(Lib.decodeN N b0 b1 b2 b3).2≤M):Lib.decodeN M b0 c1 c2 c3=Lib.decodeN N b0 b1 b2 b3:=by
 by_cases h1:1<M
 · obtain rfl:=e1 h1
   have n1:1<N:=by omega
   by_cases h2:2<M
   · obtain rfl:=e2 h2
     have n2:2<N:=by omega
     by_cases h3:3<M
     · obtain rfl:=e3 h3
       have n3:3<N:=by omega
       simp only [Lib.decodeN,h1,h2,h3,n1,n2,n3]
     · unfold Lib.decodeN at hw ⊢
       simp only [h1,h2,h3,n1,n2,true_and,false_and,and_false,if_false] at hw ⊢
       repeat' split
       all_goals first | rfl | (simp_all;done) | (simp_all;omega)
   · unfold Lib.decodeN at hw ⊢
     have h3:¬ 3<M:=by omega
     simp only [h1,h2,h3,n1,true_and,false_and,and_false,if_false] at hw ⊢
     repeat' split
     all_goals first | rfl | (simp_all;done) | (simp_all;omega)
 · have h2:¬ 2<M:=by omega
   have h3:¬ 3<M:=by omega
   unfold Lib.decodeN at hw ⊢
   simp only [h1,h2,h3,false_and,and_false,if_false] at hw ⊢
   repeat' split
   all_goals first | rfl | (simp_all;done) | (simp_all;omega)
theorem dec_pre (x:ByteArray)(p q:Nat)(hp:p<x.size)(hq:p+wdt x p≤q)(hqs:q≤x.size):Utf8.decode (x.extract 0 q) p=Utf8.decode x p:=by
 have hsz:(x.extract 0 q).size=q:=by simp;omega
 have hw:=wdt_pos x p
 have hb:∀ k,k<q→((x.extract 0 q).get! k).toNat=(x.get! k).toNat:=fun k hk=>by
  have h:=byt_ext x 0 q k (by omega) hk
  rw [Nat.zero_add,Nat.zero_add] at h
  rw [get_byt _ k (by omega),get_byt x k (by omega),h]
 have hwd:(Lib.decodeN (x.size-p) (x.get! p).toNat (x.get! (p+1)).toNat (x.get! (p+2)).toNat (x.get! (p+3)).toNat).2=wdt x p:=by rw [← shape];rfl
 rw [shape,shape,hsz,hb p (by omega)]
 exact dec_short _ _ _ _ _ _ _ _ _ (by omega) (fun h=>hb (p+1) (by omega)) (fun h=>hb (p+2) (by omega)) (fun h=>hb (p+3) (by omega)) (by rw [hwd];omega)
theorem wd_pre (x:ByteArray)(p q:Nat)(hp:p<x.size)(hq:p+wdt x p≤q)(hqs:q≤x.size):wdt (x.extract 0 q) p=wdt x p:=by
 unfold wdt
 rw [dec_pre x p q hp hq hqs]
theorem chAt_pre {x:ByteArray}{p c:Nat}(h:ChAt x p c):∀ q,p≤q→q≤x.size→ChAt (x.extract 0 q) p c:=by
 induction h with
 | zero=>exact fun q _ _=>.zero
 | @step p c h hp ih =>
  intro q hq hqs
  have hw:=wdt_pos x p
  have hsz:(x.extract 0 q).size=q:=by simp;omega
  have e:=wd_pre x p q hp hq hqs
  have:=ChAt.step (ih q (by omega) hqs) (by omega)
  rw [e] at this
  exact this
theorem chAt_cnt {x:ByteArray}{p c:Nat}(h:ChAt x p c):cntQ x 0 p=c:=by
 have hp:=chAt_le h
 have hsz:(x.extract 0 p).size=p:=by simp;omega
 have h1:=chAt_count (chAt_pre h p (Nat.le_refl _) hp)
 rw [startsFrom_end _ _ p (by omega)] at h1
 simpa [cntQ] using h1.symm
theorem cq_cells4:∀ l:List Fou,cells4Q l=l.flatMap (fun x=>[.int .i64 x.1,.string x.2.1,.int .i64 x.2.2.1,.int .i64 x.2.2.2])
 | []=>rfl
 | (k,t,l,c) :: r=>by rw [cells4Q,cq_cells4 r];rfl
theorem dec_asc (s:ByteArray)(p:Nat)(hp:p<s.size)(h:byt s p<128):Utf8.decode s p=(byt s p,1):=by
 rw [shape,get_byt s p hp,Lib.decodeN,if_pos h]
theorem rn_asc (s:ByteArray)(p:Nat)(hp:p<s.size)(h:byt s p<128):rn s p=byt s p∧wdt s p=1:=by
 unfold rn wdt
 rw [dec_asc s p hp h]
 exact⟨rfl,rfl⟩
theorem ext_ext (s:ByteArray)(b m p q:Nat)(hq:q≤m):(s.extract b (b+m)).extract p q=s.extract (b+p) (b+q):=by
 rw [ByteArray.extract_extract]
 congr 1
 omega
theorem loose_cls (s:ByteArray)(p:Nat)(h:cls (rn s p:Int)=3∨cls (rn s p:Int)=4):looseB s p=false:=by
 unfold looseB
 rw [decide_eq_false_iff_not]
 rintro⟨e,_⟩
 rw [e] at h
 revert h
 decide
theorem run_eq (s:ByteArray)(b m:Nat)(h:b+m≤s.size)(hend:b+m=s.size∨byt s (b+m)=10):∀ (f F q n c:Nat),q≤m→m<q+f→s.size≤b+q+F→ChAt (s.extract b (b+m)) q c→runD s F (b+q)=b+(runAt (s.extract b (b+m)) f q n).1∧n≤(runAt (s.extract b (b+m)) f q n).2∧ChAt (s.extract b (b+m)) (runAt (s.extract b (b+m)) f q n).1 (c+((runAt (s.extract b (b+m)) f q n).2-n))
 | 0,F,q,n,c,hq,hf,_,_=>by omega
 | f+1,F,q,n,c,hq,hf,hF,hc=>by
  have hsz:(s.extract b (b+m)).size=m:=by simp;omega
  have hend':b+m=s.size∨byt s (b+m)<128:=by omega
  by_cases hqm:q<m
  · have hd:=dec_line s b m q h hqm hend'
    have hr:rn (s.extract b (b+m)) q=rn s (b+q):=by unfold rn;rw [hd]
    have hw:wdt (s.extract b (b+m)) q=wdt s (b+q):=by unfold wdt;rw [hd]
    have hwp:=wdt_pos s (b+q)
    have hwl:=wdt_le (s.extract b (b+m)) q (by omega)
    rw [runAt,if_neg (by omega)]
    by_cases hk:cls (rn s (b+q):Int)=3∨cls (rn s (b+q):Int)=4
    · rw [if_pos (by rw [hr];exact hk.symm)]
      obtain⟨G,rfl⟩:∃ G,F=G+1:=⟨F-1,by omega⟩
      rw [runD_on s G (b+q) (by omega) (loose_cls s _ hk) hk]
      have ih:=run_eq s b m h hend f G (q+wdt (s.extract b (b+m)) q) (n+1) (c+1) (by omega) (by omega) (by omega) (hc.step (by omega))
      rw [hw] at ih ⊢
      rw [← Nat.add_assoc] at ih
      refine⟨ih.1,by omega,?_⟩
      have e:c+1+((runAt (s.extract b (b+m)) f (q+wdt s (b+q)) (n+1)).2-(n+1))=c+((runAt (s.extract b (b+m)) f (q+wdt s (b+q)) (n+1)).2-n):=by omega
      rw [← e]
      exact ih.2.2
    · rw [if_neg (by rw [hr];exact fun e=>hk e.symm)]
      refine⟨runD_end s F _ (fun e=>hk e.2.2),Nat.le_refl _,?_⟩
      simpa using hc
  · obtain rfl:q=m:=by omega
    rw [runAt,if_pos (by omega),hsz]
    refine⟨runD_end s F _ (fun e=>?_),Nat.le_refl _,by simpa using hc⟩
    rcases hend with q1 | q1
    · omega
    · have:=(rn_asc s (b+q) e.1 (by omega)).1
      rw [this,q1] at e
      revert e
      rintro⟨_,_,e | e⟩ <;> simp [cls] at e
theorem runR_eq (s:ByteArray)(b m:Nat)(h:b+m≤s.size)(hend:b+m=s.size∨byt s (b+m)=10):runD s s.size b=b+(runR (s.extract b (b+m))).1∧(runR (s.extract b (b+m))).2=cntQ s b (b+(runR (s.extract b (b+m))).1):=by
 have hsz:(s.extract b (b+m)).size=m:=by simp;omega
 have hh:=run_eq s b m h hend (m+1) s.size 0 0 0 (Nat.zero_le _) (by omega) (by omega) .zero
 unfold runR
 rw [hsz]
 refine⟨hh.1,?_⟩
 have h3:=hh.2.2
 have hle:=chAt_le h3
 have h4:=chAt_cnt h3
 unfold cntQ at h4 ⊢
 rw [ext_ext s b m 0 _ (by omega),Nat.add_zero] at h4
 rw [h4]
 omega
theorem byt_tail (X:ByteArray)(a m k:Nat)(h:a+m=X.size):byt (X.extract a (a+m)) k=byt X (a+k):=by
 have hsz:(X.extract a (a+m)).size=m:=by simp;omega
 by_cases hk:k<m
 · exact byt_ext X a m k (by omega) hk
 · rw [byt,dif_neg (by omega),byt,dif_neg (by omega)]
theorem lead_shift (X:ByteArray)(a m:Nat)(h:a+m=X.size):∀ (f g q:Nat) (acc:List UInt8),m≤q+f→m≤q+g→(lead X g (a+q) acc).1=(lead (X.extract a (a+m)) f q acc).1∧(lead X g (a+q) acc).2.1=a+(lead (X.extract a (a+m)) f q acc).2.1∧(lead X g (a+q) acc).2.2=(lead (X.extract a (a+m)) f q acc).2.2
 | f,g,q,acc,hf,hg=>by
  have hsz:(X.extract a (a+m)).size=m:=by simp;omega
  by_cases hq:q<m
  case neg =>
    rw [lead_end _ f q acc (by omega),lead_end X g (a+q) acc (by omega),hsz,← h]
    exact⟨rfl,rfl,rfl⟩
  obtain⟨f,rfl⟩:∃ f',f=f'+1:=⟨f-1,by omega⟩
  obtain⟨g,rfl⟩:∃ g',g=g'+1:=⟨g-1,by omega⟩
  have hd:=dec_line X a m q (by omega) hq (.inl h)
  have hr:rn (X.extract a (a+m)) q=rn X (a+q):=by unfold rn;rw [hd]
  have hw:wdt (X.extract a (a+m)) q=wdt X (a+q):=by unfold wdt;rw [hd]
  have hl:looseB (X.extract a (a+m)) q=looseB X (a+q):=by unfold looseB;rw [hr,hw]
  have hb:=byt_tail X a m q h
  have he:esc (fun k=>byt (X.extract a (a+m)) (q+k))=esc (fun k=>byt X (a+q+k)):=by
    congr 1
    funext k
    rw [byt_tail X a m (q+k) h,Nat.add_assoc]
  by_cases c1:byt X (a+q)=34
  · rw [lead_quote X g (a+q) acc (by omega) c1,lead_quote _ f q acc (by omega) (by rw [hb];exact c1)]
    exact⟨rfl,by dsimp only;omega,rfl⟩
  by_cases c2:byt X (a+q)=92
  · cases ho:esc (fun k=>byt X (a+q+k)) with
    | none =>
     rw [lead_none X g (a+q) acc (by omega) c2 ho,lead_none _ f q acc (by omega) (by rw [hb];exact c2) (he.trans ho)]
     exact⟨rfl,rfl,rfl⟩
    | some x =>
     obtain⟨l,n⟩:=x
     have hn:=(esc_ok _ l n ho).1
     rw [lead_some X g (a+q) acc l n (by omega) c2 ho,lead_some _ f q acc l n (by omega) (by rw [hb];exact c2) (he.trans ho),Nat.add_assoc]
     exact lead_shift X a m h f g (q+n) (acc ++ l) (by omega) (by omega)
  by_cases c3:ctl (rn X (a+q):Int)=true∨looseB X (a+q)=true
  · rw [lead_bad X g (a+q) acc (by omega) c1 c2 c3,lead_bad _ f q acc (by omega) (by rw [hb];exact c1) (by rw [hb];exact c2) (by rw [hr,hl];exact c3)]
    exact⟨rfl,rfl,rfl⟩
  · have hwp:=wdt_pos X (a+q)
    rw [lead_char X g (a+q) acc (by omega) c1 c2 c3,lead_char _ f q acc (by omega) (by rw [hb];exact c1) (by rw [hb];exact c2) (by rw [hr,hl];exact c3),hr,hw,Nat.add_assoc]
    exact lead_shift X a m h f g (q+wdt X (a+q)) _ (by omega) (by omega)
termination_by f=>f
theorem ch_bytes {y:ByteArray}:∀ (n q c:Nat),ChAt y q c→(∀ k,k<n→q+k<y.size∧byt y (q+k)<128)→ChAt y (q+n) (c+n)
 | 0,q,c,h,_=>h
 | n+1,q,c,h,hk=>by
  obtain⟨h1,h2⟩:=hk 0 (by omega)
  rw [Nat.add_zero] at h1 h2
  have e:=(rn_asc y q h1 h2).2
  have hs:=h.step h1
  rw [e] at hs
  have:=ch_bytes n (q+1) (c+1) hs (fun k hkn=>by have:=hk (k+1) (by omega);rw [show q+1+k=q+(k+1) by omega];exact this)
  rw [show q+(n+1)=q+1+n by omega,show c+(n+1)=c+1+n by omega]
  exact this
theorem lead_ch (y:ByteArray):∀ (f q c:Nat) (acc:List UInt8),ChAt y q c→∃ c',ChAt y (lead y f q acc).2.1 c'
 | 0,q,c,acc,h=>chAt_end y _ q c (Nat.le_refl _) h
 | f+1,q,c,acc,h=>by
  by_cases hq:q<y.size
  case neg =>
    rw [lead_end y _ q acc hq]
    exact chAt_end y _ q c (Nat.le_refl _) h
  by_cases c1:byt y q=34
  · rw [lead_quote y f q acc hq c1]
    have hs:=h.step hq
    rw [(rn_asc y q hq (by omega)).2] at hs
    exact⟨_,hs⟩
  by_cases c2:byt y q=92
  · cases ho:esc (fun k=>byt y (q+k)) with
    | none =>
     rw [lead_none y f q acc hq c2 ho]
     exact⟨c,h⟩
    | some x =>
     obtain⟨l,n⟩:=x
     obtain⟨k1,k2,k3,k4⟩:=esc_ok _ l n ho
     rw [lead_some y f q acc l n hq c2 ho]
     refine lead_ch y f (q+n) (c+n) _ (ch_bytes n q c h (fun k hk=>?_))
     by_cases k0:k=0
     · subst k0
       rw [Nat.add_zero]
       exact⟨hq,by omega⟩
     · have:=k4 k (by omega) hk
       exact⟨byt_in (by omega),this.2⟩
  by_cases c3:ctl (rn y q:Int)=true∨looseB y q=true
  · rw [lead_bad y f q acc hq c1 c2 c3]
    exact⟨c,h⟩
  · rw [lead_char y f q acc hq c1 c2 c3]
    exact lead_ch y f _ _ _ (h.step hq)
theorem rn_small (s:ByteArray)(p:Nat)(hp:p<s.size)(h:rn s p<128):byt s p=rn s p:=by
 by_cases hb:byt s p<128
 · exact (rn_asc s p hp hb).1.symm
 · exfalso
   unfold rn at h
   rw [shape,get_byt s p hp] at h
   unfold Lib.decodeN at h
   rw [if_neg hb] at h
   revert h
   repeat' split
   all_goals (intro h;dsimp only at h;omega)
def StepE (s:ByteArray)(b m:Nat):Stp→Prop
 | .gap=>byt s b=9∨byt s b=13∨byt s b=32
 | .stop=>byt s b=35
 | .bad e off=>¬ (byt s b=9∨byt s b=13∨byt s b=32)∧byt s b≠35∧(nxD s b (b+m)).2.2=e∧e≠0∧∃ r c,(nxD s b (b+m)).2.1=b+r∧r≤m∧off=cntQ s b (b+r)∧ChAt (s.extract b (b+m)) r c
 | .word k sz=>¬ (byt s b=9∨byt s b=13∨byt s b=32)∧byt s b≠35∧((nxD s b (b+m)).1:Int)=k∧(nxD s b (b+m)).2.1=b+sz∧(nxD s b (b+m)).2.2=0∧sz≤m∧∃ c,ChAt (s.extract b (b+m)) sz c
theorem cls_1 (r:Int)(h:cls r=1):r=9∨r=13∨r=32:=by
 unfold cls at h
 split at h
 · assumption
 · exfalso
   revert h
   repeat' split
   all_goals (intro h;omega)
theorem cls_2 (r:Int)(h:cls r=2):r=10:=by
 unfold cls at h
 revert h
 repeat' split
 all_goals (intro h;omega)
theorem cls_5 (r:Int)(h:cls r=5):33≤r∧r≤126:=by
 unfold cls at h
 revert h
 repeat' split
 all_goals (intro h;omega)
theorem cnt_nil (s:ByteArray)(b:Nat):cntQ s b (b+0)=0:=by
 have hl:=starts_length (s.extract b (b+0))
 have hz:(s.extract b (b+0)).size=0:=by simp
 unfold cntQ
 omega
theorem step_eq (s:ByteArray)(a M p:Nat)(h:a+M≤s.size)(hp:p<M)(hend:a+M=s.size∨byt s (a+M)=10)(hno:byt s (a+p)≠10):StepE s (a+p) (M-p) (stepR (s.extract a (a+M)) p):=by
 have hsz:(s.extract a (a+M)).size=M:=by simp;omega
 have hd:=dec_line s a M p h hp (by omega)
 have hr:rn (s.extract a (a+M)) p=rn s (a+p):=by unfold rn;rw [hd]
 have hbm:a+p+(M-p)=a+M:=by omega
 have hy:(s.extract a (a+M)).extract p (s.extract a (a+M)).size=s.extract (a+p) (a+p+(M-p)):=by rw [hsz,ext_ext s a M p M (Nat.le_refl _),hbm]
 obtain⟨hrun,hcn⟩:=runR_eq s (a+p) (M-p) (by omega) (by rw [hbm];exact hend)
 have hrle:=runR_le (s.extract (a+p) (a+p+(M-p)))
 have hysz:(s.extract (a+p) (a+p+(M-p))).size=M-p:=by simp;omega
 have hch:=(run_eq s (a+p) (M-p) (by omega) (by rw [hbm];exact hend) (M-p+1) s.size 0 0 0 (Nat.zero_le _) (by omega) (by omega) .zero).2.2
 have hrun0:runAt (s.extract (a+p) (a+p+(M-p))) (M-p+1) 0 0=runR (s.extract (a+p) (a+p+(M-p))):=by unfold runR;rw [hysz]
 rw [hrun0] at hch
 have hpx:(s.extract a (a+M)).extract p (p+(runR (s.extract (a+p) (a+p+(M-p)))).1)=s.extract (a+p) (a+p+(runR (s.extract (a+p) (a+p+(M-p)))).1):=(ext_ext s a M p _ (by omega)).trans (congrArg (fun z=>s.extract (a+p) z) (by omega))
 have hsm:rn s (a+p)<128→byt s (a+p)=rn s (a+p):=rn_small s (a+p) (by omega)
 have hasc:byt s (a+p)<128→rn s (a+p)=byt s (a+p):=fun q=>(rn_asc s (a+p) (by omega) q).1
 have hle1:(leadR (s.extract (a+p) (a+p+(M-p)))).2.1≤M-p:=by have:=leadR_le (s.extract (a+p) (a+p+(M-p)));omega
 have hlx:(s.extract a (a+M)).extract p (p+(leadR (s.extract (a+p) (a+p+(M-p)))).2.1)=s.extract (a+p) (a+p+(leadR (s.extract (a+p) (a+p+(M-p)))).2.1):=(ext_ext s a M p _ (by omega)).trans (congrArg (fun z=>s.extract (a+p) z) (by omega))
 have hcl:cls (rn s (a+p):Int)≠2:=fun e=>by
   have e1:=cls_2 _ e
   have e2:=hsm (by omega)
   omega
 have hlo:cls (rn s (a+p):Int)≠6→looseB s (a+p)=false:=fun e=>by
   unfold looseB
   rw [decide_eq_false_iff_not]
   rintro⟨q,_⟩
   rw [q] at e
   exact e (by decide)
 unfold stepR
 rw [hr,hy,hpx,hlx]
 by_cases e34:(rn s (a+p):Int)=34
 · have hk:kindR (rn s (a+p):Int)=4:=by rw [kindR,if_pos e34]
   have hc5:cls (rn s (a+p):Int)=5:=by rw [e34];decide
   have hb34:byt s (a+p)=34:=by have:=hsm (by omega);omega
   have hb0:byt (s.extract (a+p) (a+p+(M-p))) 0=34:=by rw [byt_ext s (a+p) (M-p) 0 (by omega) (by omega)];exact hb34
   have hlr:leadR (s.extract (a+p) (a+p+(M-p)))=lead (s.extract (a+p) (a+p+(M-p))) (M-p) 1 []:=by rw [leadR,if_pos hb0,hysz]
   have hXs:(s.extract 0 (a+p+(M-p))).size=a+p+(M-p):=by simp;omega
   have hXe:(s.extract 0 (a+p+(M-p))).extract (a+p) (a+p+(M-p))=s.extract (a+p) (a+p+(M-p)):=by
     have:=ext_ext s 0 (a+p+(M-p)) (a+p) (a+p+(M-p)) (Nat.le_refl _)
     simpa using this
   have hsh:=lead_shift (s.extract 0 (a+p+(M-p))) (a+p) (M-p) hXs.symm (M-p) (a+p+(M-p)) 1 [] (by omega) (by omega)
   rw [hXe,← hlr] at hsh
   have hn:nxD s (a+p) (a+p+(M-p))=(4,a+p+(leadR (s.extract (a+p) (a+p+(M-p)))).2.1,(leadR (s.extract (a+p) (a+p+(M-p)))).2.2):=by
     unfold nxD
     rw [if_neg (by rw [hlo (by rw [hc5];decide),hc5];simp),if_neg (by rw [hc5];decide),if_neg (by rw [hc5];decide),if_pos hb34,hsh.2.1,hsh.2.2]
   obtain⟨c',hc'⟩:=lead_ch (s.extract (a+p) (a+p+(M-p))) (M-p) 1 1 [] (by
     have:=(ChAt.zero (x:=s.extract (a+p) (a+p+(M-p)))).step (by omega)
     rw [(rn_asc _ 0 (by omega) (by omega)).2] at this
     exact this)
   rw [← hlr] at hc'
   rw [hk,if_neg (by decide),if_neg (by decide),if_neg (by decide),if_neg (by decide),if_pos rfl]
   by_cases he:(leadR (s.extract (a+p) (a+p+(M-p)))).2.2=0
   · rw [if_neg (by rw [he];simp)]
     refine⟨by omega,by omega,?_,?_,?_,hle1,c',hc'⟩
     · rw [hn];rfl
     · rw [hn]
     · rw [hn];exact he
   · rw [if_pos he]
     refine⟨by omega,by omega,?_,he,_,c',?_,hle1,rfl,hc'⟩
     · rw [hn]
     · rw [hn]
 by_cases e35:(rn s (a+p):Int)=35
 · have hk:kindR (rn s (a+p):Int)=-2:=by rw [kindR,if_neg e34,if_pos e35]
   rw [hk,if_neg (by decide),if_pos rfl]
   have:=hsm (by omega)
   show byt s (a+p)=35
   omega
 have h35:byt s (a+p)≠35:=fun e=>by
   have:=hasc (by omega)
   omega
 have hng:cls (rn s (a+p):Int)≠1→¬ (byt s (a+p)=9∨byt s (a+p)=13∨byt s (a+p)=32):=fun hc e=>by
   have e1:=hasc (by omega)
   rw [e1] at hc
   rcases e with e | e | e <;> (rw [e] at hc;exact hc (by decide))
 have hb34:byt s (a+p)≠34:=fun e=>by
   have:=hasc (by omega)
   omega
 by_cases h1:cls (rn s (a+p):Int)=1
 · have hk:kindR (rn s (a+p):Int)=-1:=by rw [kindR,if_neg e34,if_neg e35,if_pos h1]
   rw [hk,if_pos rfl]
   have e1:=cls_1 _ h1
   have e2:=hsm (by omega)
   show byt s (a+p)=9∨byt s (a+p)=13∨byt s (a+p)=32
   omega
 by_cases h3:cls (rn s (a+p):Int)=3
 · have hk:kindR (rn s (a+p):Int)=3:=by rw [kindR,if_neg e34,if_neg e35,if_neg h1,if_pos h3]
   have hn:nxD s (a+p) (a+p+(M-p))=(match numR (s.extract (a+p) (a+p+(runR (s.extract (a+p) (a+p+(M-p)))).1)) with | none=>(0,a+p,21) | some _=>(3,a+p+(runR (s.extract (a+p) (a+p+(M-p)))).1,0)):=by
     unfold nxD
     rw [if_neg (by rw [hlo (by rw [h3];decide),h3];simp),if_neg (by rw [h3];decide),if_pos h3,hrun]
     cases numR (s.extract (a+p) (a+p+(runR (s.extract (a+p) (a+p+(M-p)))).1)) <;> rfl
   rw [hk,if_neg (by decide),if_neg (by decide),if_neg (by decide),if_pos rfl]
   cases hv:numR (s.extract (a+p) (a+p+(runR (s.extract (a+p) (a+p+(M-p)))).1)) with
   | none =>
     rw [hv] at hn
     rw [if_pos rfl]
     exact⟨hng h1,h35,by rw [hn],by decide,0,0,by rw [hn];rfl,Nat.zero_le _,(cnt_nil s (a+p)).symm,.zero⟩
   | some v =>
     rw [hv] at hn
     rw [if_neg (by simp)]
     exact⟨hng h1,h35,by rw [hn];rfl,by rw [hn],by rw [hn],by omega,_,hch⟩
 by_cases h4:cls (rn s (a+p):Int)=4
 · have hk:kindR (rn s (a+p):Int)=2:=by rw [kindR,if_neg e34,if_neg e35,if_neg h1,if_neg h3,if_pos h4]
   have hn:nxD s (a+p) (a+p+(M-p))=(if 128<(runR (s.extract (a+p) (a+p+(M-p)))).2 then (0,a+p,22) else (2,a+p+(runR (s.extract (a+p) (a+p+(M-p)))).1,0)):=by
     unfold nxD
     rw [if_neg (by rw [hlo (by rw [h4];decide),h4];simp),if_pos h4,hrun,hcn]
     rfl
   rw [hk,if_neg (by decide),if_neg (by decide),if_pos rfl]
   by_cases hv:128<(runR (s.extract (a+p) (a+p+(M-p)))).2
   · rw [if_pos hv] at hn
     rw [if_pos hv]
     exact⟨hng h1,h35,by rw [hn],by decide,0,0,by rw [hn];rfl,Nat.zero_le _,(cnt_nil s (a+p)).symm,.zero⟩
   · rw [if_neg hv] at hn
     rw [if_neg hv]
     exact⟨hng h1,h35,by rw [hn];rfl,by rw [hn],by rw [hn],by omega,_,hch⟩
 by_cases h5:cls (rn s (a+p):Int)=5
 · have hk:kindR (rn s (a+p):Int)=5:=by rw [kindR,if_neg e34,if_neg e35,if_neg h1,if_neg h3,if_neg h4,if_pos h5]
   have hr5:=cls_5 _ h5
   have hb5:=hsm (by omega)
   have hw1:=(rn_asc s (a+p) (by omega) (by omega)).2
   have hn:nxD s (a+p) (a+p+(M-p))=(5,a+p+1,0):=by
     unfold nxD
     rw [if_neg (by rw [hlo (by rw [h5];decide),h5];simp),if_neg h4,if_neg h3,if_neg hb34,hw1]
   rw [hk,if_neg (by decide),if_neg (by decide),if_neg (by decide),if_neg (by decide),if_neg (by decide),if_pos rfl]
   refine⟨hng h1,h35,by rw [hn];rfl,by rw [hn],by rw [hn],by omega,1,?_⟩
   have h0:byt (s.extract (a+p) (a+p+(M-p))) 0=byt s (a+p):=byt_ext s (a+p) (M-p) 0 (by omega) (by omega)
   have:=(ChAt.zero (x:=s.extract (a+p) (a+p+(M-p)))).step (by omega)
   rw [(rn_asc _ 0 (by omega) (by omega)).2] at this
   exact this
 have h6:cls (rn s (a+p):Int)=6:=by
   rcases cls_range (rn s (a+p):Int) with q | q | q | q | q | q <;> omega
 have hk:kindR (rn s (a+p):Int)=0:=by rw [kindR,if_neg e34,if_neg e35,if_neg h1,if_neg h3,if_neg h4,if_neg h5]
 have hn:nxD s (a+p) (a+p+(M-p))=(0,a+p,20):=by
   unfold nxD
   rw [if_pos (.inr h6)]
 rw [hk,if_neg (by decide),if_neg (by decide),if_neg (by decide),if_neg (by decide),if_neg (by decide),if_neg (by decide)]
 exact⟨hng h1,h35,by rw [hn],by decide,0,0,by rw [hn];rfl,Nat.zero_le _,(cnt_nil s (a+p)).symm,.zero⟩
end Go.Proofs.YtmahamdmapbilaaGreatDoor
