import Derived.Test.YtmahamdmapbilaaGreatDoorJrJ33
set_option maxHeartbeats 40000000
set_option maxRecDepth 100000
set_option linter.unusedVariables false
namespace Go.Proofs.YtmahamdmapbilaaGreatDoor
open Go.RowKit Go.Shelf
def chp (x:ByteArray):Nat→Nat
 | 0=>0
 | n+1=>chp x n+wdt x (chp x n)
theorem chAt_chp {x:ByteArray}{p c:Nat}(h:ChAt x p c):p=chp x c:=by
 induction h with
 | zero=>rfl
 | step h hp ih=>rw [chp,← ih]
theorem chp_lt (x:ByteArray):∀ (d c:Nat),chp x c+d≤chp x (c+d)
 | 0,c=>Nat.le_refl _
 | d+1,c=>by
  have ih:=chp_lt x d c
  have hw:=wdt_pos x (chp x (c+d))
  have e:chp x (c+(d+1))=chp x (c+d)+wdt x (chp x (c+d)):=rfl
  omega
theorem chAt_lt2 {x:ByteArray}{p c q d:Nat}(h:ChAt x p c)(h':ChAt x q d)(hpq:p<q):c<d∧p+wdt x p≤q:=by
 have e:=chAt_chp h
 have e':=chAt_chp h'
 have hcd:c<d:=by
  rcases Nat.lt_or_ge c d with k | k
  · exact k
  · have:=chp_lt x (c-d) d
    rw [show d+(c-d)=c by omega] at this
    omega
 have:=chp_lt x (d-(c+1)) (c+1)
 rw [show c+1+(d-(c+1))=d by omega,chp,← e] at this
 exact⟨hcd,by omega⟩
theorem chAt_same {x:ByteArray}{p c d:Nat}(h:ChAt x p c)(h':ChAt x p d):c=d:=by
 have e:=chAt_chp h
 have e':=chAt_chp h'
 rcases Nat.lt_trichotomy c d with k | k | k
 · have:=chp_lt x (d-c) c
   rw [show c+(d-c)=d by omega] at this
   omega
 · exact k
 · have:=chp_lt x (c-d) d
   rw [show d+(c-d)=c by omega] at this
   omega
theorem chAt_add {s:ByteArray}{a M p c:Nat}(h:a+M≤s.size)(hend:a+M=s.size∨byt s (a+M)<128)(hp:p≤M)(h1:ChAt (s.extract a (a+M)) p c){r d:Nat}(h2:ChAt (s.extract (a+p) (a+p+(M-p))) r d):ChAt (s.extract a (a+M)) (p+r) (c+d):=by
 have hbm:a+p+(M-p)=a+M:=by omega
 have hsz:(s.extract a (a+M)).size=M:=by simp;omega
 have hysz:(s.extract (a+p) (a+p+(M-p))).size=M-p:=by simp;omega
 induction h2 with
 | zero=>exact h1
 | @step r d h2 hr ih =>
  have e1:=wd_line s a M (p+r) h (by omega) hend
  have e2:=wd_line s (a+p) (M-p) r (by omega) (by omega) (by rw [hbm];exact hend)
  rw [e2,Nat.add_assoc a p r,← e1]
  have:=ih.step (by omega)
  rw [← Nat.add_assoc,← Nat.add_assoc]
  exact this
theorem cut_to (x:ByteArray)(nx c:Nat)(acc:List Tok)(hn:ChAt x nx c):∀ (f p col:Nat),ChAt x p col→p≤nx→x.size<p+f→∃ g,x.size<nx+g∧cutAt x f p nx col acc=cutAt x g nx nx c acc
 | 0,p,col,h,_,hf=>by have:=chAt_le h;omega
 | f+1,p,col,h,hpn,hf=>by
  by_cases e:p=nx
  · subst e
    obtain rfl:=chAt_same h hn
    exact⟨f+1,hf,rfl⟩
  · have hlt:p<nx:=by omega
    have hns:=chAt_le hn
    have h2:=chAt_lt2 h hn hlt
    have hw:=wdt_pos x p
    obtain⟨g,hg,eg⟩:=cut_to x nx c acc hn f (p+wdt x p) (col+1) (h.step (by omega)) h2.2 (by omega)
    exact⟨g,hg,by rw [cut_skip x f p nx col acc (by omega) hlt];exact eg⟩
theorem plc_line (s:ByteArray)(a ln:Nat)(h:plc s a=(ln,a)):∀ r,(∀ k,k<r→byt s (a+k)≠10)→plc s (a+r)=(ln,a)
 | 0,_=>h
 | r+1,hk=>by
  rw [← Nat.add_assoc,plc,if_neg (hk r (by omega))]
  exact plc_line s a ln h r (fun k hr=>hk k (by omega))
structure Loc (s:ByteArray)(i:Nat)(t:ByteArray)(j n:Nat):Prop where
 hs:i+n≤s.size
 ht:j+n≤t.size
 fin:j+n=t.size∨byt t (j+n)<128
 same:s.extract i (i+n)=t.extract j (j+n)
theorem Loc.byt {s t:ByteArray}{i j n:Nat}(h:Loc s i t j n)(q:Nat)(hq:q<n):byt t (j+q)=byt s (i+q):=by
 have h1:=byt_ext s i n q h.hs hq
 have h2:=byt_ext t j n q h.ht hq
 rw [← h1,h.same,h2]
theorem Loc.dec {s t:ByteArray}{i j n:Nat}(h:Loc s i t j n)(q:Nat)(hq:q<n)(hw:q+wdt s (i+q)≤n):Utf8.decode t (j+q)=Utf8.decode s (i+q):=by
 have hs:=h.hs
 have h1:=dec_line t j n q h.ht hq h.fin
 have h2:=dec_pre s (i+q) (i+n) (by omega) (by omega) hs
 have hsz:(s.extract 0 (i+n)).size=i+n:=by simp;omega
 have h3:=dec_line (s.extract 0 (i+n)) i n q (by omega) hq (.inl (by omega))
 have e:(s.extract 0 (i+n)).extract i (i+n)=s.extract i (i+n):=by
  rw [ByteArray.extract_extract,Nat.zero_add,Nat.zero_add,Nat.min_self]
 rw [← h1,← h2,← h3,e,h.same]
theorem Loc.chr {s t:ByteArray}{i j n:Nat}(h:Loc s i t j n)(q:Nat)(hq:q<n)(hw:q+wdt s (i+q)≤n):rn t (j+q)=rn s (i+q)∧wdt t (j+q)=wdt s (i+q)∧looseB t (j+q)=looseB s (i+q):=by
 have hd:=h.dec q hq hw
 have h1:rn t (j+q)=rn s (i+q):=by unfold rn;rw [hd]
 have h2:wdt t (j+q)=wdt s (i+q):=by unfold wdt;rw [hd]
 exact⟨h1,h2,by unfold looseB;rw [h1,h2]⟩
def Sep (b:Nat):Prop:=b=13∨b=32∨b=10
theorem sep_cls {b:Nat}(h:Sep b):b<128∧¬ (cls (b:Int)=3∨cls (b:Int)=4):=by
 rcases h with rfl | rfl | rfl <;> exact⟨by omega,by decide⟩
theorem run_loc {s t:ByteArray}{i j n:Nat}(h:Loc s i t j n)(hb:Sep (byt t (j+n))):∀ (F F' q:Nat),runD s F (i+q)=i+n→q≤n→n≤q+F'→runD t F' (j+q)=j+n
 | F,F',q,hr,hq,hf=>by
  by_cases e:q=n
  · subst e
    refine runD_end t F' (j+q) ?_
    rintro⟨h1,h2,h3⟩
    obtain⟨k1,k2⟩:=sep_cls hb
    have:=rn_asc t (j+q) h1 k1
    rw [this.1] at h3
    exact k2 h3
  · by_cases hc:i+q<s.size∧looseB s (i+q)=false∧(cls (rn s (i+q):Int)=3∨cls (rn s (i+q):Int)=4)
    · cases F with
      | zero=>rw [runD] at hr;omega
      | succ F =>
       rw [runD_on s F (i+q) hc.1 hc.2.1 hc.2.2] at hr
       have hwl:=wdt_le s (i+q) hc.1
       have hle:=(runD_le s F (i+q+wdt s (i+q)) hwl).1
       have hwp:=wdt_pos s (i+q)
       obtain⟨c1,c2,c3⟩:=h.chr q (by omega) (by omega)
       obtain⟨f,rfl⟩:∃ f,F'=f+1:=⟨F'-1,by omega⟩
       have ht:=h.ht
       rw [runD_on t f (j+q) (by omega) (by rw [c3];exact hc.2.1) (by rw [c1];exact hc.2.2),c2,Nat.add_assoc]
       exact run_loc h hb F f (q+wdt s (i+q)) (by rw [← Nat.add_assoc];exact hr) (by omega) (by omega)
    · rw [runD_end s F (i+q) hc] at hr
      omega
termination_by F=>F
theorem num_loc (b b':Nat→Nat):∀ (r p c:Nat) (x:Nat × Nat),r≤6→num b r p c=some x→(∀ k,k<x.2→b' k=b k)→num b' r p c=some x
 | 0,p,c,x,hr,h,hs=>by
  unfold num closeN at h ⊢
  by_cases hc:0≠6∧b p=125∧okR c=true
  · rw [if_pos hc] at h
    cases h
    rw [hs p (by dsimp only;omega),if_pos hc]
  · rw [if_neg hc] at h;cases h
 | r+1,p,c,x,hr,h,hs=>by
  have hk:=(num_ok b (r+1) p c x hr h).1
  have hp:=hs p (by omega)
  unfold num at h ⊢
  rw [hp]
  by_cases hc:0≤hexV (b p)
  · rw [if_pos hc] at h ⊢
    exact num_loc b b' r (p+1) _ x (by omega) h hs
  · rw [if_neg hc] at h ⊢
    unfold closeN at h ⊢
    rw [hp]
    exact h
theorem esc_loc (b b':Nat→Nat)(l:List UInt8)(n:Nat)(h:esc b=some (l,n))(hs:∀ k,k<n→b' k=b k):esc b'=some (l,n):=by
 have hn:=(esc_ok b l n h).1
 have e1:b' 1=b 1:=hs 1 (by omega)
 unfold esc at h ⊢
 rw [e1]
 by_cases c1:b 1=34∨b 1=92
 · rw [if_pos c1] at h ⊢;exact h
 rw [if_neg c1] at h ⊢
 by_cases c2:b 1=110
 · rw [if_pos c2] at h ⊢;exact h
 rw [if_neg c2] at h ⊢
 by_cases c3:b 1=116
 · rw [if_pos c3] at h ⊢;exact h
 rw [if_neg c3] at h ⊢
 by_cases c4:b 1=114
 · rw [if_pos c4] at h ⊢;exact h
 rw [if_neg c4] at h ⊢
 by_cases c5:b 1=120
 · rw [if_pos c5] at h ⊢
   by_cases d:0≤hexV (b 2)∧0≤hexV (b 3)
   · rw [if_pos d] at h
     cases h
     rw [hs 2 (by omega),hs 3 (by omega),if_pos d]
   · rw [if_neg d] at h;cases h
 rw [if_neg c5] at h ⊢
 by_cases c6:b 1=117
 · rw [if_pos c6] at h ⊢
   by_cases d:b 2=123
   · rw [if_pos d] at h
     cases hx:num b 6 3 0 with
     | none=>rw [hx] at h;cases h
     | some x =>
      rw [hx] at h
      have hk:=(num_ok b 6 3 0 x (by omega) hx).1
      have e:x.2=n:=by
       rw [Option.map_some] at h
       exact (Prod.mk.inj (Option.some.inj h)).2
      rw [hs 2 (by omega),if_pos d,num_loc b b' 6 3 0 x (by omega) hx (fun k hk=>hs k (by omega))]
      exact h
   · rw [if_neg d] at h;cases h
 · rw [if_neg c6] at h;cases h
theorem lead_loc {s t:ByteArray}{i j n:Nat}(h:Loc s i t j n):∀ (f f' q:Nat) (acc:List UInt8),(lead s f (i+q) acc).2.2=0→(lead s f (i+q) acc).2.1=i+n→q≤n→n≤q+f'→(lead t f' (j+q) acc).2.2=0∧(lead t f' (j+q) acc).2.1=j+n
 | 0,f',q,acc,h1,h2,hq,hf=>by rw [lead] at h1;cases h1
 | f+1,f',q,acc,h1,h2,hq,hf=>by
  have hs:=h.hs
  have ht:=h.ht
  by_cases hp:i+q<s.size
  case neg=>rw [lead_end s _ _ acc hp] at h1;cases h1
  have hgt:q<n:=by
    by_cases c1:byt s (i+q)=34
    · rw [lead_quote s f _ acc hp c1] at h2;dsimp only at h2;omega
    by_cases c2:byt s (i+q)=92
    · cases ho:esc (fun k=>byt s (i+q+k)) with
      | none=>rw [lead_none s f _ acc hp c2 ho] at h1;cases h1
      | some x =>
       obtain⟨l,m⟩:=x
       have hm:=(esc_ok _ l m ho).1
       rw [lead_some s f _ acc l m hp c2 ho] at h1 h2
       have:=lead_gt s f _ _ h1
       omega
    by_cases c3:ctl (rn s (i+q):Int)=true∨looseB s (i+q)=true
    · rw [lead_bad s f _ acc hp c1 c2 c3] at h1;cases h1
    · rw [lead_char s f _ acc hp c1 c2 c3] at h1 h2
      have:=lead_gt s f _ _ h1
      have:=wdt_pos s (i+q)
      omega
  obtain⟨f',rfl⟩:∃ g,f'=g+1:=⟨f'-1,by omega⟩
  have hb:=h.byt q hgt
  by_cases c1:byt s (i+q)=34
  · rw [lead_quote s f _ acc hp c1] at h2
    rw [lead_quote t f' _ acc (by omega) (by omega)]
    dsimp only at h2 ⊢
    exact⟨rfl,by omega⟩
  by_cases c2:byt s (i+q)=92
  · cases ho:esc (fun k=>byt s (i+q+k)) with
    | none=>rw [lead_none s f _ acc hp c2 ho] at h1;cases h1
    | some x =>
      obtain⟨l,m⟩:=x
      have hm:=(esc_ok _ l m ho).1
      rw [lead_some s f _ acc l m hp c2 ho] at h1 h2
      have hg:=lead_gt s f _ _ h1
      have hqm:q+m≤n:=by omega
      have ho':=esc_loc _ (fun k=>byt t (j+q+k)) l m ho (fun k hk=>by
       have:=h.byt (q+k) (by omega)
       rw [← Nat.add_assoc,← Nat.add_assoc] at this
       exact this)
      rw [lead_some t f' _ acc l m (by omega) (by omega) ho',Nat.add_assoc]
      rw [Nat.add_assoc] at h1 h2
      exact lead_loc h f f' (q+m) _ h1 h2 hqm (by omega)
  by_cases c3:ctl (rn s (i+q):Int)=true∨looseB s (i+q)=true
  · rw [lead_bad s f _ acc hp c1 c2 c3] at h1;cases h1
  · rw [lead_char s f _ acc hp c1 c2 c3] at h1 h2
    have hg:=lead_gt s f _ _ h1
    have hwp:=wdt_pos s (i+q)
    have hqm:q+wdt s (i+q)≤n:=by omega
    obtain⟨e1,e2,e3⟩:=h.chr q hgt hqm
    rw [lead_char t f' _ acc (by omega) (by omega) (by omega) (by rw [e1,e3];exact c3),e1,e2,Nat.add_assoc]
    rw [Nat.add_assoc] at h1 h2
    exact lead_loc h f f' (q+wdt s (i+q)) _ h1 h2 hqm (by omega)
theorem le_ge (t:ByteArray)(j n E:Nat)(hE:LEnd t (j+1) E)(h:j+n<t.size)(hno:∀ k,k<n→byt t (j+k)≠10):j+n≤E:=by
 obtain⟨a,b,c,d⟩:=hE
 by_cases e:j+n≤E
 · exact e
 · exfalso
   rcases d with d | d
   · omega
   · obtain⟨k,hk⟩:∃ k,E=j+k:=⟨E-j,by omega⟩
     rw [hk] at d
     exact hno k (by omega) d
theorem nx_loc (s:ByteArray)(i E:Nat)(hi:i<s.size)(hE:LEnd s (i+1) E)(h0:(nxD s i E).2.2=0)(n:Nat)(hn:(nxD s i E).2.1=i+n)(t:ByteArray)(j E':Nat)(h:Loc s i t j n)(hb:Sep (byt t (j+n)))(hE':LEnd t (j+1) E')(htn:j+n<t.size):nxD t j E'=((nxD s i E).1,j+n,0):=by
 have hbd:=nx_bounds s i E hi hE h0
 have hn0:0<n:=by omega
 have ht:=h.ht
 have hb0:=h.byt 0 hn0
 rw [Nat.add_zero,Nat.add_zero] at hb0
 have hsz:=hE'.2.1
 unfold nxD at h0 hn ⊢
 by_cases c1:looseB s i=true∨cls (rn s i:Int)=6
 · rw [if_pos c1] at h0;cases h0
 rw [if_neg c1] at h0 hn ⊢
 have hlo:looseB s i=false:=by
   cases e:looseB s i with
   | false=>rfl
   | true=>exact absurd (.inl e) c1
 have key:wdt s i≤n→(looseB t j=looseB s i∧rn t j=rn s i∧wdt t j=wdt s i):=fun hw=>by
   have:=h.chr 0 hn0 (by rw [Nat.add_zero];omega)
   rw [Nat.add_zero,Nat.add_zero] at this
   exact⟨this.2.2,this.1,this.2.1⟩
 by_cases c2:cls (rn s i:Int)=4
 · rw [if_pos c2] at h0 hn ⊢
   by_cases c:128<(starts (s.extract i (runD s s.size i))).length
   · rw [if_pos c] at h0;cases h0
   rw [if_neg c] at hn ⊢
   dsimp only at hn ⊢
   have hw:wdt s i≤n:=by
     obtain⟨z,hz⟩:∃ z,s.size=z+1:=⟨s.size-1,by omega⟩
     rw [hz,runD_on s z i hi hlo (.inr c2)] at hn
     have:=(runD_le s z (i+wdt s i) (wdt_le s i hi)).1
     omega
   obtain⟨k1,k2,k3⟩:=key hw
   have hr:=run_loc h hb s.size t.size 0 (by rw [Nat.add_zero];exact hn) (Nat.zero_le _) (by omega)
   rw [Nat.add_zero] at hr
   rw [hn,h.same] at c
   rw [if_neg (by rw [k1,k2];exact c1),if_pos (by rw [k2];exact c2),hr,if_neg c]
 rw [if_neg c2] at h0 hn ⊢
 by_cases c3:cls (rn s i:Int)=3
 · rw [if_pos c3] at h0 hn ⊢
   cases hm:numR (s.extract i (runD s s.size i)) with
   | none=>rw [hm] at h0;cases h0
   | some v =>
     rw [hm] at hn
     dsimp only at hn ⊢
     have hw:wdt s i≤n:=by
       obtain⟨z,hz⟩:∃ z,s.size=z+1:=⟨s.size-1,by omega⟩
       rw [hz,runD_on s z i hi hlo (.inl c3)] at hn
       have:=(runD_le s z (i+wdt s i) (wdt_le s i hi)).1
       omega
     obtain⟨k1,k2,k3⟩:=key hw
     have hr:=run_loc h hb s.size t.size 0 (by rw [Nat.add_zero];exact hn) (Nat.zero_le _) (by omega)
     rw [Nat.add_zero] at hr
     rw [hn,h.same] at hm
     rw [if_neg (by rw [k1,k2];exact c1),if_neg (by rw [k2];exact c2),if_pos (by rw [k2];exact c3),hr,hm]
 rw [if_neg c3] at h0 hn ⊢
 by_cases c4:byt s i=34
 · rw [if_pos c4] at h0 hn ⊢
   dsimp only at h0 hn ⊢
   have hw1:=(rn_asc s i hi (by omega)).2
   obtain⟨k1,k2,k3⟩:=key (by omega)
   have hEs:=hE.2.1
   have hsE:(s.extract 0 E).size=E:=by simp;omega
   have htE:(t.extract 0 E').size=E':=by simp;omega
   have hle:=lead_le (s.extract 0 E) E (i+1) [] (by have:=hE.1;omega)
   rw [hn,hsE] at hle
   have hlt:j+n≤E':=le_ge t j n E' hE' htn (fun k hk=>by
     rw [h.byt k hk]
     by_cases e:k=0
     · rw [e,Nat.add_zero];omega
     · exact hE.2.2.1 (i+k) (by omega) (by omega))
   have hL:Loc (s.extract 0 E) i (t.extract 0 E') j n:=⟨by omega,by omega,(by
     by_cases e:j+n=E'
     · exact .inl (by omega)
     · have:=byt_ext t 0 E' (j+n) (by omega) (by omega)
       rw [Nat.zero_add,Nat.zero_add] at this
       rw [this]
       exact .inr (sep_cls hb).1),by
     rw [ByteArray.extract_extract,ByteArray.extract_extract,Nat.zero_add,Nat.zero_add,Nat.zero_add,Nat.zero_add,Nat.min_eq_left hle,Nat.min_eq_left (by omega)]
     exact h.same⟩
   obtain⟨l1,l2⟩:=lead_loc hL E E' 1 [] h0 hn (by omega) (by omega)
   rw [if_neg (by rw [k1,k2];exact c1),if_neg (by rw [k2];exact c2),if_neg (by rw [k2];exact c3),if_pos (by omega),l1,l2]
 · rw [if_neg c4] at h0 hn ⊢
   dsimp only at hn ⊢
   obtain⟨k1,k2,k3⟩:=key (by omega)
   rw [if_neg (by rw [k1,k2];exact c1),if_neg (by rw [k2];exact c2),if_neg (by rw [k2];exact c3),if_neg (by omega),k3,show wdt s i=n by omega]
def frr (ln:Nat)(t:Tok):Fou:=(t.1,t.2.1,(ln:Int),(t.2.2:Int))
theorem cnt_ch {s:ByteArray}{a M p c:Nat}(h:ChAt (s.extract a (a+M)) p c)(hp:p≤M):cntQ s a (a+p)=c:=by
 have h1:=chAt_cnt h
 unfold cntQ at h1 ⊢
 rw [ext_ext s a M 0 p hp,Nat.add_zero] at h1
 exact h1
theorem line_eq (s:ByteArray)(a M ln:Nat)(h:a+M≤s.size)(hend:a+M=s.size∨byt s (a+M)=10)(hno:∀ k,k<M→byt s (a+k)≠10)(hpl:plc s a=(ln,a)):∀ (n p nx col f F:Nat) (acc:List Tok) (so:Bool) (l:List Fou),M-p≤n→p≤M→nx≤p→ChAt (s.extract a (a+M)) p col→M<p+f→s.size+1<a+p+F →
  ∃ tk:List Tok,(cutAt (s.extract a (a+M)) f p nx col acc=(acc ++ tk,0,0)∧∃ G,s.size+1<a+M+G∧scD s F (a+p) ln a so l=scD s G (a+M) ln a (so || decide (tk≠[])) (l ++ tk.map (frr ln)))∨(∃ e c,cutAt (s.extract a (a+M)) f p nx col acc=(acc ++ tk,e,c)∧e≠0∧scD s F (a+p) ln a so l=.inr (e,ln,c)):=by
 intro n
 induction n with
 | zero =>
  intro p nx col f F acc so l hn hp hx hc hf hF
  obtain⟨f,rfl⟩:∃ f',f=f'+1:=⟨f-1,by omega⟩
  have hsz:(s.extract a (a+M)).size=M:=by simp;omega
  obtain rfl:p=M:=by omega
  exact⟨[],.inl ⟨by rw [cut_end _ f p nx col acc (by omega)];simp,F,hF,by simp⟩⟩
 | succ n ih =>
  intro p nx col f F acc so l hn hp hx hc hf hF
  have hsz:(s.extract a (a+M)).size=M:=by simp;omega
  obtain⟨f,rfl⟩:∃ f',f=f'+1:=⟨f-1,by omega⟩
  by_cases hpM:p<M
  case neg =>
   obtain rfl:p=M:=by omega
   exact⟨[],.inl ⟨by rw [cut_end _ f p nx col acc (by omega)];simp,F,hF,by simp⟩⟩
  obtain⟨F,rfl⟩:∃ F',F=F'+1:=⟨F-1,by omega⟩
  have hst:=step_eq s a M p h hpM hend (hno p hpM)
  have hb:=byt_ext s a M p h hpM
  have hend':a+M=s.size∨byt s (a+M)<128:=by omega
  have hbm:a+p+(M-p)=a+M:=by omega
  have hL:∀ q,a≤q→q≤a+M→LEnd s q (a+M):=fun q h1 h2=>⟨h2,h,fun j j1 j2=>by have:=hno (j-a) (by omega);rw [show a+(j-a)=j by omega] at this;exact this,hend⟩
  have hE1:LE s (a+p+1)=a+p+(M-p):=by rw [hbm];exact (le_end s (a+p+1) (by omega)).uniq (hL _ (by omega) (by omega))
  rw [cut_step _ f p nx col acc (by omega) (by omega)]
  cases hs:stepR (s.extract a (a+M)) p with
  | gap =>
   rw [hs] at hst
   have hg:byt s (a+p)=9∨byt s (a+p)=13∨byt s (a+p)=32:=hst
   have hw:=(rn_asc (s.extract a (a+M)) p (by omega) (by omega)).2
   have hc2:=hc.step (by omega)
   rw [hw] at hc2
   dsimp only
   rw [hw,sc_gap s F (a+p) ln a so l (by omega) hg]
   exact ih (p+1) nx (col+1) f F acc so l (by omega) (by omega) (by omega) hc2 (by omega) (by omega)
  | stop =>
   rw [hs] at hst
   have h35:byt s (a+p)=35:=hst
   refine⟨[],.inl ⟨by simp,F,by omega,?_⟩⟩
   rw [sc_rem s F (a+p) ln a so l (by omega) h35,(le_end s (a+p) (by omega)).uniq (hL _ (by omega) (by omega))]
   simp
  | bad e off =>
   rw [hs] at hst
   obtain⟨ng,n35,he,hne,r,c,hr1,hr2,hoff,hch⟩:=hst
   refine⟨[],.inr ⟨e,col+1+off,by simp,hne,?_⟩⟩
   rw [sc_err s F (a+p) ln a so l (by omega) (hno p hpM) ng n35 (by rw [hE1,he];exact hne),hE1,he,hr1]
   have hadd:=chAt_add h hend' hp hc hch
   have hcn:=cnt_ch hadd (by omega)
   have hof:=cnt_ch hch hr2
   have hp2:=plc_line s a ln hpl (p+r) (fun k hk=>hno k (by omega))
   rw [← Nat.add_assoc] at hcn hp2
   rw [hp2]
   dsimp only
   rw [hcn,hoff,hof]
   rw [show col+c+1=col+1+c by omega]
  | word k sz =>
   rw [hs] at hst
   obtain⟨ng,n35,hk,h21,h22,hszm,c,hch⟩:=hst
   have hadd:=chAt_add h hend' hp hc hch
   have hbd:=nx_bounds s (a+p) (a+p+(M-p)) (by omega) (by rw [hbm];exact hL _ (by omega) (by omega)) h22
   have hlt:=chAt_lt2 hc hadd (by omega)
   have hw:=wdt_pos (s.extract a (a+M)) p
   have hcn:=cnt_ch hc hp
   have hxe:(s.extract a (a+M)).extract p (p+sz)=s.extract (a+p) (a+p+sz):=(ext_ext s a M p _ (by omega)).trans (congrArg (fun z=>s.extract (a+p) z) (by omega))
   dsimp only
   rw [sc_word s F (a+p) ln a so l (by omega) (hno p hpM) ng n35 (by rw [hE1];exact h22),hE1,h21,hk,hcn,hxe]
   obtain⟨g,hg,eg⟩:=cut_to (s.extract a (a+M)) (p+sz) (col+c) (acc ++ [(k,s.extract (a+p) (a+p+sz),col+1)]) hadd f (p+wdt (s.extract a (a+M)) p) (col+1) (hc.step (by omega)) hlt.2 (by omega)
   rw [eg,Nat.add_assoc a p sz]
   obtain⟨tk,hh⟩:=ih (p+sz) (p+sz) (col+c) g F (acc ++ [(k,s.extract (a+p) (a+(p+sz)),col+1)]) true (l ++ [(k,s.extract (a+p) (a+(p+sz)),(ln:Int),((col+1:Nat):Int))]) (by omega) (by omega) (Nat.le_refl _) hadd (by omega) (by omega)
   refine⟨(k,s.extract (a+p) (a+(p+sz)),col+1) :: tk,?_⟩
   rcases hh with ⟨h1,G,h2,h3⟩ | ⟨e,c',h1,h2,h3⟩
   · exact .inl ⟨by rw [h1];simp,G,h2,by rw [h3];simp [frr]⟩
   · exact .inr ⟨e,c',by rw [h1];simp,h2,h3⟩
theorem line_done (s:ByteArray)(a M n:Nat)(h:a+M≤s.size)(hend:a+M=s.size∨byt s (a+M)=10)(hno:∀ k,k<M→byt s (a+k)≠10)(hpl:plc s a=(n+1,a))(F:Nat)(l:List Fou)(hF:s.size+1<a+F) :
   ((cutR (s.extract a (a+M))).2.1=0∧∃ G,s.size+1<a+M+1+G∧scD s F a (n+1) a false l=scD s G (a+M+1) (n+1+1) (a+M+1) false (l ++ lineQ (n+1) (s.extract a (a+M))))∨((cutR (s.extract a (a+M))).2.1≠0∧scD s F a (n+1) a false l=.inr ((cutR (s.extract a (a+M))).2.1,n+1,(cutR (s.extract a (a+M))).2.2)):=by
 have hsz:(s.extract a (a+M)).size=M:=by simp;omega
 obtain⟨tk,hh⟩:=line_eq s a M (n+1) h hend hno hpl M 0 0 0 (M+1) F [] false l (by omega) (Nat.zero_le _) (Nat.le_refl _) .zero (by omega) hF
 have hcr:cutR (s.extract a (a+M))=cutAt (s.extract a (a+M)) (M+1) 0 0 0 []:=by rw [cutR,hsz]
 rw [List.nil_append,← hcr] at hh
 rcases hh with ⟨h1,G,h2,h3⟩ | ⟨e,c,h1,h2,h3⟩
 · left
   obtain⟨G,rfl⟩:∃ G',G=G'+1:=⟨G-1,by omega⟩
   refine⟨by rw [h1],G,by omega,?_⟩
   have h3':scD s F a (n+1) a false l=_:=h3
   rw [h3',sc_eol s G (a+M) (n+1) a _ _ (by omega) hend]
   congr 1
   unfold lineQ
   rw [h1]
   cases tk with
   | nil=>simp
   | cons t tk =>
    rw [if_pos (by simp),if_neg (by simp),List.append_assoc]
    rfl
 · right
   rw [h1]
   exact⟨h2,h3⟩
def TxE (s:ByteArray)(F o n:Nat)(l:List Fou)(L:List ByteArray):Prop:=match badL L with
 | none=>scD s F o (n+1) o false l=.inl (l ++ fours n L)
 | some (i,er,c)=>scD s F o (n+1) o false l=.inr (er,n+i+1,c)
theorem last_eq (s:ByteArray)(o n F:Nat)(l:List Fou)(ho:o≤s.size)(hno:∀ k,k<s.size-o→byt s (o+k)≠10)(hpl:plc s o=(n+1,o))(hF:s.size+1<o+F):TxE s F o n l [s.extract o s.size]:=by
 have e:s.extract o s.size=s.extract o (o+(s.size-o)):=by congr 1;omega
 rcases line_done s o (s.size-o) n (by omega) (.inl (by omega)) hno hpl F l hF with ⟨h1,G,h2,h3⟩ | ⟨h1,h3⟩
 · have hb:badL [s.extract o s.size]=none:=by rw [badL,badL,e,if_neg (by rw [h1];simp)];rfl
   unfold TxE
   rw [hb]
   obtain⟨G,rfl⟩:∃ G',G=G'+1:=⟨G-1,by omega⟩
   dsimp only
   rw [h3,sc_end s G _ _ _ _ _ (by omega),fours,fours,List.append_nil,e]
 · have hb:badL [s.extract o s.size]=some (0,(cutR (s.extract o s.size)).2.1,(cutR (s.extract o s.size)).2.2):=by rw [badL,e,if_pos h1]
   unfold TxE
   rw [hb]
   dsimp only
   rw [h3,← e]
theorem text_eq (s:ByteArray):∀ (f o n F:Nat) (l:List Fou),o≤s.size→s.size-o≤f→plc s o=(n+1,o)→s.size+1<o+F→TxE s F o n l (linesAux f (s.extract o s.size)):=by
 intro f
 induction f with
 | zero =>
  intro o n F l ho hf hpl hF
  rw [linesAux]
  exact last_eq s o n F l ho (fun k hk=>by omega) hpl hF
 | succ f ih =>
  intro o n F l ho hf hpl hF
  have hz:(s.extract o s.size).size=s.size-o:=by simp
  by_cases hn:nlAt (s.extract o s.size)<0
  · rw [lines_last hn]
    refine last_eq s o n F l ho (fun k hk=>?_) hpl hF
    have:=nl_none hn k (by omega)
    rwa [byt_extract s o k ho] at this
  · obtain⟨m,e⟩:=Int.eq_ofNat_of_zero_le (show 0≤nlAt (s.extract o s.size) by omega)
    obtain⟨b1,b2,b3⟩:=nl_some e
    rw [byt_extract s o m ho] at b1
    have b4:∀ k,k<m→byt s (o+k)≠10:=fun k hk=>by have:=b3 k hk;rwa [byt_extract s o k ho] at this
    have e1:(s.extract o s.size).extract 0 m=s.extract o (o+m):=by
      rw [ByteArray.extract_extract]
      congr 1
      omega
    have e2:(s.extract o s.size).extract (m+1) (s.extract o s.size).size=s.extract (o+m+1) s.size:=by
      rw [ByteArray.extract_extract,hz]
      congr 1 <;> omega
    rw [lines_more e,e1,e2]
    rcases line_done s o m n (by omega) (.inr b1) b4 hpl F l hF with ⟨h1,G,h2,h3⟩ | ⟨h1,h3⟩
    · have hp2:plc s (o+m+1)=(n+1+1,o+m+1):=by rw [plc,if_pos b1,plc_line s o (n+1) hpl m b4]
      have hi:=ih (o+m+1) (n+1) G (l ++ lineQ (n+1) (s.extract o (o+m))) (by omega) (by omega) hp2 (by omega)
      unfold TxE at hi ⊢
      rw [badL,if_neg (by rw [h1];simp)]
      cases hb:badL (linesAux f (s.extract (o+m+1) s.size)) with
      | none =>
       rw [hb] at hi
       dsimp only [Option.map] at hi ⊢
       rw [h3,hi,fours,List.append_assoc]
      | some r =>
       obtain⟨i,er,c⟩:=r
       rw [hb] at hi
       dsimp only [Option.map] at hi ⊢
       rw [h3,hi,show n+1+i+1=n+(i+1)+1 by omega]
    · unfold TxE
      rw [badL,if_pos h1]
      exact h3
theorem scan_eq (s:ByteArray):TxE s (s.size+2) 0 0 [] (linesOf s):=by
 have h:=text_eq s s.size 0 0 (s.size+2) [] (Nat.zero_le _) (by omega) rfl (by omega)
 have e:s.extract 0 s.size=s:=by simp
 rw [e] at h
 exact h
structure Wrd (N:Nat)(k:Int)(x:ByteArray):Prop where
 some:0<x.size
 le:x.size≤N
 there:∀ (t:ByteArray) (j:Nat),j+x.size<t.size→t.extract j (j+x.size)=x→Sep (byt t (j+x.size))→(byt t j≠10∧¬ (byt t j=9∨byt t j=13∨byt t j=32)∧byt t j≠35)∧((nxD t j (LE t (j+1))).1:Int)=k∧(nxD t j (LE t (j+1))).2.1=j+x.size∧(nxD t j (LE t (j+1))).2.2=0
def Shp (N:Nat):Bool→List Fou→Prop
 | so,[]=>so=false
 | so,q :: r=>(q.1=1∧q.2.1=⟨#[10]⟩∧so=true∧Shp N false r)∨(q.1≠1∧Wrd N q.1 q.2.1∧Shp N true r)
theorem nx_kind (s:ByteArray)(i E:Nat)(_:(nxD s i E).2.2=0):(nxD s i E).1≠1:=by
 unfold nxD
 split
 · dsimp only;omega
 split
 · split <;> (dsimp only;omega)
 split
 · split <;> (dsimp only;omega)
 split <;> (dsimp only;omega)
theorem sc_shp (s:ByteArray):∀ (f i ln fr:Nat) (so:Bool) (l r:List Fou),scD s f i ln fr so l=.inl r→s.size+1<i+f→(s.size<i→so=false)→∃ m,r=l ++ m∧Shp s.size so m
 | 0,i,ln,fr,so,l,r,h,hf,hso=>by
  rw [scD] at h
  cases h
  exact⟨[],by simp,hso (by omega)⟩
 | f+1,i,ln,fr,so,l,r,h,hf,hso=>by
  by_cases h0:s.size<i
  · rw [sc_end s f i ln fr so l h0] at h
    cases h
    exact⟨[],by simp,hso h0⟩
  by_cases h1:i=s.size∨byt s i=10
  · rw [sc_eol s f i ln fr so l h0 h1] at h
    obtain⟨m,e,hm⟩:=sc_shp s f (i+1) (ln+1) (i+1) false _ r h (by omega) (fun _=>rfl)
    cases so with
    | false=>exact⟨m,by rw [e,if_neg (by simp)],hm⟩
    | true=>exact⟨(1,⟨#[10]⟩,(ln:Int),((cntQ s fr i+1:Nat):Int)) :: m,by rw [e,if_pos rfl,List.append_assoc];rfl,.inl ⟨rfl,rfl,rfl,hm⟩⟩
  have hi:i<s.size:=by omega
  have h1':byt s i≠10:=fun e=>h1 (.inr e)
  by_cases h2:byt s i=9∨byt s i=13∨byt s i=32
  · rw [sc_gap s f i ln fr so l hi h2] at h
    exact sc_shp s f (i+1) ln fr so l r h (by omega) (fun q=>by omega)
  by_cases h3:byt s i=35
  · rw [sc_rem s f i ln fr so l hi h3] at h
    obtain⟨a,b,c,d⟩:=le_end s i (by omega)
    have:i<LE s i:=by
     rcases Nat.lt_or_ge i (LE s i) with q | q
     · exact q
     · exfalso
       have e:LE s i=i:=by omega
       rw [e] at d
       rcases d with d | d <;> omega
    exact sc_shp s f (LE s i) ln fr so l r h (by omega) (fun q=>by omega)
  by_cases h4:(nxD s i (LE s (i+1))).2.2=0
  · rw [sc_word s f i ln fr so l hi h1' h2 h3 h4] at h
    have hE:=le_end s (i+1) (by omega)
    obtain⟨b1,b2⟩:=nx_bounds s i _ hi hE h4
    obtain⟨n,hn⟩:∃ n,(nxD s i (LE s (i+1))).2.1=i+n:=⟨(nxD s i (LE s (i+1))).2.1-i,by omega⟩
    have hk:=nx_kind s i _ h4
    rw [hn] at h b1 b2
    obtain⟨m,e,hm⟩:=sc_shp s f (i+n) ln fr true _ r h (by omega) (fun q=>by omega)
    have hsz:(s.extract i (i+n)).size=n:=by simp;omega
    refine⟨_ :: m,by rw [e,List.append_assoc];rfl,.inr ⟨by dsimp only;omega,⟨by dsimp only;omega,by dsimp only;omega,?_⟩,hm⟩⟩
    dsimp only
    rw [hsz]
    intro t j ht he hb
    have hL:Loc s i t j n:=⟨b2,by omega,.inr (sep_cls hb).1,he.symm⟩
    have hE':=le_end t (j+1) (by omega)
    have hx:=nx_loc s i _ hi hE h4 n hn t j _ hL hb hE' ht
    have hb0:=hL.byt 0 (by omega)
    rw [Nat.add_zero,Nat.add_zero] at hb0
    rw [hx,hb0]
    exact⟨⟨h1',h2,h3⟩,rfl,rfl,rfl⟩
  · rw [sc_err s f i ln fr so l hi h1' h2 h3 h4] at h
    cases h
theorem rest_app (t x y:ByteArray)(p:Nat)(hp:p≤t.size)(h:t.extract p t.size=x ++ y):p+x.size≤t.size∧(∀ k,k<x.size→byt t (p+k)=byt x k)∧t.extract (p+x.size) t.size=y∧t.extract p (p+x.size)=x:=by
 have hsz:(t.extract p t.size).size=t.size-p:=by simp
 rw [h,ByteArray.size_append] at hsz
 refine⟨by omega,fun k hk=>?_,?_,?_⟩
 · rw [← byt_extract t p k hp,h,byt_get (s:=x ++ y) (by rw [ByteArray.size_append];omega),byt_get hk]
   congr 1
   exact ByteArray.getElem_append_left hk
 · have e:(x ++ y).extract x.size (x.size+y.size)=y:=ByteArray.extract_append_eq_right rfl rfl
   rw [← h,ByteArray.extract_extract] at e
   rw [← e]
   congr 1
   omega
 · have e:(x ++ y).extract 0 x.size=x:=ByteArray.extract_append_eq_left rfl
   rw [← h,ByteArray.extract_extract] at e
   conv=>rhs;rw [← e]
   congr 1
   omega
end Go.Proofs.YtmahamdmapbilaaGreatDoor
