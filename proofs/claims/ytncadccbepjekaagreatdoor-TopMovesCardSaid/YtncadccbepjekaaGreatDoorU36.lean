/- Texts of mine, joined. -/
import Derived.Test.YtncadccbepjekaaGreatDoorU32
import Derived.Test.YtncadccbepjekaaGreatDoorU33
set_option maxRecDepth 100000
namespace Go.Proofs.YtncadccbepjekaaGreatDoor
open Go.RowKit
def andThen (r:Nat × Dst) (f:Dst->Nat × Dst):Nat × Dst:=if r.1=0 then f r.2 else r
def abb (p:Nat) (b rec:List UInt8) (s:Dst):Nat × Dst:=
 andThen (andThen (andThen (andThen (andThen (dwr s p (List.replicate 512 0)) dfl) (fun s=>adS s (p+1) b)) dfl) (fun s=>dwr s p rec)) dfl
def afK (x y:Sk) (half:Nat) (b:List UInt8) (s:Dst):Nat × Dst:=
 if 512*(half-1)<b.length\/4611686018427387904<=max x.G y.G then (7,s) else
 abb ((if adI x y=0 then 1 else 0)*half) b (abx (max x.G y.G+1) b.length (abd 0 b)) s
theorem aao{r:Nat × Dst}{f:Dst->Nat × Dst}(h:r.1=0):andThen r f=f r.2:=if_pos h
theorem aaN{r:Nat × Dst}{f:Dst->Nat × Dst}(h:r.1≠0):andThen r f=r:=if_neg h
theorem ajm (l:Int) (j:Nat):ab1 l j<=l:=by unfold ab1;split<;>omega
theorem asZ (s:Dst) (p:Nat) (d:List UInt8):(dwr s p d).2.wt.length<=s.wt.length+1/\(dwr s p d).2.left<=s.left:=by
 unfold dwr;split
 · exact⟨Nat.le_succ _,Int.le_refl _⟩
 · exact⟨by simp,ajm _ _⟩
theorem avc (s:Dst):(dfl s).2.wt.length<=s.wt.length/\(dfl s).2.left<=s.left:=by
 unfold dfl;split
 · exact⟨Nat.le_refl _,Int.le_refl _⟩
 · exact⟨Nat.zero_le _,Int.le_refl _⟩
theorem aud (s:Dst) (p:Nat) (b:List UInt8):(adS s p b).2.wt.length<=s.wt.length+need b.length/\(adS s p b).2.left<=s.left:=by
 unfold adS;refine⟨?_,ajm _ _⟩;dsimp only;rw[List.length_append,ag1];have:wk (need b.length) s.left s.off<=need b.length:=by unfold wk;split;omega;split;omega;omega
 omega
section
variable {N:Nat} {S:Nat->Prop} {w w1 w2:World} {g:Nat} {s:Dst}
end
def ajn (s:Dst):Prop:=s.off=false/\s.left<0
section
variable {s:Dst}
theorem adJ (h:ajn s) (p:Nat) (d:List UInt8):(dwr s p d).1=0/\ajn (dwr s p d).2:=by
 unfold dwr;rw[if_neg (by rintro(e | e);· rw[h.1]at e;cases e
                          · have:=h.2;omega)]
 exact⟨rfl,h.1,by show ab1 _ _<0;unfold ab1;rw[if_pos h.2];exact h.2⟩
theorem ac3 (h:ajn s):(dfl s).1=0/\ajn (dfl s).2/\(dfl s).2.wt= []:=by
 unfold dfl;rw[if_neg (by rw[h.1];decide)];exact⟨rfl,h,rfl⟩
theorem afk (h:ajn s) (p:Nat) (b:List UInt8):(adS s p b).1=0/\ajn (adS s p b).2:=by
 have e:wk (need b.length) s.left s.off=need b.length:=by unfold wk;rw[if_neg (by rw[h.1];decide),if_pos h.2]
 unfold adS;rw[e];refine⟨if_neg (Nat.lt_irrefl _),?_,?_⟩
 · show(s.off || decide (need b.length<need b.length))=false;rw[h.1];simp
 · show ab1 _ _<0;unfold ab1;rw[if_pos h.2];exact h.2
theorem afL (h:ajn s) (p:Nat) (b rec:List UInt8):(abb p b rec s).1=0/\ajn (abb p b rec s).2/\(abb p b rec s).2.wt= []:=by
 obtain⟨a1,h1⟩:=adJ h p (List.replicate 512 0);obtain⟨a2,h2,_⟩:=ac3 h1;obtain⟨a3,h3⟩:=afk h2 (p+1) b;obtain⟨a4,h4,_⟩:=ac3 h3;obtain⟨a5,h5⟩:=adJ h4 p rec;unfold abb;rw[aao a1,aao a2,aao a3,aao a4,aao a5];exact ac3 h5
theorem ane (p:Nat) (d:List UInt8) (hd:d.length=512):adS s p d=dwr s p d:=by
 have hn:need d.length=1:=by rw[hd];rfl
 have hp:agj d 0=d:=by
  unfold agj;rw[hd,Nat.zero_mul,List.drop_zero,List.take_of_length_le (by omega)];simp
 obtain⟨bs,wt,left,off⟩:=s;unfold adS dwr;rw[hn];dsimp only;by_cases hb:off=true\/left=0
 · have e:wk 1 left off=0:=by
    unfold wk;split
    · rfl
    · rcases hb with h | h
      · rename_i h2;exact absurd h h2
      · subst h;rfl
   rw[if_pos hb,e,if_pos (by omega),aii];simp[aez]
 · have e:wk 1 left off=1:=by
    unfold wk;rw[if_neg (fun h=>hb (.inl h))];split
    · rfl
    · have:left≠0:=fun h=>hb (.inr h);omega
   have ho:off=false:=by cases off;rfl;exact absurd (.inl rfl) hb
   subst ho;rw[if_neg hb,e,if_neg (by omega)];simp[aez,hp,List.range_succ]
end
theorem anf (b:List UInt8) (half:Nat) (a:Nat->List UInt8):(ak0 b half a).ok=true->adR ((ak0 b half a).n:Int) (ak0 b half a).l (ak0 b half a).d=true:=by
 unfold ak0;split
 · exact fun h=>by cases h
 split
 · exact fun h=>by cases h
 unfold asf;split
 · rename_i h;intro _;have hg:afi (a (slN b))=(0,(afi (a (slN b))).2.1,(afi (a (slN b))).2.2.1,(afi (a (slN b))).2.2.2):=by rw[<-h.1]
   exact(aqA hg).put.2
 · exact fun h=>by cases h
theorem ama (x y:Sk):(adI x y=0->x.ok=true)/\(adI x y=1->y.ok=true):=by
 unfold adI;constructor
 · split
   · rename_i h;exact fun _=>h.1
   · split
     · intro h;cases h
     · intro h;cases h
 · split
   · intro h;cases h
   · split
     · rename_i h;exact fun _=>h
     · intro h;cases h
theorem adK (p:Nat) (d:List UInt8) (hd:d.length=512):aez p d 1= [(p,d)]:=by
 have hp:agj d 0=d:=by
  unfold agj;rw[hd,Nat.zero_mul,List.drop_zero,List.take_of_length_le (by omega)];simp
 simp[aez,hp,List.range_succ]
theorem acT (n p:Nat) (b:List UInt8) (j:Nat) (h:(p+j)*512<=n):aj5 n (aez p b j):=by
 intro x hx;unfold aez at hx;obtain⟨i,hi,rfl⟩:=List.mem_map.1 hx;have:=List.mem_range.1 hi;exact⟨by dsimp only;omega,aeK _ _⟩
section
variable {s:Dst}
theorem ahm (h:ajn s) (p:Nat) (d:List UInt8):(dwr s p d).2.wt=s.wt++ [(p,d)]/\(dwr s p d).2.bs=s.bs:=by
 unfold dwr;rw[if_neg (by rintro(e | e);· rw[h.1]at e;cases e
                          · have:=h.2;omega)]
 exact⟨rfl,rfl⟩
theorem aiv (h:ajn s):(dfl s).2.bs=abw s.bs s.wt:=by
 unfold dfl;rw[if_neg (by rw[h.1];decide)]
theorem ahn (h:ajn s) (p:Nat) (b:List UInt8):(adS s p b).2.wt=s.wt++aez p b (need b.length)/\(adS s p b).2.bs=s.bs:=by
 have e:wk (need b.length) s.left s.off=need b.length:=by unfold wk;rw[if_neg (by rw[h.1];decide),if_pos h.2]
 unfold adS;rw[e];exact⟨rfl,rfl⟩
theorem ang (h:ajn s) (hw:s.wt= []) (p:Nat) (b rec:List UInt8):(abb p b rec s).2.bs=abw (abw (abw s.bs [(p,List.replicate 512 0)]) (aez (p+1) b (need b.length))) [(p,rec)]:=by
 obtain⟨a1,h1⟩:=adJ h p (List.replicate 512 0);obtain⟨a2,h2,e2⟩:=ac3 h1;obtain⟨a3,h3⟩:=afk h2 (p+1) b;obtain⟨a4,h4,e4⟩:=ac3 h3;obtain⟨a5,h5⟩:=adJ h4 p rec;unfold abb;rw[aao a1,aao a2,aao a3,aao a4,aao a5,aiv h5,(ahm h4 _ _).1,(ahm h4 _ _).2,e4,aiv h3,(ahn h2 _ _).1,(ahn h2 _ _).2,e2,aiv h1,(ahm h _ _).1,(ahm h _ _).2,hw];rfl
theorem aiw (h:ajn s) (hw:s.wt= []) (p:Nat) (b rec:List UInt8) (hrec:rec.length=512) (hp:(p+1+need b.length)*512<=s.bs.length) (i:Nat):
 aaZ (abb p b rec s).2.bs [] i=if i=p then rec else if p+1<=i/\i<p+1+need b.length then agj b (i-(p+1)) else aaZ s.bs [] i:=by
 have e1:∀d:List UInt8,d.length=512->aj5 s.bs.length [(p,d)]:=fun d hd=>by rw[<-adK p d hd];exact acT _ _ _ _ (by omega)
 have hz:(List.replicate 512 (0:UInt8)).length=512:=List.length_replicate;have l1:=aaI _ _ (e1 _ hz);have e2:aj5 s.bs.length (aez (p+1) b (need b.length)):=acT _ _ _ _ hp;have l2:=aaI (aez (p+1) b (need b.length)) (abw s.bs [(p,List.replicate 512 0)]) (by rw[l1];exact e2);rw[ang h hw,abR _ _ _ (by rw[l2,l1];exact e1 _ hrec),<-adK p rec hrec,aci,abR _ _ _ (by rw[l1];exact e2),aci,abR _ _ _ (e1 _ hz),<-adK p _ hz,aci];by_cases hi:i=p
 · subst hi;rw[if_pos (by omega),if_pos rfl];unfold agj;rw[hrec,Nat.sub_self,Nat.zero_mul,List.drop_zero,List.take_of_length_le (by omega)];simp
 · rw[if_neg (by omega),if_neg hi];split
   · rfl
   · rw[if_neg (by omega)]
theorem aqF (h:ajn s) (hw:s.wt= []) (p:Nat) (b rec:List UInt8) (hrec:rec.length=512) (hp:(p+1+need b.length)*512<=s.bs.length):(abb p b rec s).2.bs.length=s.bs.length:=by
 have e1:∀d:List UInt8,d.length=512->aj5 s.bs.length [(p,d)]:=fun d hd=>by rw[<-adK p d hd];exact acT _ _ _ _ (by omega)
 have hz:(List.replicate 512 (0:UInt8)).length=512:=List.length_replicate;have l1:=aaI _ _ (e1 _ hz);have e2:aj5 s.bs.length (aez (p+1) b (need b.length)):=acT _ _ _ _ hp;have l2:=aaI (aez (p+1) b (need b.length)) (abw s.bs [(p,List.replicate 512 0)]) (by rw[l1];exact e2);rw[ang h hw,aaI _ _ (by rw[l2,l1];exact e1 _ hrec),l2,l1]
theorem afM (h:ajn s) (hw:s.wt= []) (half k G:Nat) (n:Nat) (l:List Rk) (d:List (List UInt8)) (hm:adR (n:Int) l d=true) (b:List UInt8) (hb:aaH n l d=b) (hfit:b.length<=512*(half-1)) (h1:1<=half) (hl:(k*half+half)*512<=s.bs.length) (hG:1<=G/\G<=4611686018427387904) (h64:half<=64):
 aaE (abb (k*half) b (abx G b.length (abd 0 b)) s).2.bs [] half k=⟨G,b.length,abd 0 b,true,n,l,d⟩:=by
 have hok:akZ G b.length=true:=by unfold akZ;simp only[Bool.and_eq_true,decide_eq_true_eq];omega
 obtain⟨p1,p2,p3,p4⟩:=aqw hok (aei 0 b);obtain⟨-,f1,f2,f3⟩:=ajg p1;obtain⟨p,hp⟩:=nmE (k*half);rw[hp]at hl ⊢;have hn:need b.length<=half-1:=by unfold need;omega
 have hlast:=aiw h hw p b (abx G b.length (abd 0 b)) (acQ _ _ _) (by omega);unfold aaE ak0;rw[hp,hlast p,if_pos rfl,if_neg (by rw[p1];decide),<-f1,<-f2,<-f3,p2,p3,p4,if_neg (by omega)];have hr:adC (abb p b (abx G b.length (abd 0 b)) s).2.bs [] (p+1) (need b.length)=afh b (need b.length):=by
  rw[<-an0 s.bs (p+1) b (need b.length)];refine aeN _ _ fun i hi=> ?_;rw[hlast,if_neg (by omega),if_pos (by omega),aci,if_pos (by omega)]
 dsimp only;rw[hr,alM b _ rfl];have hg:=(al5 hm).got;rw[hb]at hg;rw[hg];unfold asf;rw[if_pos ⟨rfl,rfl⟩]
theorem aeQ (h:ajn s) (hw:s.wt= []) (half k j:Nat) (b rec:List UInt8) (hrec:rec.length=512) (hkj:j*half+half<=k*half\/k*half+half<=j*half) (h1:1<=half) (hfit:b.length<=512*(half-1)) (hl:(k*half+half)*512<=s.bs.length):
 aaE (abb (k*half) b rec s).2.bs [] half j=aaE s.bs [] half j:=by
 have hn:need b.length<=half-1:=by unfold need;omega
 have hlast:=aiw h hw (k*half) b rec hrec (by omega);have e0:aaZ (abb (k*half) b rec s).2.bs [] (j*half)=aaZ s.bs [] (j*half):=by rw[hlast,if_neg (by omega),if_neg (by omega)]
 unfold aaE;rw[e0];unfold ak0;split
 · rfl
 split
 · rfl
 · rename_i hq;dsimp only;have hq':need (slN (aaZ s.bs [] (j*half)))<=half-1:=by unfold need;omega
   rw[aeN (bs:=(abb (k*half) b rec s).2.bs) (bs':=s.bs) (l:= []) (l':= []) (j*half+1) (need (slN (aaZ s.bs [] (j*half)))) fun i hi=>(by rw[hlast,if_neg (by omega),if_neg (by omega)])]
end
theorem amb (n i:Nat) (hi:i*512+512<=n):aaZ (List.replicate n 0) [] i=List.replicate 512 0:=by
 show((List.replicate n (0:UInt8)).drop (i*512)).take 512=_;rw[List.drop_replicate,List.take_replicate];congr 1;omega
theorem abT (n half k:Nat) (hk:k*half*512+512<=n):aaE (List.replicate n 0) [] half k=afo:=by
 unfold aaE ak0;rw[amb _ _ hk,if_pos ahb]
section
variable {N:Nat} {S:Nat->Prop} {w w':World} {g:Nat} {s:Dst}
theorem DS.made{h c:Nat}{bs:List UInt8}(k:Dk (adz (fun _=>False) w w') w' g h c none 0 bs [] (-1) false) (hl:bs.length=512*N):DS N (adz (fun _=>False) w w') w' g ⟨bs,[],-1,false⟩:=
 ⟨h,c,none,0,[],k,rfl,hl,fun j hj=>by rcases hj with h | h;exact h.elim;exact h.2⟩
end
section
variable {s t:Dst} {p:Nat} {b rec:List UInt8}
def ajo (s t:Dst):Prop:=s.bs=t.bs/\s.wt=t.wt/\s.off=false/\ajn t
theorem akL (h:ajo s t) (p:Nat) (d:List UInt8):((dwr s p d).1=0/\ajo (dwr s p d).2 (dwr t p d).2)\/dwr s p d=(6,{s with off:=true}):=by
 obtain⟨h1,h2,h3,h4⟩:=h;by_cases hl:s.left=0
 · right;unfold dwr;rw[if_pos (.inr hl)]
 · left;obtain⟨a1,a2⟩:=adJ h4 p d;obtain⟨b1,b2⟩:=ahm h4 p d;unfold dwr;rw[if_neg (by rintro(e | e);· rw[h3]at e;cases e
                                                                                     · exact hl e)]
   refine⟨rfl,?_,?_,h3,a2⟩
   · show s.bs=(dwr t p d).2.bs;rw[b2,h1]
   · show s.wt++ [(p,d)]=(dwr t p d).2.wt;rw[b1,h2]
theorem aho (h:ajo s t):(dfl s).1=0/\ajo (dfl s).2 (dfl t).2:=by
 obtain⟨h1,h2,h3,h4⟩:=h;obtain⟨a1,a2,a3⟩:=ac3 h4;have b1:=aiv h4;unfold dfl;rw[if_neg (by rw[h3];decide)];refine⟨rfl,?_,?_,h3,a2⟩
 · show abw s.bs s.wt=(dfl t).2.bs;rw[b1,h1,h2]
 · show []=(dfl t).2.wt;rw[a3]
theorem aoj (h:ajo s t) (p:Nat) (b:List UInt8):((adS s p b).1=0/\ajo (adS s p b).2 (adS t p b).2)\/((adS s p b).1=6/\∃j,j<=need b.length/\(adS s p b).2.bs=s.bs/\(adS s p b).2.wt=s.wt++aez p b j):=by
 obtain⟨h1,h2,h3,h4⟩:=h;obtain⟨a1,a2⟩:=afk h4 p b;obtain⟨b1,b2⟩:=ahn h4 p b;have hw:wk (need b.length) s.left s.off<=need b.length:=by
  unfold wk;split
  · exact Nat.zero_le _
  · split
    · exact Nat.le_refl _
    · exact Nat.min_le_left _ _
 by_cases hl:wk (need b.length) s.left s.off<need b.length
 · right;refine⟨?_,_,hw,rfl,rfl⟩;unfold adS;rw[if_pos hl]
 · left;have e:wk (need b.length) s.left s.off=need b.length:=by omega
   refine⟨?_,?_,?_,?_,a2⟩
   · unfold adS;rw[if_neg hl]
   · show s.bs=_;rw[b2,h1]
   · show s.wt++aez p b (wk (need b.length) s.left s.off)=_;rw[b1,h2,e]
   · show(s.off || decide (wk (need b.length) s.left s.off<need b.length))=false;rw[decide_eq_false hl,h3];rfl
theorem amc (h:ajo s t) (hw:s.wt= []) (p:Nat) (b rec:List UInt8):
 ((abb p b rec s).1=0/\ajo (abb p b rec s).2 (abb p b rec t).2)\/((abb p b rec s).1=6/\
  (((abb p b rec s).2.bs=s.bs/\(abb p b rec s).2.wt= [])\/(∃j,j<=need b.length/\(abb p b rec s).2.bs=abw s.bs [(p,List.replicate 512 0)]/\(abb p b rec s).2.wt=aez (p+1) b j)\/
   ((abb p b rec s).2.bs=abw (abw s.bs [(p,List.replicate 512 0)]) (aez (p+1) b (need b.length))/\(abb p b rec s).2.wt= []))):=by
 obtain⟨a1,l1⟩:=adJ h.2.2.2 p (List.replicate 512 0);obtain⟨a2,l2,e2⟩:=ac3 l1;obtain⟨a3,l3⟩:=afk l2 (p+1) b;obtain⟨a4,l4,e4⟩:=ac3 l3;obtain⟨a5,l5⟩:=adJ l4 p rec;have et:abb p b rec t=dfl (dwr (dfl (adS (dfl (dwr t p (List.replicate 512 0)).2).2 (p+1) b).2).2 p rec).2:=by
  unfold abb;rw[aao a1,aao a2,aao a3,aao a4,aao a5]
 have hbt:t.wt= []:=by rw[<-h.2.1];exact hw
 rcases akL h p (List.replicate 512 0)with⟨c1,h1⟩ | c1
 · obtain⟨c2,h2⟩:=aho h1;have f2:(dfl (dwr s p (List.replicate 512 0)).2).2.bs=abw s.bs [(p,List.replicate 512 0)]/\(dfl (dwr s p (List.replicate 512 0)).2).2.wt= []:=by
    rw[h2.1,h2.2.1,aiv l1,e2,(ahm h.2.2.2 _ _).1,(ahm h.2.2.2 _ _).2,hbt,h.1];exact⟨rfl,rfl⟩
   rcases aoj h2 (p+1) b with⟨c3,h3⟩ | ⟨c3,j,hj,g1,g2⟩
   · obtain⟨c4,h4⟩:=aho h3;rcases akL h4 p rec with⟨c5,h5⟩ | c5
     · obtain⟨c6,h6⟩:=aho h5;left;have es:abb p b rec s=dfl (dwr (dfl (adS (dfl (dwr s p (List.replicate 512 0)).2).2 (p+1) b).2).2 p rec).2:=by
        unfold abb;rw[aao c1,aao c2,aao c3,aao c4,aao c5]
       rw[es,et];exact⟨c6,h6⟩
     · right;have es:abb p b rec s=dwr (dfl (adS (dfl (dwr s p (List.replicate 512 0)).2).2 (p+1) b).2).2 p rec:=by
        unfold abb;rw[aao c1,aao c2,aao c3,aao c4,aaN (by rw[c5];show(6:Nat)≠0;decide)]
       rw[es,c5];refine⟨rfl, .inr (.inr ⟨?_,?_⟩)⟩
       · show(dfl (adS (dfl (dwr s p (List.replicate 512 0)).2).2 (p+1) b).2).2.bs=_;rw[h4.1,aiv l3,(ahn l2 _ _).1,(ahn l2 _ _).2,e2,<-h2.1,f2.1,List.nil_append]
       · show(dfl (adS (dfl (dwr s p (List.replicate 512 0)).2).2 (p+1) b).2).2.wt=_;rw[h4.2.1,e4]
   · right;have es:abb p b rec s=adS (dfl (dwr s p (List.replicate 512 0)).2).2 (p+1) b:=by
      unfold abb;rw[aao c1,aao c2,aaN (r:=adS _ _ _) (by rw[c3];decide),aaN (r:=adS _ _ _) (by rw[c3];decide),aaN (r:=adS _ _ _) (by rw[c3];decide)]
     rw[es];refine⟨c3, .inr (.inl ⟨j,hj,by rw[g1,f2.1],by rw[g2,f2.2];rfl⟩)⟩
 · right;have es:abb p b rec s=(6,{s with off:=true}):=by
    unfold abb;rw[c1];rfl
   rw[es];exact⟨rfl, .inl ⟨rfl,hw⟩⟩
end
theorem ahp{bs bs':List UInt8}{half j:Nat}(h1:1<=half) (h:∀i,j*half<=i->i<j*half+half->aaZ bs' [] i=aaZ bs [] i):aaE bs' [] half j=aaE bs [] half j:=by
 unfold aaE;rw[h _ (Nat.le_refl _) (by omega)];unfold ak0;split
 · rfl
 split
 · rfl
 · rename_i hq;dsimp only;have hq':need (slN (aaZ bs [] (j*half)))<=half-1:=by unfold need;omega
   rw[aeN (bs:=bs') (bs':=bs) (l:= []) (l':= []) (j*half+1) (need (slN (aaZ bs [] (j*half)))) fun i hi=>h _ (by omega) (by omega)]
theorem aok{bs:List UInt8}{half j:Nat}(h:aaZ bs [] (j*half)=List.replicate 512 0):aaE bs [] half j=afo:=by
 unfold aaE ak0;rw[h,if_pos ahb]
theorem asq{p:Nat}{b:List UInt8}{j:Nat}{kb:List Bool}:∀x∈aeI (aez p b j) kb,p<=x.1/\x.1<p+j:=fun x hx=>by
 have hx:=aep _ _ _ hx;unfold aez at hx;obtain⟨i,hi,rfl⟩:=List.mem_map.1 hx;have:=List.mem_range.1 hi;dsimp only;omega
def akM (x y:Sk):Option (Nat × List Rk × List (List UInt8)):=if adI x y=0 then some (x.n,x.l,x.d) else if adI x y=1 then some (y.n,y.l,y.d) else none
theorem avd (x:Sk){G N S n:Nat}{l:List Rk}{d:List (List UInt8)}(h:x.ok=true->x.G<G):akM x ⟨G,N,S,true,n,l,d⟩=some (n,l,d):=by
 have e:adI x ⟨G,N,S,true,n,l,d⟩=1:=by
  unfold adI;dsimp only;rw[if_neg (by rintro⟨h1,h2 | h2⟩;· cases h2
                                      · have:=h h1;omega),if_pos rfl]
 unfold akM;rw[e];rfl
theorem ave (y:Sk){G N S n:Nat}{l:List Rk}{d:List (List UInt8)}(h:y.ok=true->y.G<=G):akM ⟨G,N,S,true,n,l,d⟩ y=some (n,l,d):=by
 have e:adI ⟨G,N,S,true,n,l,d⟩ y=0:=by
  unfold adI;dsimp only;have h1:y.ok=false\/y.G<=G:=by
   cases hy:y.ok with
   | true=>exact .inr (h hy)
   | false=>exact .inl rfl
  exact if_pos ⟨rfl,h1⟩
 unfold akM;rw[e];rfl
theorem aqG (x y:Sk):(adI x y=0->akM x afo=akM x y)/\(adI x y≠0->akM afo y=akM x y):=by
 constructor
 · intro h;have hx:=(ama x y).1 h;have e:adI x afo=0:=by
    unfold adI;rw[if_pos ⟨hx, .inl rfl⟩]
   unfold akM;rw[e,h];rfl
 · intro h;have e0:adI afo y=if y.ok=true then 1 else-1:=by
    unfold adI;rw[if_neg (by rintro⟨h1,_⟩;cases h1)]
   rcases aev x y with e | e | e
   · have hy:y.ok≠true:=fun hy=>by
      unfold adI at e;split at e
      · cases e
      · first | (rw[if_pos hy]at e;omega) | omega
     unfold akM;rw[e0,e,if_neg hy];rfl
   · exact absurd e h
   · have hy:=(ama x y).2 e;unfold akM;rw[e0,e,if_pos hy];rfl
def aol (bs:List UInt8) (half:Nat):Option (Nat × List Rk × List (List UInt8)):=akM (aaE bs [] half 0) (aaE bs [] half 1)
section
variable {s:Dst} {half:Nat} {b:List UInt8} {n:Nat} {l:List Rk} {d:List (List UInt8)}
theorem akN (bs:List UInt8) (l:List (Nat × List UInt8)) (i:Nat) (hn:∀y∈l,y.1≠i):aaZ bs l i=aaZ bs [] i:=by
 rw[aeq _ _ _ hn,aeq _ _ _ fun y hy=>by cases hy]
theorem aqH (ho:s.off=false) (hw:s.wt= []) (h1:1<=half) (h64:half<=64) (hl:2*half*512<=s.bs.length) (hm:adR (n:Int) l d=true) (hb:aaH n l d=b){o:Nat × Dst}(hO:afK (aaE s.bs [] half 0) (aaE s.bs [] half 1) half b s=o):
 (o.1=7/\o.2=s/\(512*(half-1)<b.length\/4611686018427387904<=max (aaE s.bs [] half 0).G (aaE s.bs [] half 1).G))\/(o.1=0/\o.2.off=false/\o.2.wt= []/\o.2.bs.length=s.bs.length/\aol o.2.bs half=some (n,l,d)/\max (aaE o.2.bs [] half 0).G (aaE o.2.bs [] half 1).G=max (aaE s.bs [] half 0).G (aaE s.bs [] half 1).G+1)\/
  (o.1=6/\∀kb,aol (abw o.2.bs (aeI o.2.wt kb)) half=aol s.bs half):=by
 obtain⟨x,hx⟩:=nmE (aaE s.bs [] half 0);obtain⟨y,hy⟩:=nmE (aaE s.bs [] half 1);have hD:aol s.bs half=akM x y:=by unfold aol;rw[hx,hy]
 rw[hx,hy]at hO ⊢;rw[hD];unfold afK at hO;by_cases hbad:512*(half-1)<b.length\/4611686018427387904<=max x.G y.G
 · rw[if_pos hbad]at hO;subst hO;exact .inl ⟨rfl,rfl,hbad⟩
 rw[if_neg hbad]at hO;have hfit:b.length<=512*(half-1):=by omega
 obtain⟨G,hG⟩:=nmE (max x.G y.G);have hG2:G<4611686018427387904:=by omega
 rw[hG]at hO;obtain⟨k,hk⟩:∃k,(if adI x y=0 then 1 else 0)=k:=⟨_,rfl⟩;have hk1:k<=1:=by rw[<-hk];split<;>omega
 rw[hk]at hO;obtain⟨t,ht⟩:∃t:Dst,(⟨s.bs,s.wt,-1,false⟩:Dst)=t:=⟨_,rfl⟩;have hal:ajo s t:=by subst ht;exact⟨rfl,rfl,ho,rfl,by show(-1:Int)<0;omega⟩
 have htw:t.wt= []:=by rw[<-hal.2.1];exact hw
 have hkl:k*half+half<=2*half:=by
  rcases Nat.le_one_iff_eq_zero_or_eq_one.1 hk1 with rfl | rfl<;>omega
 have hlk:(k*half+half)*512<=t.bs.length:=by rw[<-hal.1];omega
 have hrl:=acQ (G+1) b.length (abd 0 b);have hnd:need b.length<=half-1:=by unfold need;omega
 rcases amc hal hw (k*half) b (abx (G+1) b.length (abd 0 b))with⟨e1,e2⟩ | ⟨e1,e2⟩
 · right;left;rw[hO]at e1 e2;obtain⟨v1,v2,v3⟩:=afL hal.2.2.2 (k*half) b (abx (G+1) b.length (abd 0 b));have hlen:=aqF hal.2.2.2 htw (k*half) b _ hrl (by omega);have hsl:=afM hal.2.2.2 htw half k (G+1) n l d hm b hb hfit h1 hlk (by omega) h64;have hot:=fun j hj=>aeQ hal.2.2.2 htw half k j b (abx (G+1) b.length (abd 0 b)) hrl hj h1 hfit hlk;refine⟨e1,e2.2.2.1,by rw[e2.2.1,v3],by rw[e2.1,hlen,hal.1],?_⟩;rw[<-e2.1]at hsl hot;rw[<-hal.1]at hot;unfold aol;rcases Nat.le_one_iff_eq_zero_or_eq_one.1 hk1 with rfl | rfl
   · rw[hsl,hot 1 (.inr (by omega)),hy];exact⟨ave y fun _=>by omega,by rw[hG];show max (G+1) y.G=G+1;omega⟩
   · rw[hsl,hot 0 (.inl (by omega)),hx];exact⟨avd x fun _=>by omega,by rw[hG];show max x.G (G+1)=G+1;omega⟩
 · right;right;rw[hO]at e1 e2;refine⟨e1,fun kb=> ?_⟩;have hz:(List.replicate 512 (0:UInt8)).length=512:=List.length_replicate;have f1:aj5 s.bs.length [(k*half,List.replicate 512 (0:UInt8))]:=by rw[<-adK _ _ hz];exact acT _ _ _ _ (by omega)
   have l1:=aaI _ _ f1;have hfin:∀bs':List UInt8,aaZ bs' [] (k*half)=List.replicate 512 0->(∀i,(i<k*half\/k*half+half<=i)->aaZ bs' [] i=aaZ s.bs [] i)->aol bs' half=akM x y:=fun bs' g1 g2=>by
    have g3:=aok g1;have g4:=aqG x y;unfold aol;rcases Nat.le_one_iff_eq_zero_or_eq_one.1 hk1 with rfl | rfl
    · rw[g3,ahp (bs:=s.bs) h1 fun i a c=>g2 i (.inr (by omega)),hy];refine g4.2 fun e=> ?_;rw[if_pos e]at hk;cases hk
    · rw[g3,ahp (bs:=s.bs) h1 fun i a c=>g2 i (.inl (by omega)),hx];refine g4.1 ?_;by_cases e:adI x y=0
      · exact e
      · rw[if_neg e]at hk;cases hk
   have hzero:∀ws:List (Nat × List UInt8),aj5 s.bs.length ws->(∀z∈ws,k*half+1<=z.1/\z.1<k*half+half)->aol (abw (abw s.bs [(k*half,List.replicate 512 0)]) ws) half=akM x y:=fun ws hf hr=>by
    refine hfin _ ?_ fun i hi=> ?_
    · rw[abR _ _ _ (by rw[l1];exact hf),akN _ _ _ (fun z hz=>by have:=hr z hz;omega),abR _ _ _ f1,<-adK _ _ hz,aci,if_pos (by omega)];unfold agj;rw[hz,Nat.sub_self,Nat.zero_mul,List.drop_zero,List.take_of_length_le (by omega)];simp
    · rw[abR _ _ _ (by rw[l1];exact hf),akN _ _ _ (fun z hz=>by have:=hr z hz;omega),abR _ _ _ f1,<-adK _ _ hz,aci,if_neg (by omega)]
   have hfp:aj5 s.bs.length (aez (k*half+1) b (need b.length)):=acT _ _ _ _ (by omega);rcases e2 with⟨g1,g2⟩ | ⟨j,hj,g1,g2⟩ | ⟨g1,g2⟩
   · rw[g1,g2];show aol (abw s.bs (aeI [] kb)) half=_;have ek:aeI ([]:List (Nat × List UInt8)) kb= []:=by cases kb<;>rfl
     rw[ek];exact hD
   · rw[g1,g2];refine hzero _ (fun z hz=>acT s.bs.length (k*half+1) b j (by omega) z (aep _ _ _ hz)) fun z hz=> ?_;have:=asq z hz;omega
   · rw[g1,g2];have ek:aeI ([]:List (Nat × List UInt8)) kb= []:=by cases kb<;>rfl
     rw[ek];refine hzero _ hfp fun z hz=> ?_;unfold aez at hz;obtain⟨i,hi,rfl⟩:=List.mem_map.1 hz;have:=List.mem_range.1 hi;dsimp only;omega
end
section
variable {N:Nat} {S:Nat->Prop} {w:World} {g:Nat} {s:Dst}
theorem DS.cut (h:DS N S w g s) (n m:Int) (hm:(if n<0 then-1 else n)=m):
 Calls Tryz.prog 17 #[.pointer (some ⟨g,0,none⟩), .int .i64 n] w fun e w'=>e= .returned (.tuple #[])/\DS N S w' g {s with left:=m}/\Tch S w w':=by
 obtain⟨q,c,W,cw,ws,k,e1,e2,hs⟩:=h;refine(arI k n m hm).mono ?_;rintro e w' ⟨rfl,k',ht⟩;exact⟨rfl,⟨q,c,W,cw,ws,k',e1,e2,fun j hj=>Nat.lt_of_lt_of_le (hs j hj) ht.size⟩,ht⟩
theorem DS.boot (h:DS N S w g s) (hN2:N<=128){K:Option Addr}{ck:Nat}{kb:List Bool}(hk:Kp S w K kb) (hkl:kb.length<=9223372036854775807):
 Calls Tryz.prog 32 #[.pointer (some ⟨g,0,none⟩), .slice K kb.length ck] w fun e w'=>e= .returned (.tuple #[])/\DS N S w' g ⟨abw s.bs (aeI s.wt kb),[],-1,false⟩/\Tch S w w':=by
 obtain⟨q,c,W,cw,ws,k,e1,e2,hs⟩:=h;have hf:aj5 s.bs.length (ws.map Wr.two):=k.fits;refine(apq k (by omega) hk hkl).mono ?_;rintro e w' ⟨rfl,k',ht⟩;rw[e1]at k' hf;refine⟨rfl,⟨q,c,none,0,[],k',rfl,?_,fun j hj=>Nat.lt_of_lt_of_le (hs j hj) ht.size⟩,ht⟩;show(abw s.bs (aeI s.wt kb)).length=_;rw[aaI _ _ fun z hz=>hf z (aep _ _ _ hz)];exact e2
end
end Go.Proofs.YtncadccbepjekaaGreatDoor
