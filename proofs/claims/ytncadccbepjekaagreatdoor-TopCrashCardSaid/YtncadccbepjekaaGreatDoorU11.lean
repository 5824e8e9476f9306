/- Texts of mine, joined. -/
import Derived.Laws.BitsAllLaws
import Derived.Laws.ResultCell
import Derived.Maps.OwnSet
import Derived.DeepKeys4
import Derived.LaidEql
import Derived.Stop.Asserts
import Derived.RowKitTokens
import Derived.Test.YtncadccbepjekaaGreatDoorU8
set_option maxRecDepth 100000
set_option maxHeartbeats 4000000
namespace Go.Proofs.YtncadccbepjekaaGreatDoor
theorem ad3 (w c:Nat):aco w c=w.testBit c:=by
 unfold aco;rw[Nat.testBit_eq_decide_div_mod_eq,Bool.eq_iff_iff,beq_iff_eq,decide_eq_true_eq]
theorem alg (c:Nat) (hc:c<22):2^c<=2097152:=Nat.pow_le_pow_right (n:=2) (by decide) (show c<=21 by omega)
def ae6 (v c:Nat) (b:Bool):Nat:=if b then (if aco v c then v else v+2^c) else (if aco v c then v-2^c else v)
theorem aiP (v c:Nat) (hc:c<22) (hv:v<18446744073709551616) (b:Bool):ae6 v c b<18446744073709551616:=by
 unfold ae6
 cases hb:aco v c with
 | true=>
  have:=Nat.sub_le v (2^c)
  cases b<;>simp<;>omega
 | false=>
  have:=ald v c (by omega) hv hb
  cases b<;>simp<;>omega
theorem apb (v c:Nat):aco (ae6 v c false) c=false:=by
 unfold ae6
 cases hb:aco v c with
 | true=>simpa using afs v c hb
 | false=>simpa using hb
theorem arv (v c:Nat):ae6 v c true=ae6 v c false+2^c:=by
 unfold ae6
 cases hb:aco v c with
 | true=>
  have:=aiK v c hb;simp;omega
 | false=>simp
theorem atk (v c:Nat) (hv:v<18446744073709551616) (hc:c<22):(bits .and .u64 (v:Int) ((2^c:Nat):Int) !=0)=aco v c:=by
 have hp:0<2^c:=Nat.two_pow_pos c;rw[u64_and_nat v (2^c) hv (by have:=alg c hc;omega),nat_bit];unfold aco;have h:v/2^c%2=0\/v/2^c%2=1:=by omega
 rcases h with h | h
 · rw[h];simp
 · rw[h,Nat.one_mul,Bool.eq_iff_iff,bne_iff_ne];simp only[beq_self_eq_true,iff_true];omega
theorem ah1 (v c:Nat) (hv:v<18446744073709551616) (hc:c<22):bits .andNot .u64 (v:Int) ((2^c:Nat):Int)=(ae6 v c false:Int):=by
 have h22:=alg c hc;rw[u64_andNot_nat v (2^c) hv (by omega)];refine congrArg Int.ofNat (Nat.eq_of_testBit_eq fun d=> ?_);have e:18446744073709551615-2^c=2^64-(2^c+1):=by omega
 rw[Nat.testBit_and,e,Nat.testBit_two_pow_sub_succ (by omega),Nat.testBit_two_pow];unfold ae6;have hbig:64<=d->v.testBit d=false:=fun h=>Nat.testBit_lt_two_pow (Nat.lt_of_lt_of_le hv (Nat.pow_le_pow_right (n:=2) (by decide) h))
 cases hb:aco v c with
 | true=>
  have h2:=amx v c hb d;rw[ad3,ad3]at h2;simp only[if_true,Bool.false_eq_true,if_false];rw[h2];by_cases hd:d=c
  · rw[if_pos hd,hd];simp
  · rw[if_neg hd];by_cases h64:d<64
    · simp[h64,Ne.symm hd]
    · rw[hbig (by omega)];simp
 | false=>
  simp only[Bool.false_eq_true,if_false];by_cases hd:d=c
  · rw[ad3]at hb;rw[hd,hb];simp
  · by_cases h64:d<64
    · simp[h64,Ne.symm hd]
    · rw[hbig (by omega)];simp
theorem auE (v c:Nat) (hv:v<18446744073709551616) (hc:c<22) (hb:aco v c=false):bits .or .u64 (v:Int) ((2^c:Nat):Int)=((v+2^c:Nat):Int):=by
 have h22:=alg c hc;rw[u64_or_nat v (2^c) hv (by omega)];refine congrArg Int.ofNat (Nat.eq_of_testBit_eq fun d=> ?_);have h2:=aiJ v c hb d;rw[ad3,ad3]at h2;rw[Nat.testBit_or,Nat.testBit_two_pow,h2];by_cases hd:d=c
 · rw[if_pos hd,hd];simp
 · rw[if_neg hd];simp[Ne.symm hd]
theorem aiQ (bs:List UInt8) (o:Nat) (h:o+8<=bs.length):lyN bs o (aaf bs o)=bs:=by
 have e:aaF 8 (ab2 ((bs.drop o).take 8))=(bs.drop o).take 8:=by
  have:=agw ((bs.drop o).take 8);rwa [List.length_take,List.length_drop,Nat.min_eq_left (by omega)]at this
 unfold lyN aaf;rw[e,<-List.drop_drop,List.take_append_drop,List.take_append_drop]
theorem amD (bs:List UInt8) (c:Nat) (hl:8<=bs.length):abM bs c=lyN bs 0 (ae6 (aaf bs 0) c (decide (aaf bs (8+8*c)≠0))):=by
 have hs:=aiQ bs 0 (by omega);unfold abM ae6;by_cases h0:aaf bs (8+8*c)=0
 · cases hb:aco (aaf bs 0) c<;>simp[h0,hs]
 · cases hb:aco (aaf bs 0) c<;>simp[h0,hs]
theorem aj1 (bs:List UInt8) (p c:Nat):aap bs p (c:Int)=(decide (p<=20000)&&(aaX bs (p:Int)==(c:Int))):=by
 unfold aap aaX;congr 1
 cases hg:aa6 bs (p:Int)with
 | none=>simp
 | some x=>
  cases hu:x.used with
  | true=>simp[hu]
  | false=>simp[hu]
def abr (bs:List UInt8) (c v k u:Nat):Bool:=aap bs v (c:Int)&&(aaf bs (v+k)==u)
theorem aaM{bs:List UInt8}{p c:Nat}(h:aap bs p (c:Int)=true):184<=p/\p+32<=bs.length:=by
 unfold aap at h
 cases hg:aa6 bs (p:Int)with
 | none=>rw[hg]at h;simp at h
 | some y=>
  obtain⟨r1,r2,_,r3,r4,_⟩:=aaw hg;have:=(aab _).1 r4;omega
theorem aa3{bs:List UInt8}{o:Int}{c:Nat}(h:aaX bs o=(c:Int)):184<=o/\o+32<=bs.length/\c<22:=by
 unfold aaX at h
 cases hg:aa6 bs o with
 | none=>rw[hg]at h;dsimp only at h;omega
 | some y=>
  obtain⟨r1,r2,_,r3,r4,_⟩:=aaw hg;have:=(aab _).1 r4;obtain⟨d,hd,hd2⟩:=abq r4;rw[hg]at h;dsimp only at h;split at h<;>omega
theorem aeF (bs:List UInt8) (o:Int):aaX bs o<0\/∃c:Nat,aaX bs o=(c:Int):=by
 by_cases h:aaX bs o<0
 · exact .inl h
 · exact .inr ⟨(aaX bs o).toNat,by omega⟩
section
variable {bs:List UInt8} {P:List Bk} {L:Nat->List Nat}
theorem Lists.take (h:Lists bs P L){x:Bk}(hx:x∈P){c:Nat}(hc22:c<22) (ho:x.off∈L c):
 ∃bs',aeC bs (x.off:Int)=some bs'/\Lists bs' P (aga L c ((L c).filter fun q=>decide (q≠x.off)))/\bs'.length=bs.length/\Kept P bs bs':=by
 have hf:=h.st.facts hx;have hlen:=h.len;have hsm:=h.small;obtain⟨hxu,hxc⟩:x.used=false/\aaq (x.size:Int)=(c:Int):=by
  obtain⟨y,hy,e,hu,hcl⟩:=h.mem c hc22 x.off ho;have:=h.st.uniq hy hx e;subst this;exact⟨hu,hcl⟩
 have hfr:aaX bs (x.off:Int)=(c:Int):=by unfold aaX;rw[h.st.at_ x hx];simp[hxu,hxc]
 obtain⟨l1,l2,hL⟩:=List.append_of_mem ho;have hnd:=h.nodup c hc22;have hlk:=h.links c hc22;rw[hL]at hnd hlk;have hn1:x.off∉l1:=fun e=>by
  have:=(List.nodup_append.1 hnd).2.2 x.off e x.off (by simp);exact this rfl
 have hn2:x.off∉l2:=(List.nodup_cons.1 (List.nodup_append.1 hnd).2.1).1;have hnd12:(l1++l2).Nodup:=by
  refine List.nodup_append.2 ⟨(List.nodup_append.1 hnd).1,(List.nodup_cons.1 (List.nodup_append.1 hnd).2.1).2,fun a ha b hb=> ?_⟩;exact(List.nodup_append.1 hnd).2.2 a ha b (by simp[hb])
 have hfil:(L c).filter (fun q=>decide (q≠x.off))=l1++l2:=by
  rw[hL,List.filter_append,List.filter_cons_of_neg (by simp)];congr 1
  · exact List.filter_eq_self.2 fun a ha=>by simpa using fun e:a=x.off=>hn1 (e▸ha)
  · exact List.filter_eq_self.2 fun a ha=>by simpa using fun e:a=x.off=>hn2 (e▸ha)
 rw[hfil];rw[adu]at hlk;obtain⟨hk1,hk2,hk3,hk4⟩:=hlk;obtain⟨p,hp⟩:=nmE (l1.getLastD 0);obtain⟨n,hn⟩:=nmE (l2.headD 0);rw[hp]at hk2;rw[hn]at hk3;have inP:∀q,q∈L c->aap bs q (c:Int)=true/\∃y∈P,y.off=q/\y.used=false:=fun q hq=>by
  obtain⟨m,y,hy,e,hu,_⟩:=h.member hc22 hq;exact⟨m,y,hy,e,hu⟩
 have hpc:(l1= []/\p=0)\/∃l,l1=l++ [p]/\p∈L c/\p≠x.off:=by
  rcases List.eq_nil_or_concat l1 with e | ⟨l,q,e⟩
  · left;subst e;exact⟨rfl,hp.symm⟩
  · right;subst e;have:q=p:=by rw[<-hp];simp
    subst this;exact⟨l,by simp,by rw[hL];simp,fun e=>hn1 (by rw[<-e];simp)⟩
 have hnc:(l2= []/\n=0)\/∃r,l2=n::r/\n∈L c/\n≠x.off:=by
  cases l2 with
  | nil=>left;exact⟨rfl,hn.symm⟩
  | cons q r=>
   right;obtain rfl:q=n:=hn;exact⟨r,rfl,by rw[hL];simp,fun e=>hn2 (by rw[<-e];simp)⟩
 have hpn:p≠0->n≠0->p≠n:=fun e1 e2 e=>by
  rcases hpc with⟨_,e0⟩ | ⟨l,el,_⟩
  · exact e1 e0
  · rcases hnc with⟨_,e0⟩ | ⟨r,er,_⟩
    · exact e2 e0
    · have:=(List.nodup_append.1 hnd12).2.2 p (by rw[el];simp) n (by rw[er];simp);exact this e
 have hplt:p<18446744073709551616:=by rw[<-hk2];exact aan _ _
 have hnlt:n<18446744073709551616:=by rw[<-hk3];exact aan _ _
 have hfirst:¬(p≠0/\(aaf bs (8+8*c):Int)=(x.off:Int)):=by
  rintro⟨e1,e2⟩;rcases hpc with⟨_,e0⟩ | ⟨l,el,_⟩
  · exact e1 e0
  · have hh:=h.head c hc22;rw[hL,el]at hh;refine hn1 ?_;rw[el]
    cases l with
    | nil=>
     have hh:aaf bs (8+8*c)=p:=hh;rw[show x.off=p by omega];simp
    | cons q r=>
     have hh:aaf bs (8+8*c)=q:=hh;rw[show x.off=q by omega];simp
 have hput:aeC bs (x.off:Int)=some (abM (if n≠0 then lyN (if p=0 then lyN bs (8+8*c) n else lyN bs (p+8) n) (n+16) p else (if p=0 then lyN bs (8+8*c) n else lyN bs (p+8) n)) c):=by
  unfold aeC;rw[hfr,if_neg (by omega)];simp only[Int.toNat_natCast,hk2,hk3];rw[if_neg,if_neg,if_neg,if_neg hfirst]
  · rintro⟨e1,e2⟩;rcases hnc with⟨_,e0⟩ | ⟨r,er,hm,_⟩
    · exact e1 e0
    · rcases e2 with e2 | e2
      · rw[(inP n hm).1]at e2;cases e2
      · rw[er]at hk4;exact e2 (by rw[hk4.1])
  · rintro⟨e1,e2⟩;rcases hpc with⟨_,e0⟩ | ⟨l,el,hm,_⟩
    · exact e1 e0
    · rcases e2 with e2 | e2
      · rw[(inP p hm).1]at e2;cases e2
      · rw[el,adu]at hk1;exact e2 (by rw[hk1.2.2.1];rfl)
  · rintro⟨e1,e2⟩;rcases hpc with⟨e0,_⟩ | ⟨l,el,hm,_⟩
    · have:=h.head c hc22;rw[hL,e0]at this;exact e2 (by rw[this];rfl)
    · obtain⟨_,y,hy,e,_⟩:=inP p hm;have:=h.st.facts hy;omega
 obtain⟨b1,hb1⟩:∃b1,(if p=0 then lyN bs (8+8*c) n else lyN bs (p+8) n)=b1:=⟨_,rfl⟩;have f1:b1.length=bs.length/\Stands b1 P/\(∀q,q%8=0->aaf b1 q=if q=(if p=0 then 8+8*c else p+8) then n else aaf bs q)/\Kept P bs b1:=by
  rcases hpc with⟨_,e0⟩ | ⟨l,el,hm,_⟩
  · rw[if_pos e0]at hb1;subst hb1;refine⟨aah _ _ _ (by omega),h.st.lay _ _ (.inl (by omega)) hlen,fun q hq=> ?_,Kept.ly P _ _ _ (by omega) (.inl (by omega))⟩;rw[acz _ _ _ _ (by omega) hnlt hq (by omega),if_pos e0]
  · obtain⟨_,y,hy,e,hu⟩:=inP p hm;have hy':=h.st.facts hy;have e0:p≠0:=by omega
    rw[if_neg e0]at hb1;subst hb1;refine⟨aah _ _ _ (by omega),h.st.lay _ _ (.inr ⟨y,hy,by omega,by omega⟩) hlen,fun q hq=> ?_,Kept.ly P _ _ _ (by omega) (.inr ⟨y,hy,hu, .inl (by omega)⟩)⟩;rw[acz _ _ _ _ (by omega) hnlt hq (by omega),if_neg e0]
 obtain⟨g1,st1,w1,k1⟩:=f1;rw[hb1]at hput;obtain⟨b2,hb2⟩:=nmE ((if n≠0 then lyN b1 (n+16) p else b1));have f2:b2.length=bs.length/\Stands b2 P/\(∀q,q%8=0->aaf b2 q=if n≠0/\q=n+16 then p else aaf b1 q)/\Kept P b1 b2:=by
  rcases hnc with⟨_,e0⟩ | ⟨r,er,hm,_⟩
  · rw[if_neg (by omega)]at hb2;subst hb2;exact⟨g1,st1,fun q _=>by rw[if_neg (by omega)],Kept.refl _ _⟩
  · obtain⟨_,y,hy,e,hu⟩:=inP n hm;have hy':=h.st.facts hy;have e0:n≠0:=by omega
    rw[if_pos e0]at hb2;subst hb2;refine⟨by rw[aah _ _ _ (by omega)];exact g1,st1.lay _ _ (.inr ⟨y,hy,by omega,by omega⟩) (by omega),fun q hq=> ?_,Kept.ly P _ _ _ (by omega) (.inr ⟨y,hy,hu, .inr (by omega)⟩)⟩;rw[acz _ _ _ _ (by omega) hplt hq (by omega)];by_cases e2:q=n+16
    · rw[if_pos e2,if_pos ⟨e0,e2⟩]
    · rw[if_neg e2,if_neg (fun h=>e2 h.2)]
 obtain⟨g2,st2,w2,k2⟩:=f2;rw[hb2]at hput;obtain⟨m1,m2,m3,m4,m5⟩:=ahT b2 c hc22 (by omega);have n184:n=0\/(184<=n/\n%16=8):=by
  rcases hnc with⟨_,e0⟩ | ⟨r,er,hm,_⟩
  · exact .inl e0
  · obtain⟨_,y,hy,e,_⟩:=inP n hm;have:=h.st.facts hy;omega
 have p184:p=0\/(184<=p/\p%16=8):=by
  rcases hpc with⟨_,e0⟩ | ⟨r,er,hm,_⟩
  · exact .inl e0
  · obtain⟨_,y,hy,e,_⟩:=inP p hm;have:=h.st.facts hy;omega
 have hhead:aaf b2 (8+8*c)=(l1++l2).headD 0:=by
  rw[w2 _ (by omega),if_neg (by omega),w1 _ (by omega)];have hh:=h.head c hc22;rw[hL]at hh;rcases hpc with⟨el,e0⟩ | ⟨l,el,_⟩
  · rw[if_pos e0,if_pos rfl,el,<-hn];rfl
  · have e0:p≠0:=by
     rcases p184 with e | e
     · obtain⟨_,y,hy,e2,_⟩:=inP p (by rw[hL,el];simp);have:=h.st.facts hy;omega
     · omega
    rw[if_neg e0,if_neg (by omega),hh,el]
    cases l<;>rfl
 have hw:∀o,(∃y∈P,y.off=o)->∀k,k=8\/k=16->aaf (abM b2 c) (o+k)=if p≠0/\o=p/\k=8 then n else if n≠0/\o=n/\k=16 then p else aaf bs (o+k):=by
  rintro o ⟨y,hy,rfl⟩ k hk;have hy':=h.st.facts hy;rw[m2 _ (by omega) (by omega),w2 _ (by omega),w1 _ (by omega)];by_cases e1:p≠0/\y.off=p/\k=8
  · rw[if_pos e1,if_neg (by omega),if_pos (by rw[if_neg e1.1];omega)]
  · rw[if_neg e1];by_cases e2:n≠0/\y.off=n/\k=16
    · rw[if_pos e2,if_pos (by omega)]
    · rw[if_neg e2,if_neg (by omega),if_neg];by_cases e0:p=0
      · rw[if_pos e0];omega
      · rw[if_neg e0];omega
 refine⟨_,hput,⟨by omega,by omega,m4 P st2,fun d hd=> ?_,fun d hd=> ?_,fun d hd o ho=> ?_,fun d hd=> ?_,fun d hd=> ?_⟩,by omega,(k1.trans k2).trans fun i h1 _=>m5 i (by omega)⟩
 · rw[m2 _ (by omega) (by omega)];unfold aga;by_cases hdc:d=c
   · subst hdc;rw[if_pos rfl];exact hhead
   · rw[if_neg hdc,<-h.head d hd,w2 _ (by omega),if_neg (by omega),w1 _ (by omega),if_neg];by_cases e0:p=0
     · rw[if_pos e0];omega
     · rw[if_neg e0];omega
 · rw[m3 d];unfold aga;by_cases hdc:d=c
   · rw[if_pos hdc,if_pos hdc,hhead]
     cases hl:l1++l2 with
     | nil=>rfl
     | cons q r=>
      have hq:q∈L c:=by
       rw[hL];have:q∈l1++l2:=by rw[hl];simp
       rcases List.mem_append.1 this with h1 | h1
       · exact List.mem_append_left _ h1
       · exact List.mem_append_right _ (List.mem_cons_of_mem _ h1)
      obtain⟨_,y,hy,e,_⟩:=inP q hq;have:=h.st.facts hy;have h0:q≠0:=by omega
      simp[h0]
   · rw[if_neg hdc,if_neg hdc,<-h.bit d hd,w2 _ rfl,if_neg (by omega),w1 _ rfl,if_neg];by_cases e0:p=0
     · rw[if_pos e0];omega
     · rw[if_neg e0];omega
 · unfold aga at ho;by_cases hdc:d=c
   · subst hdc;rw[if_pos rfl]at ho;refine h.mem d hd o ?_;rw[hL];rcases List.mem_append.1 ho with h1 | h1
     · exact List.mem_append_left _ h1
     · exact List.mem_append_right _ (List.mem_cons_of_mem _ h1)
   · rw[if_neg hdc]at ho;exact h.mem d hd o ho
 · unfold aga;by_cases hdc:d=c
   · subst hdc;rw[if_pos rfl,adu,hp,hn];have inl1:∀q∈l1,∃y∈P,y.off=q:=fun q hq=>by
      obtain⟨_,y,hy,e,_⟩:=inP q (by rw[hL];simp[hq]);exact⟨y,hy,e⟩
     have inl2:∀q∈l2,∃y∈P,y.off=q:=fun q hq=>by
      obtain⟨_,y,hy,e,_⟩:=inP q (by rw[hL];simp[hq]);exact⟨y,hy,e⟩
     have ne12:∀q∈l1,n≠0->q≠n:=fun q hq e0 e=>by
      rcases hnc with⟨_,e1⟩ | ⟨r,er,_⟩
      · exact e0 e1
      · exact(List.nodup_append.1 hnd12).2.2 q hq n (by rw[er];simp) e
     have ne21:∀q∈l2,p≠0->q≠p:=fun q hq e0 e=>by
      rcases hpc with⟨_,e1⟩ | ⟨l,el,_⟩
      · exact e0 e1
      · exact(List.nodup_append.1 hnd12).2.2 p (by rw[el];simp) q hq e.symm
     refine⟨?_,?_⟩
     · rcases hpc with⟨el,e0⟩ | ⟨l,el,_⟩
       · rw[el];trivial
       · have e0:p≠0:=by
          obtain⟨y,hy,e2⟩:=inl1 p (by rw[el];simp);have:=h.st.facts hy;omega
         rw[el,adu]at hk1 ⊢;obtain⟨hq1,hq2,hq3,_⟩:=hk1;have hpl:p∉l:=fun e=>by
          have:=(List.nodup_append.1 hnd12).1;rw[el]at this;exact(List.nodup_append.1 this).2.2 p e p (by simp) rfl
         refine⟨abX l _ _ (fun q hq=> ?_) hq1,?_,?_,trivial⟩
         · have hqi:=inl1 q (by rw[el];simp[hq]);have hqp:q≠p:=fun e=>hpl (e▸hq);have hqn:=ne12 q (by rw[el];simp[hq]);rw[hw q hqi 16 (.inr rfl),hw q hqi 8 (.inl rfl),if_neg (by omega),if_neg (fun e=>hqn e.1 e.2.1),if_neg (fun e=>hqp e.2.1),if_neg (by omega)];exact⟨rfl,rfl⟩
         · rw[hw p (inl1 p (by rw[el];simp)) 16 (.inr rfl),if_neg (by omega),if_neg (fun e=>hpn e0 e.1 e.2.1)];exact hq2
         · rw[hw p (inl1 p (by rw[el];simp)) 8 (.inl rfl),if_pos ⟨e0,rfl,rfl⟩];rfl
     · rcases hnc with⟨er,e0⟩ | ⟨r,er,_⟩
       · rw[er];trivial
       · have e0:n≠0:=by
          obtain⟨y,hy,e2⟩:=inl2 n (by rw[er];simp);have:=h.st.facts hy;omega
         rw[er]at hk4 ⊢;obtain⟨hq1,hq2,hq3⟩:=hk4;have hnr:n∉r:=fun e=>by
          have:=(List.nodup_append.1 hnd12).2.1;rw[er]at this;exact(List.nodup_cons.1 this).1 e
         refine⟨?_,?_,abX r _ _ (fun q hq=> ?_) hq3⟩
         · rw[hw n (inl2 n (by rw[er];simp)) 16 (.inr rfl),if_neg (by omega),if_pos ⟨e0,rfl,rfl⟩]
         · rw[hw n (inl2 n (by rw[er];simp)) 8 (.inl rfl),if_neg (fun e=>ne21 n (by rw[er];simp) e.1 e.2.1),if_neg (by omega)];exact hq2
         · have hqi:=inl2 q (by rw[er];simp[hq]);have hqn:q≠n:=fun e=>hnr (e▸hq);have hqp:=ne21 q (by rw[er];simp[hq]);rw[hw q hqi 16 (.inr rfl),hw q hqi 8 (.inl rfl),if_neg (by omega),if_neg (fun e=>hqn e.2.1),if_neg (fun e=>hqp e.1 e.2.1),if_neg (by omega)];exact⟨rfl,rfl⟩
   · rw[if_neg hdc];refine abX (L d) _ _ (fun q hq=> ?_) (h.links d hd);obtain⟨y,hy,e,_,hcl⟩:=h.mem d hd q hq;have other:∀z,z∈L c->q≠z:=fun z hz e2=>by
      obtain⟨z2,hz2,e3,_,hcl2⟩:=h.mem c hc22 z hz;have:=h.st.uniq hy hz2 (by omega);subst this;rw[hcl]at hcl2;omega
     have hqp:¬(p≠0/\q=p):=by
      rintro⟨e1,e2⟩;rcases hpc with⟨_,e0⟩ | ⟨l,el,hm,_⟩
      · exact e1 e0
      · exact other p hm e2
     have hqn:¬(n≠0/\q=n):=by
      rintro⟨e1,e2⟩;rcases hnc with⟨_,e0⟩ | ⟨l,el,hm,_⟩
      · exact e1 e0
      · exact other n hm e2
     rw[hw q ⟨y,hy,e⟩ 16 (.inr rfl),hw q ⟨y,hy,e⟩ 8 (.inl rfl),if_neg (fun e=>hqp ⟨e.1,e.2.1⟩),if_neg (fun e=>hqn ⟨e.1,e.2.1⟩),if_neg (fun e=>hqp ⟨e.1,e.2.1⟩),if_neg (fun e=>hqn ⟨e.1,e.2.1⟩)];exact⟨rfl,rfl⟩
 · unfold aga;by_cases hdc:d=c
   · rw[if_pos hdc];exact hnd12
   · rw[if_neg hdc];exact h.nodup d hd
end
open Go.RowKit
def Bk.val (x:Bk):Value:= .agg #[.int .i64 (x.off:Int), .int .i64 (x.size:Int), .bool x.used]
def bkV (o:Option Bk):Value:=match o with
 | some x=>x.val
 | none=> .agg #[.int .i64 0, .int .i64 0, .bool false]
theorem aaJ{w:World}{g:Nat}{t:TypeId}{a b c:Value}(h:w.heap[g]?=some (.cells #[a,b,c] t (0,0))) (x y z:Value):
 (((w.setCell ⟨g,0,none⟩ x).setCell ⟨g,1,none⟩ y).setCell ⟨g,2,none⟩ z).heap[g]?=some (.cells #[x,y,z] t (0,0)):=by
 have h1:=heap_setCell_same w g 0 _ _ x h;have h2:=heap_setCell_same (w.setCell ⟨g,0,none⟩ x) g 1 _ _ y h1;have h3:=heap_setCell_same ((w.setCell ⟨g,0,none⟩ x).setCell ⟨g,1,none⟩ y) g 2 _ _ z h2;rw[h3];rfl
theorem aad{w:World}{g:Nat}{t:TypeId}{a b c:Value}(h:w.heap[g]?=some (.cells #[a,b,c] t (0,0))):(w.cell? ⟨g,0,none⟩=some a/\w.cell? ⟨g,1,none⟩=some b/\w.cell? ⟨g,2,none⟩=some c)/\(w.frozen? ⟨g,0,none⟩=false/\w.frozen? ⟨g,1,none⟩=false/\w.frozen? ⟨g,2,none⟩=false):=by
 refine⟨⟨?_,?_,?_⟩,frozen_of_row w g 0 _ _ h,frozen_of_row w g 1 _ _ h,frozen_of_row w g 2 _ _ h⟩
 · rw[cell_of_row w g 0 _ _ (0,0) h];rfl
 · rw[cell_of_row w g 1 _ _ (0,0) h];rfl
 · rw[cell_of_row w g 2 _ _ (0,0) h];rfl
theorem abP{fn:Func}{R:Ending->World->Prop}{a:Act}{w:World}{p u:Tmp}{g:Nat}{o s:Int}{b:Bool}{x:Value}(hres:fn.results= #[.cell p 112, .tmp u]) (hp:a.tmps.getD p undef= .pointer (some ⟨g,0,none⟩)) (hx:a.tmps.getD u undef=x) (hd:a.defers= [])
 (hg:w.heap[g]?=some (.cells #[.int .i64 o, .int .i64 s, .bool b] 112 (0,0))) (hR:R (.returned (.tuple #[.agg #[.int .i64 o, .int .i64 s, .bool b],x])) w):bodyPost Tryz.prog fn R .ret a w:=by
 have c0:=cell_of_row w g 0 _ _ (0,0) hg;have c1:=cell_of_row w g 1 _ _ (0,0) hg;have c2:=cell_of_row w g 2 _ _ (0,0) hg;simp only[List.getElem?_toArray,List.getElem?_cons_zero,List.getElem?_cons_succ]at c0 c1 c2;refine bodyPost_ret (v:= .tuple #[.agg #[.int .i64 o, .int .i64 s, .bool b],x]) ?_ hd hR;rw[results_cell_tmp hres,hp,hx];simp[go_sem,c0,c1,c2]
section
variable (w:World)
end
def alh (bs:List UInt8) (o v:Nat):List UInt8:=lay bs o (aaF 8 v)
section
variable (w:World)
end
def aeo (bs:List UInt8) (o s:Int) (u:Bool):Option (List UInt8):=
 if aaB s=true/\alb bs.length o s=true then some (alh (alh bs o.toNat (acf s u)) (o+s-8).toNat (acf s u)) else none
section
variable (w:World)
end
def BkRd (w:World) (B:Nat) (A:Option Addr) (l:List Bk):Prop:=0<l.length->∃b o,A=some ⟨b,o,none⟩/\b<B/\∀j x,l[j]?=some x->
 w.cell? ⟨b,o+j*3,none⟩=some (.int .i64 (x.off:Int))/\w.cell? ⟨b,o+j*3+1,none⟩=some (.int .i64 (x.size:Int))/\w.cell? ⟨b,o+j*3+2,none⟩=some (.bool x.used)
def IRd (w:World) (B:Nat) (A:Option Addr) (l:List Int):Prop:=0<l.length->∃b o,A=some ⟨b,o,none⟩/\b<B/\∀j x,l[j]?=some x->w.cell? ⟨b,o+j,none⟩=some (.int .i64 x)
theorem av8{k:IntKind}{a b:Int}(h:a=b):Ending.returned (.int k a)= .returned (.int k b):=by rw[h]
theorem apc (n:Int) (m:Nat) (w:World) (hm:0<m) (hm2:m<=1000000) (p:Nat) (hp:(n%(m:Int)).toNat=p):
 Calls Tryz.prog 44 #[.int .i64 n, .int .i64 (m:Int)] w fun e w'=>e= .returned (.int .i64 (p:Int))/\w=w':=by
 have h1:=Int.emod_nonneg n (b:=(m:Int)) (by omega);have h2:=Int.emod_lt_of_pos n (b:=(m:Int)) (by omega);obtain⟨e,he⟩:=nmE (n%(m:Int));rw[he]at h1 h2 hp;have h3:(n.tmod (m:Int)=e)\/(n.tmod (m:Int)=e-m):=by
  have:=Int.tmod_eq_emod (a:=n) (b:=(m:Int));rw[he]at this;rw[this];split
  · left;simp
  · right;simp
 obtain⟨r,hr⟩:=nmE (n.tmod (m:Int));rw[hr]at h3;clear he;have hm0:((m:Int)==0)=false:=by rw[beq_eq_false_iff_ne];omega
 by_cases h4:r<0
 · have h6: -1000000<=r:=by omega
   have h5:r+(m:Int)=(p:Int):=by omega
   have H5:=hE0 h5;clear h3 h5 hp;go_enter Tryz.func44,Tryz.ntmps44
   go_wp2
   go_ret
   exact⟨av8 H5.out,rfl⟩
 · have h5:r=(p:Int):=by omega
   have H5:=hE0 h5;clear h3 h5 hp;go_enter Tryz.func44,Tryz.ntmps44
   go_wp2
   go_ret
   exact⟨av8 H5.out,rfl⟩
theorem aiR (bs:List UInt8) (o v:Nat):alh bs o v=lyN bs o v:=by
 unfold alh lay lyN;rw[aag]
section
variable (w:World)
end
theorem apd{p:Nat->Bool}{l:List Nat}{j o:Nat}(h:∀q∈l.take j,p q=false) (hj:l[j]?=some o) (ho:p o=true):l.find? p=some o:=by
 have hlt:j<l.length:=by
  rcases Nat.lt_or_ge j l.length with h | h
  · exact h
  · rw[List.getElem?_eq_none h]at hj;cases hj
 rw[List.getElem?_eq_getElem hlt]at hj;injection hj with hj;have e:l=l.take j++(o::l.drop (j+1)):=by rw[<-hj,<-List.drop_eq_getElem_cons hlt,List.take_append_drop]
 rw[e,List.find?_append];have hn:(l.take j).find? p=none:=List.find?_eq_none.2 fun q hq=>by rw[h q hq];simp
 rw[hn,Option.none_or,List.find?_cons_of_pos ho]
theorem anA{p:Nat->Bool}{l:List Nat}(h:∀q∈l,p q=false):l.find? p=none:=List.find?_eq_none.2 fun q hq=>by rw[h q hq];simp
theorem agK (bs:List UInt8) (c:Nat):∀(k last p:Nat) (l:List Nat),ael bs c k last p=some l->∀o∈l,aap bs o (c:Int)=true
 | 0,last,p,l,h,o,ho=>by
  unfold ael at h;split at h
  · injection h with h;subst h;cases ho
  · cases h
 | k+1,last,p,l,h,o,ho=>by
  unfold ael at h;by_cases hp:p=0
  · rw[if_pos hp]at h;injection h with h;subst h;cases ho
  · rw[if_neg hp]at h;dsimp only at h;by_cases hm:aap bs p (c:Int)=true/\aaf bs (p+16)=last
    · rw[if_pos hm]at h
      cases hr:ael bs c k p (aaf bs (p+8))with
      | none=>rw[hr]at h;cases h
      | some l'=>
       rw[hr]at h;injection h with h;subst h;rcases List.mem_cons.1 ho with e | ho
       · rw[e];exact hm.1
       · exact agK bs c k p _ l' hr o ho
    · rw[if_neg hm]at h;cases h
theorem acL{bs:List UInt8}{c:Nat}{l:List Nat}(h:afn bs c=some l):∀o∈l,aap bs o (c:Int)=true:=by
 unfold afn at h;split at h
 · cases h
 · split at h
   · cases h
   · exact agK bs c _ _ _ l h
theorem aeG{bs:List UInt8}{p:Nat}{c:Int}(h:aap bs p c=true):p<=20000/\∃x,aa6 bs (p:Int)=some x:=by
 unfold aap at h
 cases hg:aa6 bs (p:Int)with
 | none=>rw[hg]at h;simp at h
 | some x=>rw[hg]at h;simp at h;exact⟨h.1,x,rfl⟩
section
variable (w:World)
end
section
variable {P:Program} {ops:Array Oper} {Q:Exit->Act->World->Prop}
end
theorem aj2 (ρ:Operand->Value) (o:Oper) (ho:o.op= .alloc 112) (w:World):
 (execOp ρ o).run Tryz.prog w= .ok (.value (.pointer (some ⟨w.heap.size,0,none⟩))) (w.alloc (.cells #[.int .i64 0, .int .i64 0, .bool false] 112)):=by
 unfold execOp;simp only[ho];simp[go_sem]
theorem ape (ρ:Operand->Value) (o:Oper) (x y:Operand) (ho:o.op= .store 112 x y) (w:World) (gx:Nat) (p q:Int) (r:Bool) (v0 v1 v2:Value) (hx:ρ x= .pointer (some ⟨gx,0,none⟩)) (hy:ρ y= .agg #[.int .i64 p, .int .i64 q, .bool r]) (h:w.heap[gx]?=some (.cells #[v0,v1,v2] 112 (0,0))):
 (execOp ρ o).run Tryz.prog w= .ok .skip (((w.setCell ⟨gx,0,none⟩ (.int .i64 p)).setCell ⟨gx,1,none⟩ (.int .i64 q)).setCell ⟨gx,2,none⟩ (.bool r)):=by
 obtain⟨⟨e0,e1,e2⟩,f0,f1,f2⟩:=aad h;unfold execOp;simp only[ho,hx,hy];simp[go_sem,e0,e1,e2,f0,f1,f2]
section
variable {wB W:World} {g base cap c:Nat} {A:Option Addr} {bs:List UInt8} {L:List (Nat × Obj)}
end
theorem arw:laidOutB Tryz.prog=true:=by kernel_rfl
theorem plc_law:Maps.Keyed Tryz.prog 251:=
 Maps.Keyed.of_law (deep_law_laid arw (m:=2) (by omega) (of_decide_eq_true (by kernel_rfl)) (by kernel_rfl) (by rw[Tryz.underlying251]))
def pk (o k:Nat):Lit:= .string (keyBytes [.int .i64 (o:Int), .int .i64 (k:Int)])
abbrev pv (o k:Nat):Value:= .agg #[.int .i64 (o:Int), .int .i64 (k:Int)]
theorem ah2{o k:Nat}(ho:o<=100000) (hk:k<=100):keyOf Tryz.prog 251 (pv o k)=some (pk o k):=by
 have w1:(Lit.int .i64 (o:Int)).wf=true:=WalkArith.wf_i64 (by omega);have w2:(Lit.int .i64 (k:Int)).wf=true:=WalkArith.wf_i64 (by omega);have hkt:Tryz.prog.keyType 251=true:=by kernel_rfl
 have hc:Tryz.prog.cellsOf 251=2:=by kernel_rfl
 have hi:Tryz.prog.cellsOf 3=1:=by kernel_rfl
 obtain⟨m,hm⟩:∃m,Tryz.prog.types.size=m+1:=⟨Tryz.prog.types.size-1,by have:0<Tryz.prog.types.size:=of_decide_eq_true (by kernel_rfl);omega⟩;unfold keyOf;simp only[Tryz.underlying251];rw[if_pos (by simp[hkt,Value.formed,Tryz.underlying251,hc]),hm];unfold Program.keyLits;simp only[Tryz.underlying251,Value.cells];rw[if_pos ⟨by rw[hc];rfl,by kernel_rfl⟩];simp[hi,Program.keyLits,Tryz.underlying3,w1,w2,pk]
theorem asH{o k o' k':Nat}(ho:o<=100000) (hk:k<=100) (ho':o'<=100000) (hk':k'<=100) (h:pk o k=pk o' k'):o=o'/\k=k':=by
 have h1:=ah2 ho hk;rw[h]at h1;have h2:=plc_law.inj h1 (ah2 ho' hk');simp only[pv,Value.agg.injEq,Array.mk.injEq,List.cons.injEq,Value.int.injEq,and_true,true_and]at h2;omega
theorem auF{o k:Nat}(ho:o<=100000) (hk:k<=100):WideAt.IsKeyLit (pk o k):=plc_law.key (ah2 ho hk)
def PSet (w:World) (B n:Nat) (f:Nat->Nat->Bool) (z:Nat):Prop:=∃D:DataW Unit,w.ownsMap Tryz.prog 251 (plainElem Tryz.prog 4) B n D/\
 (∀kl,Maps.has D kl=true->∀y,D.atKey kl y= .lit (.bool true))/\(∀o k,o<=100000->k<=100->Maps.has D (pk o k)=f o k)/\Maps.size D=z
theorem aj3 (b:Bool):plainElem (H:=Unit) Tryz.prog 4 (.bool b)=some (.lit (.bool b),[]):=plainElem_bool Tryz.underlying4 b
theorem apf (w:World):(zeroValue 4).run Tryz.prog w= .ok (.bool false) w:=by kernel_rfl
theorem aiS{P:Program}{e:TypeId}(he:P.underlying e=some .bool){v:Value}{d:DataW Unit}{ps:List MemPlace}(h:plainElem P e v=some (d,ps)):∃b,v= .bool b/\d= .lit (.bool b):=by
 unfold plainElem at h;rw[he]at h
 cases v<;>simp at h;exact⟨_,rfl,h.1.symm⟩
theorem arx{v:Value}{d:DataW Unit}{ps:List MemPlace}(h:plainElem Tryz.prog 4 v=some (d,ps)):∃b,v= .bool b/\d= .lit (.bool b):=aiS Tryz.underlying4 h
section
variable {w w':World} {B n z:Nat} {f:Nat->Nat->Bool}
theorem PSet.made (w:World):PSet (w.alloc (.map #[] 0)) w.heap.size 0 (fun _ _=>false) 0:=
 ⟨.map [],World.ownsMap_made _ _ _ _,fun kl h=>absurd h (by simp[Maps.has]),fun _ _ _ _=>rfl,rfl⟩
theorem PSet.lt (h:PSet w B n f z):B<w.heap.size:=by
 obtain⟨D,ho,_⟩:=h;exact ho.lt
theorem PSet.keep (h:PSet w B n f z) (hb:w'.heap[B]?=w.heap[B]?):PSet w' B n f z:=by
 obtain⟨D,⟨es,clock,h1,h2⟩,h3⟩:=h;exact⟨D,⟨es,clock,hb.trans h1,h2⟩,h3⟩
theorem PSet.mono{n':Nat}(h:PSet w B n f z) (hn:n<=n'):PSet w B n' f z:=by
 obtain⟨D,h1,h2⟩:=h;exact⟨D,h1.mono hn,h2⟩
theorem PSet.below{B0:Nat}(h:PSet w B n f z) (hb:Below B0 w w') (hB:B<B0):PSet w' B n f z:=h.keep (hb.block B hB)
theorem PSet.same{f':Nat->Nat->Bool}(h:PSet w B n f z) (hf:∀o k,o<=100000->k<=100->f o k=f' o k):PSet w B n f' z:=by
 obtain⟨D,h1,h2,h3,h4⟩:=h;exact⟨D,h1,h2,fun o k ho hk=>(h3 o k ho hk).trans (hf o k ho hk),h4⟩
end
section
variable {w:World} {ops:Array Oper} {rest:List Oper} {o:Oper} {a:Act} {Q:Exit->Act->World->Prop} {B n z:Nat} {f:Nat->Nat->Bool}
theorem ah3 (hg:o.guard=none) (m x:Operand) (hop:o.op=Op.lookup 192 m x false) (hm:a.eval m= .map (some B)) (h:PSet w B n f z) (p c:Nat) (hp:p<=100000) (hc:c<=100)
 (hx:a.eval x=pv p c) (b:Bool) (hb:f p c=b) (hK:wpList Tryz.prog ops Q rest (a.put o.dst (.bool b)) w):wpList Tryz.prog ops Q (o::rest) a w:=by
 refine wpList_plain hg fun K' hK'=> ?_;obtain⟨D,hown,hall,hf,hz⟩:=h;obtain⟨v,ps,hrun,hv⟩:=hown.lookup plc_law Tryz.underlying192 (apf w) (aj3 false) (ah2 hp hc);obtain⟨b',rfl,hd⟩:=arx hv;have e:b'=b:=by
  rw[<-hb,<-hf p c hp hc]
  cases hh:Maps.has D (pk p c)
  · rw[Maps.atKey_of_not_has hh]at hd;simpa using hd.symm
  · rw[hall _ hh]at hd;simpa using hd.symm
 subst e;unfold Oper.wp;simp[execOp,hop,hm,hx,hrun,Result.andThen];exact hK' _ _ hK
theorem apg (hg:o.guard=none) (m x v:Operand) (hop:o.op=Op.mapUpdate 192 m x v) (hm:a.eval m= .map (some B)) (h:PSet w B n f z) (hn:n<maxLen) (p c:Nat) (hp:p<=100000) (hc:c<=100)
 (hx:a.eval x=pv p c) (hv:a.eval v= .bool true) (hf0:f p c=false)
 (hK:∀w',PSet w' B (n+1) (fun p' c'=>f p' c' || (p'==p&&c'==c)) (z+1)->Tch (fun j=>j=B) w w'->wpList Tryz.prog ops Q rest (a.put o.dst undef) w'):wpList Tryz.prog ops Q (o::rest) a w:=by
 obtain⟨D,hown,hall,hf,hz⟩:=h;have hkl:=auF hp hc;have hno:Maps.has D (pk p c)=false:=(hf p c hp hc).trans hf0;refine wpList_mapUpdate_own w hg m x v _ hop _ _ plc_law Tryz.underlying192 _ B n D hm hown hn _ _ (pk p c) hx hv (ah2 hp hc) _ _ (aj3 true) (fun w' h1 h2=> ?_);have hI:=(hown.tidy plc_law).isMap;refine hK w' ⟨_,h1,fun kl hh y=> ?_,fun p' c' hp' hc'=> ?_,?_⟩ (Tch.grown h2 (fun k hk=>by injection hk with hk;exact hk.symm))
 · by_cases e:kl=pk p c
   · subst e;exact Maps.atKey_put_same hI hkl _ _
   · rw[Maps.has_put_other e]at hh;rw[Maps.atKey_put_other e];exact hall _ hh y
 · by_cases e:pk p' c'=pk p c
   · obtain⟨rfl,rfl⟩:=asH hp' hc' hp hc e;rw[Maps.has_put_same hI hkl];simp
   · rw[Maps.has_put_other e,hf p' c' hp' hc'];have:(p'==p&&c'==c)=false:=by
      rw[Bool.and_eq_false_iff,beq_eq_false_iff_ne,beq_eq_false_iff_ne];by_cases e1:p'=p
      · exact .inr fun e2=>e (by rw[e1,e2])
      · exact .inl e1
     show _=(f p' c' || (p'==p&&c'==c));rw[this,Bool.or_false]
 · rw[Maps.size_put (hown.tidy plc_law),hno,hz];rfl
theorem aph (hg:o.guard=none) (m x:Operand) (hop:o.op=Op.call {callee:=Callee.builtin Builtin.delete,args:= #[m,x],argTypes:= #[192,251]}) (hm:a.eval m= .map (some B)) (h:PSet w B n f z) (p c:Nat) (hp:p<=100000) (hc:c<=100)
 (hx:a.eval x=pv p c) (hf1:f p c=true)
 (hK:∀w' z',z'+1=z->PSet w' B n (fun p' c'=>f p' c'&& !(p'==p&&c'==c)) z'->Tch (fun j=>j=B) w w'->wpList Tryz.prog ops Q rest (a.put o.dst (.tuple #[])) w'):wpList Tryz.prog ops Q (o::rest) a w:=by
 obtain⟨D,hown,hall,hf,hz⟩:=h;have hyes:Maps.has D (pk p c)=true:=(hf p c hp hc).trans hf1;refine wpList_delete_own w hg m x _ _ hop _ plc_law Tryz.underlying192 _ B n D hm hown _ (pk p c) hx (ah2 hp hc) (fun w' h1 h2=> ?_);have hs:=Maps.size_del (k:=pk p c) (hown.tidy plc_law);rw[hyes,if_pos rfl,hz]at hs;refine hK w' _ hs ⟨_,h1,fun kl hh y=> ?_,fun p' c' hp' hc'=> ?_,rfl⟩ (Tch.grown h2.grown (fun k hk=>by injection hk with hk;exact hk.symm))
 · by_cases e:kl=pk p c
   · subst e;rw[Maps.has_del_same]at hh;cases hh
   · rw[Maps.has_del_other e]at hh;rw[Maps.atKey_del_other e];exact hall _ hh y
 · by_cases e:pk p' c'=pk p c
   · obtain⟨rfl,rfl⟩:=asH hp' hc' hp hc e;rw[Maps.has_del_same];simp
   · rw[Maps.has_del_other e,hf p' c' hp' hc'];have:(p'==p&&c'==c)=false:=by
      rw[Bool.and_eq_false_iff,beq_eq_false_iff_ne,beq_eq_false_iff_ne];by_cases e1:p'=p
      · exact .inr fun e2=>e (by rw[e1,e2])
      · exact .inl e1
     show _=(f p' c'&& !(p'==p&&c'==c));rw[this,Bool.not_false,Bool.and_true]
theorem api (hg:o.guard=none) (m:Operand) (hop:o.op=Op.call {callee:=Callee.builtin Builtin.len,args:= #[m],argTypes:= #[192]}) (hm:a.eval m= .map (some B)) (h:PSet w B n f z)
 (hK:wpList Tryz.prog ops Q rest (a.put o.dst (.int .i64 (z:Int))) w):wpList Tryz.prog ops Q (o::rest) a w:=by
 obtain⟨D,hown,_,_,hz⟩:=h;refine wpList_len_own w hg m _ hop _ _ Tryz.underlying192 _ B n D hm hown ?_;rw[hz];exact hK
end
open Go.RowKit Go.Extern.Stop Go.Stop Go.Extern
theorem agL (v:Value) (w:World):(Extern.ReflectliteType.typeOf #[.iface 130 v]).run Tryz.prog w= .ok (.iface 314 (.agg #[.pointer (some ⟨1,130,none⟩)])) w:=by kernel_rfl
def apj:Array Value->Sem Value:=Extern.ReflectliteType.method fun t=>do Extern.Rtype.noPackHeld "Comparable" t;pure (.bool (<-typeInfo t).comparable)
theorem ad4 (w:World):(apj #[.agg #[.pointer (some ⟨1,130,none⟩)]]).run Tryz.prog w= .ok (.bool true) w:=by kernel_rfl
theorem afR (v:Value) (w:World):(Go.method 476 314 v "Comparable").run Tryz.prog w= .ok (304,v) w:=by kernel_rfl
theorem apk (v:Value) (xT:TypeId) (w:World):(Instr.typeAssert (.iface 130 v) xT 336 true).run Tryz.prog w= .ok (.tuple #[.nilIface, .bool false]) w:=run_typeAssert_lacksB Tryz.underlying336 (by kernel_rfl) (by kernel_rfl) v xT w
theorem aiT (v:Value) (xT:TypeId) (w:World):(Instr.typeAssert (.iface 130 v) xT 321 true).run Tryz.prog w= .ok (.tuple #[.nilIface, .bool false]) w:=run_typeAssert_lacksB Tryz.underlying321 (by kernel_rfl) (by kernel_rfl) v xT w
theorem ahE (v:Value) (xT:TypeId) (w:World):(Instr.typeAssert (.iface 130 v) xT 322 true).run Tryz.prog w= .ok (.tuple #[.nilIface, .bool false]) w:=run_typeAssert_lacksB Tryz.underlying322 (by kernel_rfl) (by kernel_rfl) v xT w
theorem anB (w:World):(binOp .eql 31 (.iface 130 (.int .i64 1)) (.iface 130 (.int .i64 1))).run Tryz.prog w= .ok (.bool true) w:=by kernel_rfl
theorem anC (w:World):(binOp .eql 31 (.iface 130 (.int .i64 3)) (.iface 130 (.int .i64 1))).run Tryz.prog w= .ok (.bool false) w:=by kernel_rfl
theorem avz (w:World):
 Calls Tryz.prog 192 #[.iface 130 (.int .i64 1), .iface 130 (.int .i64 1)] w fun e w'=>e= .returned (.bool true)/\w'=w:=by
 have h8:= @run_callFunc_extern Tryz.prog 240 _ Extern.ReflectliteType.typeOf Tryz.func240 (by kernel_rfl) (by kernel_rfl) (by kernel_rfl) (by kernel_rfl);have h32:= @run_callFunc_extern Tryz.prog 304 _ apj Tryz.func304 (by kernel_rfl) (by kernel_rfl) (by kernel_rfl) (by kernel_rfl);have tT:=agL;have cT:=ad4;have mR:=afR;have heq:=anB;go_enter Tryz.func192,Tryz.ntmps192
 go_wp2
 refine wp_loop_rounds 1 ?_;rw[rounds_succ];go_wp2
 go_ret
 exact⟨rfl,rfl⟩
theorem auG (w:World):
 Calls Tryz.prog 192 #[.iface 130 (.int .i64 3), .iface 130 (.int .i64 1)] w fun e w'=>e= .returned (.bool false)/\w'=w:=by
 have h8:= @run_callFunc_extern Tryz.prog 240 _ Extern.ReflectliteType.typeOf Tryz.func240 (by kernel_rfl) (by kernel_rfl) (by kernel_rfl) (by kernel_rfl);have h32:= @run_callFunc_extern Tryz.prog 304 _ apj Tryz.func304 (by kernel_rfl) (by kernel_rfl) (by kernel_rfl) (by kernel_rfl);have tT:=agL;have cT:=ad4;have mR:=afR;have nE:=apk;have uE:=aiT;have vE:=ahE;have heq:=anC;go_enter Tryz.func192,Tryz.ntmps192
 go_wp2
 refine wp_loop_rounds 1 ?_;rw[rounds_succ];go_wp2
 go_ret
 exact⟨rfl,rfl⟩
def ETV:Value:= .iface 314 (.agg #[.pointer (some ⟨1,31,none⟩)])
def ET (w:World):Prop:=w.cell? ⟨0,0,none⟩=some (.iface 314 (.agg #[.pointer (some ⟨1,31,none⟩)]))
theorem auH (t:Value) (w:World):
 Calls Tryz.prog 133 #[.nilIface,t] w fun e w'=>e= .returned (.bool false)/\w'=w:=by
 go_enter Tryz.func133,Tryz.ntmps133
 go_wp2
 go_ret
 exact⟨rfl,rfl⟩
theorem ali (t:Addr) (w:World):(ReflectliteValue.unpack (.iface 217 (.pointer (some t)))).run Tryz.prog w
 = .ok (.agg #[.pointer (some ⟨1,217,none⟩), .pointer (some ⟨w.heap.size,0,none⟩), .int .u64 150]) (w.alloc (.cells #[.pointer (some t)] 217)):=by kernel_rfl
theorem ary (a:Addr) (w:World):(ReflectliteValue.methodAny (ReflectliteValue.valueError "reflectlite.Value.Type" 0) (fun t _ _ _=>ReflectliteType.toType t) #[.agg #[.pointer (some ⟨1,217,none⟩), .pointer (some a), .int .u64 150]]).run Tryz.prog w
 = .ok (.iface 314 (.agg #[.pointer (some ⟨1,217,none⟩)])) w:=by kernel_rfl
theorem aiU (h:Value) (w:World):(Go.method 476 314 (.agg #[h]) "Kind").run Tryz.prog w= .ok (295,h) w:=by kernel_rfl
theorem arz (w:World):((ReflectliteType.abiMethod fun t=>(fun a:Nat=>Value.int IntKind.u8 (a:Int))<$>Rtype.kind t) #[.pointer (some ⟨1,217,none⟩)]).run Tryz.prog w= .ok (.int .u8 22) w:=by kernel_rfl
theorem arA (w:World):((ReflectliteType.abiMethod fun t=>(fun a:Nat=>Value.int IntKind.u8 (a:Int))<$>Rtype.kind t) #[.pointer (some ⟨1,130,none⟩)]).run Tryz.prog w= .ok (.int .u8 2) w:=by kernel_rfl
theorem asI (z:Sem Value) (f:TypeId->Addr->Nat->Nat->Sem Value) (v:Value):
 ReflectliteValue.method z f #[v]=(do match<-ReflectliteValue.parts v with | none=>z | some (t,a,fl)=>f t a fl (fl%32)):=rfl
theorem aj4 (a:Addr) (w:World):(ReflectliteValue.parts (.agg #[.pointer (some ⟨1,217,none⟩), .pointer (some a), .int .u64 150])).run Tryz.prog w= .ok (some (217,a,150)) w:=by kernel_rfl
theorem apl (a p:Addr) (W:World) (ha:W.cell? a=some (.pointer (some p))):
 (ReflectliteValue.method (ReflectliteValue.valueError "reflectlite.Value.IsNil" 0) ReflectliteValue.isNil #[.agg #[.pointer (some ⟨1,217,none⟩), .pointer (some a), .int .u64 150]]).run Tryz.prog W= .ok (.bool false) W:=by
 rw[asI];simp only[Sem.run_bind,aj4,Result.andThen];simp[ReflectliteValue.isNil,loadVar,isAgg,underlying,Tryz.underlying217,ha,Result.andThen]
theorem aiV (h:Value) (w:World):(Go.method 476 314 (.agg #[h]) "Elem").run Tryz.prog w= .ok (305, .agg #[h]) w:=by kernel_rfl
theorem aeH (h:Value) (w:World):(Go.method 476 314 (.agg #[h]) "Implements").run Tryz.prog w= .ok (306, .agg #[h]) w:=by kernel_rfl
theorem ad5 (h:Value) (w:World):(Go.method 476 314 (.agg #[h]) "AssignableTo").run Tryz.prog w= .ok (303, .agg #[h]) w:=by kernel_rfl
theorem arB (w:World):(ReflectliteType.method ReflectliteType.elem #[.agg #[.pointer (some ⟨1,217,none⟩)]]).run Tryz.prog w= .ok (.iface 314 (.agg #[.pointer (some ⟨1,130,none⟩)])) w:=by kernel_rfl
theorem arC (w:World):(ReflectliteType.relation "Implements" ReflectliteType.implements_ #[.agg #[.pointer (some ⟨1,130,none⟩)], .iface 314 (.agg #[.pointer (some ⟨1,31,none⟩)])]).run Tryz.prog w= .ok (.bool true) w:=by kernel_rfl
theorem anD (v:Value) (w:World):(ReflectliteType.typeOf #[.iface 130 v]).run Tryz.prog w= .ok (.iface 314 (.agg #[.pointer (some ⟨1,130,none⟩)])) w:=by kernel_rfl
theorem anF (w:World):(ReflectliteType.relation "AssignableTo" ReflectliteType.assignableTo #[.agg #[.pointer (some ⟨1,130,none⟩)], .iface 314 (.agg #[.pointer (some ⟨1,130,none⟩)])]).run Tryz.prog w= .ok (.bool true) w:=by kernel_rfl
theorem alj (k:Int) (w:World):(ReflectliteValue.unpack (.iface 130 (.int .i64 k))).run Tryz.prog w
 = .ok (.agg #[.pointer (some ⟨1,130,none⟩), .pointer (some ⟨w.heap.size,0,none⟩), .int .u64 130]) (w.alloc (.cells #[.int .i64 k] 130)):=by kernel_rfl
theorem anG (w:World):(Rtype.elem? 217).run Tryz.prog w= .ok (some 130) w:=by kernel_rfl
theorem auI (p:Addr) (w:World):(ReflectliteValue.mk 130 p ReflectliteValue.flagAddr).run Tryz.prog w= .ok (.agg #[.pointer (some ⟨1,130,none⟩), .pointer (some p), .int .u64 386]) w:=by kernel_rfl
theorem apm (a p:Addr) (W:World) (ha:W.cell? a=some (.pointer (some p))):
 (ReflectliteValue.method (ReflectliteValue.valueError "reflectlite.Value.Elem" 0) ReflectliteValue.elem #[.agg #[.pointer (some ⟨1,217,none⟩), .pointer (some a), .int .u64 150]]).run Tryz.prog W
  = .ok (.agg #[.pointer (some ⟨1,130,none⟩), .pointer (some p), .int .u64 386]) W:=by
 rw[asI];simp only[Sem.run_bind,aj4,Result.andThen];simp[ReflectliteValue.elem,loadVar,isAgg,underlying,Tryz.underlying217,ha,Result.andThen,anG,auI]
theorem auJ (v x:Value):ReflectliteValue.set #[v,x]=(do
 let (some (dst,a,fl),some (src,b,_)):=(<-ReflectliteValue.parts v,<-ReflectliteValue.parts x)
  | unsupported (.noEntry "extern/(internal/reflectlite.Value).Set.zeroValue")
 if fl/ReflectliteValue.flagAddr%2==0 then unsupported (.noEntry "extern/(internal/reflectlite.Value).Set.unaddressable")
 let val<-loadVar src b
 if<-Rtype.directlyAssignable dst src then storeVar dst a val
 else if<-Rtype.implements dst src then
  if (<-Rtype.kind src)==20 then
   match val with
   | .nilIface=>unsupported (.noEntry "extern/reflectlite: a nil value of one interface type handed on as a value of another")
   | _=>storeVar dst a val
  else storeVar dst a (.iface src val)
 else panicString ("reflectlite.Set: value of type " ++(<-Rtype.spelt src)++ " is not assignable to type " ++(<-Rtype.spelt dst))
 pure (.tuple #[])):=rfl
theorem anH (a:Addr) (w:World):(ReflectliteValue.parts (.agg #[.pointer (some ⟨1,130,none⟩), .pointer (some a), .int .u64 386])).run Tryz.prog w= .ok (some (130,a,386)) w:=by kernel_rfl
theorem apn (a:Addr) (w:World):(ReflectliteValue.parts (.agg #[.pointer (some ⟨1,130,none⟩), .pointer (some a), .int .u64 130])).run Tryz.prog w= .ok (some (130,a,130)) w:=by kernel_rfl
theorem anI (w:World):(Rtype.directlyAssignable 130 130).run Tryz.prog w= .ok true w:=by kernel_rfl
theorem atl (ta b:Addr) (k:Int) (old:Value) (W:World) (hb:W.cell? b=some (.int .i64 k)) (ht:W.cell? ta=some old) (hf:W.frozen? ta=false):
 (ReflectliteValue.set #[.agg #[.pointer (some ⟨1,130,none⟩), .pointer (some ta), .int .u64 386], .agg #[.pointer (some ⟨1,130,none⟩), .pointer (some b), .int .u64 130]]).run Tryz.prog W
  = .ok (.tuple #[]) (W.setCell ta (.int .i64 k)):=by
 rw[auJ];simp only[Sem.run_bind,anH,apn,Result.andThen];simp[ReflectliteValue.flagAddr,loadVar,isAgg,underlying,Tryz.underlying130,hb,Result.andThen,anI,storeVar,Value.cells,storeCells,Addr.add];rw[run_store Tryz.prog W ta _ _ (by rfl)];simp[ht,hf]
theorem auK (k:Int) (t:Addr) (old:Value) (w:World) (hg:ET w) (ht0:w.cell? t=some old) (hf0:w.frozen? t=false):
 Calls Tryz.prog 133 #[.iface 130 (.int .i64 k), .iface 217 (.pointer (some t))] w fun ev w'=>ev= .returned (.bool true)/\w'=((((w.alloc (.cells #[.pointer (some t)] 217)).alloc (.cells #[.pointer (some ⟨1,217,none⟩), .pointer (some ⟨w.heap.size,0,none⟩), .int .u64 150] 267)).alloc (.cells #[.pointer (some ⟨1,217,none⟩), .pointer (some ⟨w.heap.size,0,none⟩), .int .u64 150] 267)).alloc (.cells #[.int .i64 k] 130)).setCell t (.int .i64 k):=by
 unfold ET at hg;have h6:= @run_callFunc_extern Tryz.prog 195 _ (fun args=>ReflectliteValue.unpack (args.getD 0 (.tuple #[]))) Tryz.func195 (by kernel_rfl) (by kernel_rfl) (by kernel_rfl) (by kernel_rfl);have h7:= @run_callFunc_extern Tryz.prog 196 _ (ReflectliteValue.methodAny (ReflectliteValue.valueError "reflectlite.Value.Type" 0) (fun t _ _ _=>ReflectliteType.toType t)) Tryz.func196 (by kernel_rfl) (by kernel_rfl) (by kernel_rfl) (by kernel_rfl);have h8:= @run_callFunc_extern Tryz.prog 197 _ (ReflectliteValue.method (ReflectliteValue.valueError "reflectlite.Value.IsNil" 0) ReflectliteValue.isNil) Tryz.func197 (by kernel_rfl) (by kernel_rfl) (by kernel_rfl) (by kernel_rfl);have h27:= @run_callFunc_extern Tryz.prog 295 _ (ReflectliteType.abiMethod fun t=>do pure (.int .u8 (<-Rtype.kind t))) Tryz.func295 (by kernel_rfl) (by kernel_rfl) (by kernel_rfl) (by kernel_rfl);have h37:= @run_callFunc_extern Tryz.prog 305 _ (ReflectliteType.method ReflectliteType.elem) Tryz.func305 (by kernel_rfl) (by kernel_rfl) (by kernel_rfl) (by kernel_rfl);have h38:= @run_callFunc_extern Tryz.prog 306 _ (ReflectliteType.relation "Implements" ReflectliteType.implements_) Tryz.func306 (by kernel_rfl) (by kernel_rfl) (by kernel_rfl) (by kernel_rfl);have h10:= @run_callFunc_extern Tryz.prog 240 _ ReflectliteType.typeOf Tryz.func240 (by kernel_rfl) (by kernel_rfl) (by kernel_rfl) (by kernel_rfl);have h35:= @run_callFunc_extern Tryz.prog 303 _ (ReflectliteType.relation "AssignableTo" ReflectliteType.assignableTo) Tryz.func303 (by kernel_rfl) (by kernel_rfl) (by kernel_rfl) (by kernel_rfl);have h11:= @run_callFunc_extern Tryz.prog 246 _ (ReflectliteValue.method (ReflectliteValue.valueError "reflectlite.Value.Elem" 0) ReflectliteValue.elem) Tryz.func246 (by kernel_rfl) (by kernel_rfl) (by kernel_rfl) (by kernel_rfl);have h12:= @run_callFunc_extern Tryz.prog 247 _ ReflectliteValue.set Tryz.func247 (by kernel_rfl) (by kernel_rfl) (by kernel_rfl) (by kernel_rfl);have tO:=anD;have mA:=ad5;have a25:=anF;have v25:=alj;have f6:=ali;have f7:=ary;have mK:=aiU;have mE:=aiV;have mI:=aeH;have k27:=arz;have k25:=arA;have e27:=arB;have i25:=arC;have n8:=apl ⟨w.heap.size,0,none⟩ t ((w.alloc (.cells #[.pointer (some t)] 217)).alloc (.cells #[.pointer (some ⟨1,217,none⟩), .pointer (some ⟨w.heap.size,0,none⟩), .int .u64 150] 267)) (by simp);have hlt:0<w.heap.size:=by
  rcases Nat.eq_zero_or_pos w.heap.size with h0 | h
  · simp[World.cell?,h0]at hg
  · exact h
 have hg2:((w.alloc (.cells #[.pointer (some t)] 217)).alloc (.cells #[.pointer (some ⟨1,217,none⟩), .pointer (some ⟨w.heap.size,0,none⟩), .int .u64 150] 267)).cell? ⟨0,0,none⟩=some (.iface 314 (.agg #[.pointer (some ⟨1,31,none⟩)])):=by
  rw[World.cell?_alloc_lt _ _ ⟨0,0,none⟩ (by simp),World.cell?_alloc_lt _ _ ⟨0,0,none⟩ hlt];exact hg
 have htl:t.block<w.heap.size:=by
  rcases Nat.lt_or_ge t.block w.heap.size with h | h
  · exact h
  · simp[World.cell?,Array.getElem?_eq_none h]at ht0
 have el:=apm ⟨w.heap.size,0,none⟩ t (((w.alloc (.cells #[.pointer (some t)] 217)).alloc (.cells #[.pointer (some ⟨1,217,none⟩), .pointer (some ⟨w.heap.size,0,none⟩), .int .u64 150] 267)).alloc (.cells #[.pointer (some ⟨1,217,none⟩), .pointer (some ⟨w.heap.size,0,none⟩), .int .u64 150] 267)) (by rw[World.cell?_alloc_lt _ _ ⟨w.heap.size,0,none⟩ (by simp;omega)];simp);have st:=atl t ⟨w.heap.size+1+1+1,0,none⟩ k old ((((w.alloc (.cells #[.pointer (some t)] 217)).alloc (.cells #[.pointer (some ⟨1,217,none⟩), .pointer (some ⟨w.heap.size,0,none⟩), .int .u64 150] 267)).alloc (.cells #[.pointer (some ⟨1,217,none⟩), .pointer (some ⟨w.heap.size,0,none⟩), .int .u64 150] 267)).alloc (.cells #[.int .i64 k] 130))
  (by rw[World.cell?_alloc_at _ _ _ _ (by simp)];rfl)
  (by rw[World.cell?_alloc_lt _ _ t (by simp;omega),World.cell?_alloc_lt _ _ t (by simp;omega),World.cell?_alloc_lt _ _ t (by simp;omega),World.cell?_alloc_lt _ _ t htl];exact ht0)
  (by rw[World.frozen?_alloc_old _ _ t (by simp;omega),World.frozen?_alloc_old _ _ t (by simp;omega),World.frozen?_alloc_old _ _ t (by simp;omega),World.frozen?_alloc_old _ _ t (Nat.ne_of_lt htl)];exact hf0)
 go_enter Tryz.func133,Tryz.ntmps133
 go_wp2
 refine wp_loop_rounds 1 ?_;rw[rounds_succ];go_wp2
 go_ret
 exact⟨rfl,rfl⟩
end Go.Proofs.YtncadccbepjekaaGreatDoor
