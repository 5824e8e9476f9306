/- Texts of mine, joined. -/
import Derived.WalkKit
import Derived.LaidEql
import Derived.Stop.Asserts
import Derived.RowKitTokens
import Derived.Test.YtncadccbepjekaaGreatDoorL6
set_option maxRecDepth 100000
set_option maxHeartbeats 4000000
namespace Go.Proofs.YtncadccbepjekaaGreatDoor
section
variable {bs:List UInt8} {H:Hp}
theorem Rt.congr{H':Hp}(h:Rt bs H) (e1:H'.blks=H.blks) (e2:H'.lists=H.lists) (e3:H'.cap=H.cap):Rt bs H':=⟨by rw[e1];exact h.walk,by rw[e2];exact h.all_,h.chk,by rw[e3];exact h.len⟩
theorem Lists.takeO{P:List Bk}{L:Nat->List Nat}(h:Lists bs P L) (n:Option Bk) (hn:∀y,n=some y->y∈P/\y.off∈L (afU y)):∃out,ap7 bs n=some out/\Lists out P (tkO L n)/\out.length=bs.length/\Kept P bs out/\aaf out 0/4194304=aaf bs 0/4194304:=by
 cases n with
 | none=>exact⟨bs,rfl,h,rfl,Kept.refl _ _,rfl⟩
 | some y=>
  obtain⟨hy,hm⟩:=hn y rfl;have hf:=h.st.facts hy;obtain⟨_,hc22⟩:=adg hf.2.2.2.2.2;obtain⟨out,h1,h2,h3,h4⟩:=h.take hy hc22 hm;have e:(fun q:Nat=>decide (q≠y.off))=(fun o=>o !=y.off):=by funext q;simp[bne];rfl
  rw[e]at h2;exact⟨out,h1,h2,h3,h4,ah9 h.len h1⟩
theorem agd{A B:List Bk}{x:Bk}{e:Nat}(ht:aby 184 (A++x::B) e):aby 184 A x.off/\aaG (x.size:Int)=true/\aby (x.off+x.size) B e/\x.off%16=8/\184<=x.off/\x.off+x.size<=e/\(∀y∈A,y.off+y.size<=x.off)/\∀y∈B,x.off+x.size<=y.off:=by
 have hx:=(aak _ _ _ ht).2 x (by simp);rw[aaF]at ht;obtain⟨t1,t2,t3,t4⟩:=ht;rw[<-t2]at t1 t4;exact⟨t1,t3,t4,by omega,by omega,by omega,fun y hy=>((aak _ _ _ t1).2 y hy).2.1,fun y hy=>((aak _ _ _ t4).2 y hy).1⟩
theorem Rt.cuts (h:Rt bs H) (hc:H.cap<=16384){A B:List Bk}{x:Bk}(hb:H.blks=A++x::B) (hu:x.used=true){s:Nat}(hs:aaG (s:Int)=true) (hle:s+32<=x.size):
 aek bs (x.off:Int) (s:Int) true=some (aaY bs ⟨x.off,s,true⟩)/\
 aek (aaY bs ⟨x.off,s,true⟩) ((x.off+s:Nat):Int) ((x.size-s:Nat):Int) true=some (aaY (aaY bs ⟨x.off,s,true⟩) ⟨x.off+s,x.size-s,true⟩)/\
 (aaY bs ⟨x.off,s,true⟩).length=bs.length/\(aaY (aaY bs ⟨x.off,s,true⟩) ⟨x.off+s,x.size-s,true⟩).length=bs.length/\
 (((H.use A.length true).size A.length s).put (A.length+1) ⟨x.off+s,x.size-s,true⟩).blks=(A++ [⟨x.off,s,true⟩])++⟨x.off+s,x.size-s,true⟩::B/\
 Rt (aaY (aaY bs ⟨x.off,s,true⟩) ⟨x.off+s,x.size-s,true⟩) (((H.use A.length true).size A.length s).put (A.length+1) ⟨x.off+s,x.size-s,true⟩)/\
 (∀z∈H.blks,z≠x->∀i,Pay z i->(aaY (aaY bs ⟨x.off,s,true⟩) ⟨x.off+s,x.size-s,true⟩)[i]?=bs[i]?)/\(∀i,Pay ⟨x.off,s,true⟩ i->(aaY (aaY bs ⟨x.off,s,true⟩) ⟨x.off+s,x.size-s,true⟩)[i]?=bs[i]?):=by
 have hM:=h.md hc;have hF:=h.complete;have hadj:afW true H.blks=true:=by rw[<-abf];exact h.nfree.2.1
 have ht:=hM.tl;rw[hb]at ht;obtain⟨t1,t2,t3,t4,t5,t6,tA,tB⟩:=agd ht;have sx:=(aab _).1 t2;have ss:=(aab _).1 hs;have hs2:aaG ((x.size-s:Nat):Int)=true:=(aab _).2 (by omega);obtain⟨y1,hy1⟩:∃y1:Bk,y1=⟨x.off,s,true⟩:=⟨_,rfl⟩;obtain⟨y2,hy2⟩:∃y2:Bk,y2=⟨x.off+s,x.size-s,true⟩:=⟨_,rfl⟩;have o1:y1.off=x.off:=by rw[hy1]
 have z1:y1.size=s:=by rw[hy1]
 have u1:y1.used=true:=by rw[hy1]
 have o2:y2.off=x.off+s:=by rw[hy2]
 have z2:y2.size=x.size-s:=by rw[hy2]
 have u2:y2.used=true:=by rw[hy2]
 have s1:aek bs (y1.off:Int) (y1.size:Int) y1.used=some (aaY bs y1):=aeL bs y1 (by omega) (by omega) (by omega) (by rw[z1];exact hs);have l1:(aaY bs y1).length=bs.length:=aba (by rw[z1];exact hs) (by omega);have s2:aek (aaY bs y1) (y2.off:Int) (y2.size:Int) y2.used=some (aaY (aaY bs y1) y2):=aeL _ y2 (by omega) (by omega) (by omega) (by rw[z2];exact hs2);have l2:(aaY (aaY bs y1) y2).length=bs.length:=(aba (by rw[z2];exact hs2) (by omega)).trans l1;rw[o1,z1,u1]at s1;rw[o2,z2,u2]at s2;rw[<-hy2,<-hy1];have hblk:(((H.use A.length true).size A.length s).put (A.length+1) y2).blks=(A++ [y1])++y2::B:=by
  have e:((H.use A.length true).size A.length s).blks=(A++ [y1])++B:=by
   rw[amR (agX hb true) s,hy1];simp
  show((H.use A.length true).size A.length s).blks.take (A.length+1)++y2::((H.use A.length true).size A.length s).blks.drop (A.length+1)=_;rw[e,List.take_left' (by simp),List.drop_left' (by simp)]
 have hL:∀c,c<22->∀o∈H.lists c,∃y,(y∈A\/y∈B)/\y∈H.blks/\y.off=o/\(y.off+y.size<=x.off\/x.off+x.size<=y.off):=fun c hc o ho=>by
  obtain⟨y,hy,ey,hyu,_⟩:=hM.ls.mem c hc o ho;have hy':=hy;rw[hb]at hy;rcases List.mem_append.1 hy with hy | hy
  · exact⟨y, .inl hy,hy',ey, .inl (tA y hy)⟩
  · rcases List.mem_cons.1 hy with rfl | hy
    · rw[hu]at hyu;cases hyu
    · exact⟨y, .inr hy,hy',ey, .inr (tB y hy)⟩
 have L1:Lists (aaY bs y1) (A++y1::B) H.lists:=by
  refine hM.ls.set (by omega) (by omega) (by omega) (by rw[z1];exact hs) (fun y hy=> ?_) fun c hc o ho=> ?_
  · rcases List.mem_append.1 hy with hy | hy
    · exact .inr ⟨by rw[hb];simp[hy], .inl (by have:=tA y hy;omega)⟩
    · rcases List.mem_cons.1 hy with rfl | hy
      · exact .inl rfl
      · exact .inr ⟨by rw[hb];simp[hy], .inr (by have:=tB y hy;omega)⟩
  · obtain⟨y,hy,hyP,ey,hd⟩:=hL c hc o ho;exact⟨y,by rcases hy with hy | hy<;>simp[hy],hyP,ey,by omega⟩
 have L2:Lists (aaY (aaY bs y1) y2) ((A++ [y1])++y2::B) H.lists:=by
  refine L1.set (by omega) (by omega) (by omega) (by rw[z2];exact hs2) (fun y hy=> ?_) fun c hc o ho=> ?_
  · rcases List.mem_append.1 hy with hy | hy
    · rcases List.mem_append.1 hy with hy | hy
      · exact .inr ⟨by simp[hy], .inl (by have:=tA y hy;omega)⟩
      · rw[List.mem_singleton]at hy;exact .inr ⟨by simp[hy], .inl (by rw[hy];omega)⟩
    · rcases List.mem_cons.1 hy with rfl | hy
      · exact .inl rfl
      · exact .inr ⟨by simp[hy], .inr (by have:=tB y hy;omega)⟩
  · obtain⟨y,hy,hyP,ey,hd⟩:=hL c hc o ho;exact⟨y,by rcases hy with hy | hy<;>simp[hy],by rcases hy with hy | hy<;>simp[hy],ey,by omega⟩
 refine⟨s1,s2,l1,l2,hblk,?_,fun z hz hzx i hi=> ?_,fun i hi=> ?_⟩
 · have M:Md (aaY (aaY bs y1) y2) (((H.use A.length true).size A.length s).put (A.length+1) y2):=by
    refine⟨?_,by rw[hblk];exact L2,?_,by rw[l2];exact hM.len⟩
    · rw[hblk,l2,List.append_assoc,aaF];rw[aaF]at ht;obtain⟨q1,q2,_⟩:=ht;refine⟨q1,by omega,by rw[z1];exact hs,by omega,by rw[z2];exact hs2,?_⟩;rw[<-q2,show x.off+y1.size+y2.size=x.off+x.size by omega];exact t3
    · rw[aaU (by rw[z2];exact hs2) (by omega) _ (by omega),aaU (by rw[z1];exact hs) (by omega) _ (by omega)];exact hM.hi
   refine M.rt (fun c hc o ho=> ?_) ?_
   · rw[hblk]at ho;obtain⟨y,hy,ey,hyu,hyc⟩:=abA ho;have hyP:y∈H.blks:=by
      rw[hb];rcases List.mem_append.1 hy with hy | hy
      · rcases List.mem_append.1 hy with hy | hy
        · simp[hy]
        · rw[List.mem_singleton]at hy;rw[hy,u1]at hyu;cases hyu
      · rcases List.mem_cons.1 hy with rfl | hy
        · rw[u2]at hyu;cases hyu
        · simp[hy]
     rw[<-ey];exact hF c hc _ (abe hyP hyu hyc)
   · rw[hblk,abf,abG,abG,aaL,aaL,agW,u1,u2];rw[hb,abG,aaL,hu]at hadj;simp only[Bool.and_eq_true,Bool.or_true]at hadj ⊢;exact⟨⟨hadj.1,trivial,rfl⟩,trivial,hadj.2.2⟩
 · obtain⟨i1,i2⟩:=hi;have hd:z.off+z.size<=x.off\/x.off+x.size<=z.off:=by
    rw[hb]at hz;rcases List.mem_append.1 hz with hz | hz
    · exact .inl (tA z hz)
    · rcases List.mem_cons.1 hz with hz | hz
      · exact absurd hz hzx
      · exact .inr (tB z hz)
   rw[acJ (by rw[z2];exact hs2) (by omega) i (by omega),acJ (by rw[z1];exact hs) (by omega) i (by omega)]
 · obtain⟨i1,i2⟩:=hi;rw[acJ (by rw[z2];exact hs2) (by omega) i (by omega),acJ (by rw[z1];exact hs) (by omega) i (by omega)]
theorem Rt.uses (h:Rt bs H) (hc:H.cap<=16384){A B:List Bk}{x:Bk}(hb:H.blks=A++x::B) (hu:x.used=false):
 ∃b1,aeB bs (x.off:Int)=some b1/\aek b1 (x.off:Int) (x.size:Int) true=some (aaY b1 ⟨x.off,x.size,true⟩)/\b1.length=bs.length/\(aaY b1 ⟨x.off,x.size,true⟩).length=bs.length/\
  ((H.out A.length).use A.length true).blks=A++⟨x.off,x.size,true⟩::B/\Rt (aaY b1 ⟨x.off,x.size,true⟩) ((H.out A.length).use A.length true)/\
  ∀z∈H.blks,z.used=true->∀i,Pay z i->(aaY b1 ⟨x.off,x.size,true⟩)[i]?=bs[i]?:=by
 have hM:=h.md hc;have hF:=h.complete;have hadj:afW true H.blks=true:=by rw[<-abf];exact h.nfree.2.1
 have ht:=hM.tl;rw[hb]at ht;obtain⟨t1,t2,t3,t4,t5,t6,tA,tB⟩:=agd ht;have sx:=(aab _).1 t2;have hxP:x∈H.blks:=by rw[hb];simp
 obtain⟨c1,c2⟩:=adg t2;obtain⟨b1,e1,L1,l1,k1,w1⟩:=hM.ls.takeO (some x) (fun y hy=>by
  injection hy with hy;subst hy;exact⟨hxP,hF _ c2 _ (abe hxP hu c1)⟩)
 obtain⟨y1,hy1⟩:∃y1:Bk,y1=⟨x.off,x.size,true⟩:=⟨_,rfl⟩;have o1:y1.off=x.off:=by rw[hy1]
 have z1:y1.size=x.size:=by rw[hy1]
 have u1:y1.used=true:=by rw[hy1]
 have s1:aek b1 (y1.off:Int) (y1.size:Int) y1.used=some (aaY b1 y1):=aeL b1 y1 (by omega) (by omega) (by omega) (by rw[z1];exact t2);have l2:(aaY b1 y1).length=b1.length:=aba (by rw[z1];exact t2) (by omega);rw[o1,z1,u1]at s1;rw[<-hy1];have hblk:((H.out A.length).use A.length true).blks=A++y1::B:=by
  rw[agX (H:=H.out A.length) (A:=A) (y:=x) (B:=B) hb true,hy1]
 have hlst:((H.out A.length).use A.length true).lists=tkL H.lists x:=agY hb;have hdA:∀y∈A++y1::B,y=y1\/(y∈H.blks/\(y.off+y.size<=y1.off\/y1.off+y1.size<=y.off)):=fun y hy=>by
  rcases List.mem_append.1 hy with hy | hy
  · exact .inr ⟨by rw[hb];simp[hy], .inl (by have:=tA y hy;omega)⟩
  · rcases List.mem_cons.1 hy with rfl | hy
    · exact .inl rfl
    · exact .inr ⟨by rw[hb];simp[hy], .inr (by have:=tB y hy;omega)⟩
 have L2:Lists (aaY b1 y1) (A++y1::B) (tkL H.lists x):=by
  refine L1.set (by omega) (by omega) (by omega) (by rw[z1];exact t2) hdA fun c hc o ho=> ?_;have ho:o∈tkL H.lists x c:=ho;rw[alN]at ho;obtain⟨y,hy,ey,hyu,hyc⟩:=hM.ls.mem c hc o ho.1;have hy':=hy;rw[hb]at hy;rcases List.mem_append.1 hy with hy | hy
  · exact⟨y,by simp[hy],hy',ey, .inl (by have:=tA y hy;omega)⟩
  · rcases List.mem_cons.1 hy with rfl | hy
    · exact absurd ey.symm (ho.2 (by omega))
    · exact⟨y,by simp[hy],hy',ey, .inr (by have:=tB y hy;omega)⟩
 refine⟨b1,e1,s1,l1,l2.trans l1,hblk,?_,fun z hz hzu i hi=> ?_⟩
 · have hi:=hM.hi;have M:Md (aaY b1 y1) ((H.out A.length).use A.length true):=by
    refine⟨?_,by rw[hblk,hlst];exact L2,?_,by rw[l2,l1];exact hM.len⟩
    · rw[hblk,l2,l1,aaF];rw[aaF]at ht;obtain⟨q1,q2,q3,q4⟩:=ht;refine⟨q1,by omega,by rw[z1];exact t2,?_⟩;rw[z1];exact q4
    · rw[aaU (by rw[z1];exact t2) (by omega) _ (by omega)];omega
   refine M.rt (fun c hc o ho=> ?_) ?_
   · rw[hblk]at ho;rw[hlst,alN];obtain⟨y,hy,ey,hyu,hyc⟩:=abA ho;rcases hdA y hy with rfl | ⟨hyP,hd⟩
     · rw[u1]at hyu;cases hyu
     · have:=hM.facts y hyP;exact⟨by rw[<-ey];exact hF c hc _ (abe hyP hyu hyc),fun _=>by omega⟩
   · rw[hblk,abf,abG,aaL,u1];rw[hb,abG,aaL,hu]at hadj;simp only[Bool.and_eq_true,Bool.or_true]at hadj ⊢;refine⟨hadj.1,trivial,?_⟩;have h2:=hadj.2.2
     cases B with
     | nil=>rfl
     | cons y r=>
      rw[aaL]at h2 ⊢;simp only[Bool.and_eq_true,Bool.or_eq_true,Bool.true_or,true_and]at h2 ⊢;exact h2.2
 · have hd:z.off+z.size<=x.off\/x.off+x.size<=z.off:=by
    rcases hM.ls.st.apart z hz x hxP with rfl | hd
    · rw[hu]at hzu;cases hzu
    · exact hd
   have k:=k1.pay hM.facts hM.ls.st.apart hz hzu hi;obtain⟨i1,i2⟩:=hi;rw[acJ (by rw[z1];exact t2) (by omega) i (by omega),k]
theorem Rt.adds (h:Rt bs H) (hc:H.cap<=16384){A:List Bk}{p:Option Bk}{o s n:Nat}(hb:H.blks=A++p.toList) (hp:∀y,p=some y->y.used=false) (ho:o=184+abd A) (hs:aaG (s:Int)=true) (hn:n+abd p.toList=s) (hcap:bs.length+n<=H.cap):
 ∃b1,ap7 (bs++List.replicate n 0) p=some b1/\aek b1 (o:Int) (s:Int) true=some (aaY b1 ⟨o,s,true⟩)/\b1.length=bs.length+n/\(aaY b1 ⟨o,s,true⟩).length=bs.length+n/\
  (∀H':Hp,H'.blks=A++ [⟨o,s,true⟩]->H'.lists=tkO H.lists p->H'.cap=H.cap->Rt (aaY b1 ⟨o,s,true⟩) H')/\
  ∀z∈H.blks,z.used=true->∀i,Pay z i->(aaY b1 ⟨o,s,true⟩)[i]?=bs[i]?:=by
 have hM:=h.md hc;have hF:=h.complete;have hadj:afW true H.blks=true:=by rw[<-abf];exact h.nfree.2.1
 have ht:=hM.tl;rw[hb,aaF,<-ho]at ht;obtain⟨t1,t2⟩:=ht;have hlen:bs.length=o+abd p.toList:=aeX _ _ _ t2;have ss:=(aab _).1 hs;have hA:=(aak _ _ _ t1).2;have hpf:∀y,p=some y->y∈H.blks/\y.off=o:=fun y hy=>by
  rw[hy]at t2;exact⟨by rw[hb,hy];simp,t2.1⟩
 have hlm:(bs++List.replicate n (0:UInt8)).length=bs.length+n:=by rw[List.length_append,List.length_replicate]
 have hl0:=hM.ls.len;obtain⟨b1,e1,L1,l1,k1,w1⟩:=(hM.ls.more n (by omega)).takeO p (fun y hy=>by
  have hyP:=(hpf y hy).1;obtain⟨c1,c2⟩:=adg (hM.ls.st.facts hyP).2.2.2.2.2;exact⟨hyP,hF _ c2 _ (abe hyP (hp y hy) c1)⟩)
 have o16:o%16=8:=by
  cases p with
  | none=>
   have e:aby 184 A o:=t1;rcases List.eq_nil_or_concat A with e1 | ⟨r,y,e1⟩
   · rw[e1]at ho;have:o=184:=ho;omega
   · rw[List.concat_eq_append]at e1;have hy:=(aak _ _ _ e).2 y (by rw[e1];simp);rw[e1,aaF]at e;obtain⟨_,q1,q2,q3⟩:=e;have q3:184+abd r+y.size=o:=q3;have:=(aab _).1 q2;omega
  | some y=>
   have:=hM.ls.st.facts (hpf y rfl).1;have:=(hpf y rfl).2;omega
 have o184:184<=o:=by omega
 obtain⟨y1,hy1⟩:∃y1:Bk,y1=⟨o,s,true⟩:=⟨_,rfl⟩;have o1:y1.off=o:=by rw[hy1]
 have z1:y1.size=s:=by rw[hy1]
 have u1:y1.used=true:=by rw[hy1]
 have hs1:aaG (y1.size:Int)=true:=by rw[z1];exact hs
 have hle:y1.off+y1.size<=b1.length:=by omega
 have s1:aek b1 (y1.off:Int) (y1.size:Int) y1.used=some (aaY b1 y1):=aeL b1 y1 (by omega) (by omega) hle hs1;have l2:(aaY b1 y1).length=b1.length:=aba hs1 hle;rw[o1,z1,u1]at s1;rw[<-hy1];have hdA:∀y∈A++ [y1],y=y1\/(y∈H.blks/\y∈A/\(y.off+y.size<=y1.off\/y1.off+y1.size<=y.off)):=fun y hy=>by
  rcases List.mem_append.1 hy with hy | hy
  · exact .inr ⟨by rw[hb];simp[hy],hy, .inl (by have:=hA y hy;omega)⟩
  · exact .inl (by simpa using hy)
 have L2:Lists (aaY b1 y1) (A++ [y1]) (tkO H.lists p):=by
  refine L1.set (by omega) (by omega) hle hs1 (fun y hy=>(hdA y hy).imp id fun h=>⟨h.1,h.2.2⟩) fun c hc q hq=> ?_;rw[adB]at hq;obtain⟨y,hy,ey,hyu,hyc⟩:=hM.ls.mem c hc q hq.1;have hy':=hy;rw[hb]at hy;rcases List.mem_append.1 hy with hy | hy
  · exact⟨y,by simp[hy],hy',ey, .inl (by have:=hA y hy;omega)⟩
  · obtain⟨c1,_⟩:=adg (hM.ls.st.facts hy').2.2.2.2.2;exact absurd ey.symm (hq.2 y (by simpa using hy) (by omega))
 refine⟨b1,e1,s1,by omega,by omega,fun H' g1 g2 g3=> ?_,fun z hz hzu i hi=> ?_⟩
 · have hi:=hM.hi;have hi2:aaf (bs++List.replicate n (0:UInt8)) 0=aaf bs 0:=ab9 _ _ _ (by omega);have M:Md (aaY b1 y1) H':=by
    refine⟨?_,by rw[g1,g2];exact L2,?_,by rw[g3];omega⟩
    · rw[g1,aaF,<-ho];exact⟨t1,o1,hs1,by show o+y1.size=_;omega⟩
    · rw[aaU hs1 hle _ (by omega)];omega
   refine M.rt (fun c hc q hq=> ?_) ?_
   · rw[g1]at hq;rw[g2,adB];obtain⟨y,hy,ey,hyu,hyc⟩:=abA hq;rcases hdA y hy with rfl | ⟨hyP,hyA,hd⟩
     · rw[u1]at hyu;cases hyu
     · have:=hM.facts y hyP;refine⟨by rw[<-ey];exact hF c hc _ (abe hyP hyu hyc),fun z hz _=> ?_⟩;have:=(hpf z hz).2;have:=hA y hyA;omega
   · rw[g1,abf,abG,aaL,u1];rw[hb,abG]at hadj;simp only[Bool.and_eq_true,Bool.or_true]at hadj ⊢;exact⟨hadj.1,trivial,rfl⟩
 · have hzf:=hM.facts z hz;have hzA:z∈A:=by
    rw[hb]at hz;rcases List.mem_append.1 hz with hz | hz
    · exact hz
    · have:=hp z (by simpa using hz);rw[hzu]at this;cases this
   have hd:=hA z hzA;have k:=k1.pay hM.facts hM.ls.st.apart hz hzu hi;obtain⟨i1,i2⟩:=hi;rw[acJ hs1 hle i (by omega),k,agc _ _ _ (by omega)]
theorem aia (hg:∀x∈H.blks,aa8 bs (x.off:Int)=some x) (s:Nat):∀L:List Nat,(∀o∈L,∃i,atB (o:Int) H.blks=some i)->L.find? (fun o=>decide ((s:Int)<=(szB bs o:Int)))=(afV H.blks s L).map fun i=>(aal H.blks i).off
 | [],_=>rfl
 | o::r,hL=>by
  obtain⟨i,hi⟩:=hL o (by simp);obtain⟨h1,h2⟩:=afJ hi;have h2:(aal H.blks i).off=o:=by omega
  have hz:szB bs o=(aal H.blks i).size:=by
   rw[<-h2];exact asX (hg _ (List.mem_of_getElem? (aat h1)))
  have ih:=aia hg s r fun q hq=>hL q (by simp[hq]);unfold afV;rw[hi];dsimp only;by_cases hle:s<=(aal H.blks i).size
  · rw[List.find?_cons_of_pos (by rw[hz];exact decide_eq_true (by omega)),if_pos hle,Option.map_some,h2]
  · rw[List.find?_cons_of_neg (by rw[hz];simp;omega),if_neg hle];exact ih
theorem Rt.findsC (h:Rt bs H) (s:Nat):∀k c,c+k=22->ahp bs (s:Int) k c=some (((H.findC s k c).map fun i=>(aal H.blks i).off).getD 0)
 | 0,_,_=>rfl
 | k+1,c,hc=>by
  unfold ahp Hp.findC;rw[h.all_ c (by omega)];dsimp only;rw[aia (aaj h.walk).2.2 s (H.lists c) (h.listed c (by omega))]
  cases afV H.blks s (H.lists c)with
  | none=>exact h.findsC s k (c+1) (by omega)
  | some i=>rfl
theorem Rt.finds (h:Rt bs H){s:Nat}(hs:aaG (s:Int)=true):aoT bs (s:Int)=some (((H.find s).map fun i=>(aal H.blks i).off).getD 0):=by
 unfold aoT Hp.find;refine h.findsC s _ _ ?_;obtain⟨c,h1,h2⟩:=abz (x:=⟨0,s,false⟩) hs;have h1:aaq (s:Int)=(c:Int):=h1;omega
end
section
variable {bs:List UInt8} {H:Hp}
theorem Rt.mid (h:Rt bs H) (hc:H.cap<=16384){A B:List Bk}{x:Bk}(hb:H.blks=A++x::B):(∀y∈A,32<=y.size/\y.off+y.size<=x.off)/\(∀y∈B,x.off+x.size<=y.off)/\aaG (x.size:Int)=true/\184<=x.off/\32<=x.size/\x.off+x.size<=bs.length:=by
 have hM:=h.md hc;have ht:=hM.tl;rw[hb]at ht;obtain⟨_,t2,_,_,t5,t6,tA,tB⟩:=agd ht;have hf:=hM.facts;have hx:=hf x (by rw[hb];simp);exact⟨fun y hy=>⟨(hf y (by rw[hb];simp[hy])).2,tA y hy⟩,tB,t2,t5,hx.2,t6⟩
theorem Rt.gave (h:Rt bs H) (hc:H.cap<=16384){A1 B1:List Bk}{p n:Option Bk}{x:Bk}(hb:H.blks=(A1++p.toList)++x::(n.toList++B1)) (hN:alK A1 p n B1){out:List UInt8}
 (hP:∀z∈H.blks,z.used=true->z≠x->∀i,Pay z i->out[i]?=bs[i]?):Held H bs (H.give (A1++p.toList).length) out:=by
 intro z hz hzu y hy hyu e i i1 i2 i3;obtain⟨tA,tB,_,_,t5,_⟩:=h.mid hc hb;obtain⟨gb,_⟩:=alM hb hN;by_cases hzx:z=x
 · exfalso;subst hzx;rw[gb]at hy;rcases List.mem_append.1 hy with hy | hy
   · have:=tA y (by simp[hy]);omega
   · rcases List.mem_cons.1 hy with rfl | hy
     · cases hyu
     · have:=tB y (by simp[hy]);omega
 · exact hP z hz hzu hzx i ⟨i1,i2⟩
theorem Rt.cutting (h:Rt bs H) (hc:H.cap<=16384){A B:List Bk}{xo xs:Nat}(hb:H.blks=A++⟨xo,xs,true⟩::B){s:Nat}(hs:aaG (s:Int)=true) (hle:s+32<=xs):
 ∃(b1 b2:List UInt8) (H1:Hp) (A1 B1:List Bk) (p n:Option Bk),aek bs (xo:Int) (s:Int) true=some b1/\aek b1 ((xo+s:Nat):Int) ((xs-s:Nat):Int) true=some b2/\b1.length=bs.length/\b2.length=bs.length/\
  H1.cap=H.cap/\Rt b2 H1/\H1.blks=(A1++p.toList)++⟨xo+s,xs-s,true⟩::(n.toList++B1)/\alK A1 p n B1/\H1.give (A1++p.toList).length=H.cut A.length s/\
  ∀out:List UInt8,(∀z∈H1.blks,z.used=true->z≠⟨xo+s,xs-s,true⟩->∀i,Pay z i->out[i]?=b2[i]?)->Held H bs (H.cut A.length s) out/\∀z∈H.blks,z.used=true->z.off≠xo->∀i,Pay z i->out[i]?=bs[i]?:=by
 obtain⟨s1,s2,l1,l2,hblk,hR1,P1,P2⟩:=h.cuts hc hb rfl hs hle;obtain⟨tA,tB,_,t4,t5,_⟩:=h.mid hc hb;dsimp only at s1 s2 l1 l2 hblk hR1 P1 P2 tA tB t4 t5;have q:=(aab _).1 hs;obtain⟨H1,hH1⟩:=nmE (((H.use A.length true).size A.length s).put (A.length+1) ⟨xo+s,xs-s,true⟩);rw[hH1]at hblk hR1;obtain⟨A1,p,n,B1,eA,eB,hN⟩:=alL (A++ [⟨xo,s,true⟩]) B;have hlen:(A1++p.toList).length=A.length+1:=by rw[<-eA];simp
 have hbx:aal H.blks A.length=⟨xo,xs,true⟩:=by rw[hb,aea]
 have hcut:H1.give (A1++p.toList).length=H.cut A.length s:=by
  unfold Hp.cut;rw[hbx];dsimp only;rw[if_neg (by omega),hH1,hlen]
 have hb1:H1.blks=(A1++p.toList)++⟨xo+s,xs-s,true⟩::(n.toList++B1):=by rw[hblk,eA,eB]
 refine⟨_,_,H1,A1,B1,p,n,s1,s2,l1,l2,by rw[<-hH1];rfl,hR1,hb1,hN,hcut,fun out hP=> ?_⟩;have hz:∀z∈H.blks,z.used=true->z.off≠xo->∀i,Pay z i->out[i]?=bs[i]?:=fun z hz hzu hzo i hi=>by
  have hne:z≠⟨xo,xs,true⟩:=fun e=>hzo (by rw[e]);rw[<-P1 z hz hne i hi];rw[hb]at hz;rcases List.mem_append.1 hz with hz | hz
  · have:=tA z hz;exact hP z (by rw[hblk];simp[hz]) hzu (fun e=>by rw[e]at this;dsimp only at this;omega) i hi
  · rcases List.mem_cons.1 hz with hz | hz
    · exact absurd hz hne
    · have:=tB z hz;exact hP z (by rw[hblk];simp[hz]) hzu (fun e=>by rw[e]at this;dsimp only at this;omega) i hi
 refine⟨fun z hzm hzu y hy hyu e i i1 i2 i3=> ?_,hz⟩;by_cases hzo:z.off=xo
 · rw[<-hcut]at hy;obtain⟨gb,_⟩:=alM hb1 hN;rw[gb]at hy;have hy1:y=⟨xo,s,true⟩:=by
    rcases List.mem_append.1 hy with hy | hy
    · have hy:y∈A++ [⟨xo,s,true⟩]:=by rw[eA];simp[hy]
      rcases List.mem_append.1 hy with hy | hy
      · have:=tA y hy;omega
      · simpa using hy
    · rcases List.mem_cons.1 hy with rfl | hy
      · cases hyu
      · have hy:y∈B:=by rw[eB];simp[hy]
        have:=tB y hy;omega
   subst hy1;dsimp only at i3 e;rw[<-P2 i ⟨by dsimp only;omega,i3⟩];exact hP ⟨xo,s,true⟩ (by rw[hblk];simp) rfl (fun e=>by injection e with e1 e2;omega) i ⟨by dsimp only;omega,i3⟩
 · exact hz z hzm hzu hzo i ⟨i1,i2⟩
theorem Rt.uncut (h:Rt bs H){A B:List Bk}{xo xs:Nat}(hb:H.blks=A++⟨xo,xs,true⟩::B){s:Nat}(hlt:xs<s+32):Rt bs (H.cut A.length s)/\Held H bs (H.cut A.length s) bs:=by
 have hbx:aal H.blks A.length=⟨xo,xs,true⟩:=by rw[hb,aea]
 have hcut:H.cut A.length s=H.use A.length true:=by
  unfold Hp.cut;rw[hbx];dsimp only;rw[if_pos (by omega)]
 refine⟨?_,fun _ _ _ _ _ _ _ _ _ _ _=>rfl⟩;rw[hcut];refine h.congr ?_ rfl rfl;rw[agX hb true,hb]
end
theorem atU{H:Hp}{i:Nat}(hi:i<H.blks.length):(H.use i true).use i true=H.use i true:=by
 have e:aal (H.use i true).blks i={aal H.blks i with used:=true}:=by
  show aal (H.blks.set i _) i=_;rw[acH _ _ _ _ hi,if_pos rfl]
 unfold Hp.use at e ⊢;dsimp only at e ⊢;rw[e,List.set_set]
theorem atV{H:Hp}{i s:Nat}(hi:i<H.blks.length):(H.use i true).cut i s=H.cut i s:=by
 have e:aal (H.use i true).blks i={aal H.blks i with used:=true}:=by
  show aal (H.blks.set i _) i=_;rw[acH _ _ _ _ hi,if_pos rfl]
 unfold Hp.cut;rw[e,atU hi]
theorem anX (r:List Bk) (y:Bk):acq (r++ [y])=if y.used=true then 0 else y.size:=by
 have e:aal (r++ [y]) ((r++ [y]).length-1)=y:=by
  rw[show(r++ [y]).length-1=r.length by simp];exact aea r y []
 unfold acq;rw[if_neg (by simp),e]
section
variable {bs:List UInt8} {H:Hp}
theorem Rt.tail (h:Rt bs H) (hc:H.cap<=16384):∃A p,H.blks=A++p.toList/\(∀y,p=some y->y.used=false)/\frO (abK bs (bs.length:Int))=p/\acq H.blks=abd p.toList:=by
 have hM:=h.md hc;have hb:H.blks=H.blks++ []:=by simp
 rcases hM.ends hb (o:=bs.length) h.lenE.symm with⟨e1,e2⟩ | ⟨r,y,e1,e2⟩
 · refine⟨[],none,e1,fun y hy=>(by cases hy),?_,?_⟩
   · rw[e2];rfl
   · rw[e1];rfl
 · have e3:=anX r y
   cases hu:y.used with
   | true=>
    rw[hu,if_pos rfl]at e3;refine⟨H.blks,none,by simp,fun y hy=>(by cases hy),?_,by rw[e1,e3];rfl⟩;rw[e2];show(if y.used=true then none else some y)=none;rw[hu,if_pos rfl]
   | false=>
    rw[hu,if_neg (by simp)]at e3;refine⟨r,some y,e1,?_,?_,by rw[e1,e3];simp[abd]⟩
    · intro z hz
      cases hz;exact hu
    rw[e2];show(if y.used=true then none else some y)=some y;rw[hu,if_neg (by simp)]
theorem asd{s i:Nat}(hf:H.find s=some i):H.take s=(some (aal H.blks i).off,(H.out i).cut i s):=by
 unfold Hp.take;rw[hf]
theorem ap8{s:Nat}(hf:H.find s=none) (hcap:H.cap<lenB H.blks+s-acq H.blks):H.take s=(none,H):=by
 unfold Hp.take;rw[hf];dsimp only;rw[if_pos hcap]
theorem ase{s:Nat}(hf:H.find s=none) (hcap:¬H.cap<lenB H.blks+s-acq H.blks){A:List Bk}{p:Option Bk}(hb:H.blks=A++p.toList) (ht:acq H.blks=abd p.toList)
 (hp:∀y,p=some y->y.off=184+abd A/\0<y.size):∃H',H.take s=(some (184+abd A),H')/\H'.blks=A++ [⟨184+abd A,s,true⟩]/\H'.lists=tkO H.lists p/\H'.cap=H.cap:=by
 refine⟨(H.take s).2,?_,?_,?_,?_⟩
 · have:(H.take s).1=some (184+abd A):=by
    unfold Hp.take;rw[hf];dsimp only;rw[if_neg hcap]
    cases p with
    | none=>
     have e:acq H.blks=0:=ht;rw[e,if_neg (by omega)];rw[hb];simp[lenB]
    | some y=>
     have e:acq H.blks=y.size:=by rw[ht];simp[abd]
     obtain⟨h1,h2⟩:=hp y rfl;rw[e,if_pos h2];have e2:H.blks.length-1=A.length:=by rw[hb];simp
     rw[e2,hb];show some (aal (A++y:: []) A.length).off=_;rw[aea,h1]
   rw[<-this]
 · unfold Hp.take;rw[hf];dsimp only;rw[if_neg hcap]
   cases p with
   | none=>
    have e:acq H.blks=0:=ht;rw[e,if_neg (by omega)];have hb':H.blks=A:=by rw[hb];simp
    show H.blks.take H.blks.length++_::H.blks.drop H.blks.length=_;rw[List.take_length,List.drop_length,hb'];rfl
   | some y=>
    have e:acq H.blks=y.size:=by rw[ht];simp[abd]
    obtain⟨h1,h2⟩:=hp y rfl;rw[e,if_pos h2];have e2:H.blks.length-1=A.length:=by rw[hb];simp
    rw[e2];have hb2:(H.out A.length).blks=A++y:: []:=hb;have:=agX (amR hb2 s) true;show(((H.out A.length).size A.length s).use A.length true).blks=_;rw[this,<-h1]
 · unfold Hp.take;rw[hf];dsimp only;rw[if_neg hcap]
   cases p with
   | none=>
    have e:acq H.blks=0:=ht;rw[e,if_neg (by omega)];rfl
   | some y=>
    have e:acq H.blks=y.size:=by rw[ht];simp[abd]
    obtain⟨h1,h2⟩:=hp y rfl;rw[e,if_pos h2];have e2:H.blks.length-1=A.length:=by rw[hb];simp
    rw[e2];show(H.out A.length).lists=_;rw[agY hb];rfl
 · exact take_cap
theorem Rt.usedHeld (h:Rt bs H) (hc:H.cap<=16384){A B:List Bk}{xo xs:Nat}(hb:H.blks=A++⟨xo,xs,false⟩::B){b2 out:List UInt8}{H2 H3:Hp}(hb2:H2.blks=A++⟨xo,xs,true⟩::B)
 (h1:∀z∈H.blks,z.used=true->∀i,Pay z i->b2[i]?=bs[i]?) (h2:∀z∈H2.blks,z.used=true->z.off≠xo->∀i,Pay z i->out[i]?=b2[i]?):Held H bs H3 out:=by
 intro z hz hzu y _ _ _ i i1 i2 _;have hp:Pay z i:=⟨i1,i2⟩;obtain⟨tA,tB,_,t4,t5,_⟩:=h.mid hc hb;dsimp only at tA tB t4 t5;rw[<-h1 z hz hzu i hp];rw[hb]at hz;rcases List.mem_append.1 hz with hz | hz
 · have:=tA z hz;exact h2 z (by rw[hb2];simp[hz]) hzu (by omega) i hp
 · rcases List.mem_cons.1 hz with hz | hz
   · rw[hz]at hzu;cases hzu
   · have:=tB z hz;exact h2 z (by rw[hb2];simp[hz]) hzu (by omega) i hp
end
theorem ap9{l:List Bk}(h:afW false l=true):afW true l=true:=by
 cases l with
 | nil=>rfl
 | cons y r=>
  rw[aaL,Bool.false_or,Bool.and_eq_true]at h;rw[aaL,Bool.true_or,Bool.true_and];exact h.2
section
variable {bs:List UInt8} {H:Hp}
theorem aje{A B1:List Bk}{n:Option Bk}{xo xs:Nat}(hb:H.blks=A++⟨xo,xs,true⟩::(n.toList++B1)) (hf:∀y,n=some y->y.used=false) (hu:n=none->∀y r,B1=y::r->y.used=true):
 (H.widen A.length).blks=A++⟨xo,xs+(n.map Bk.size).getD 0,true⟩::B1/\(H.widen A.length).lists=tkO H.lists n/\ahu H.blks A.length=xs+(n.map Bk.size).getD 0/\acG H.blks A.length=n.isSome:=by
 have hbk:aal H.blks A.length=⟨xo,xs,true⟩:=by rw[hb,aea]
 have hi:A.length<H.blks.length:=by rw[hb];simp
 cases n with
 | none=>
  have hn:acG H.blks A.length=false:=by
   rw[hb,agZ]
   cases B1 with
   | nil=>rfl
   | cons y r=>
    show(!y.used)=false;rw[hu rfl y r rfl];rfl
  have e:=alF hn;rw[hbk]at e;refine⟨?_,?_,e,by rw[hn];rfl⟩
  · rw[(aeo hn hi).1,hb];rfl
  · unfold Hp.widen;rw[ah4 hn];rfl
 | some m=>
  have hm:=hf m rfl;have hn:acG H.blks A.length=true:=by
   rw[hb,agZ];show(!m.used)=true;rw[hm];rfl
  have e:=ai4 hn;have hbk1:aal H.blks (A.length+1)=m:=by rw[hb];exact alJ A _ m B1
  rw[hbk,hbk1]at e;refine⟨?_,?_,e,by rw[hn];rfl⟩
  · rw[(aen hn).1];exact ajd (H:=H.out (A.length+1)) (y:=⟨xo,xs,true⟩) (z:=m) hb
  · have hb':H.blks=(A++ [⟨xo,xs,true⟩])++m::B1:=by rw[hb];simp
    have:=agY hb';rw[List.length_append,List.length_singleton]at this;unfold Hp.widen;rw[agT hn];exact this
theorem Rt.wide (h:Rt bs H) (hc:H.cap<=16384){A B1:List Bk}{n:Option Bk}{xo xs n0 t:Nat}(hb:H.blks=A++⟨xo,xs,true⟩::(n.toList++B1)) (hf:∀y,n=some y->y.used=false)
 (ht:t=xs+(n.map Bk.size).getD 0+n0) (hend:n0=0\/B1= []) (hs:aaG (t:Int)=true) (hcap:bs.length+n0<=H.cap):
 ∃b1,ap7 (bs++List.replicate n0 0) n=some b1/\aek b1 (xo:Int) (t:Int) true=some (aaY b1 ⟨xo,t,true⟩)/\b1.length=bs.length+n0/\(aaY b1 ⟨xo,t,true⟩).length=bs.length+n0/\
  (∀H':Hp,H'.blks=A++⟨xo,t,true⟩::B1->H'.lists=tkO H.lists n->H'.cap=H.cap->Rt (aaY b1 ⟨xo,t,true⟩) H')/\
  (∀z∈H.blks,z.used=true->z.off≠xo->∀i,Pay z i->(aaY b1 ⟨xo,t,true⟩)[i]?=bs[i]?)/\∀i,Pay ⟨xo,xs,true⟩ i->(aaY b1 ⟨xo,t,true⟩)[i]?=bs[i]?:=by
 have hM:=h.md hc;have hF:=h.complete;have hadj:afW true H.blks=true:=by rw[<-abf];exact h.nfree.2.1
 have htl:=hM.tl;rw[hb]at htl;obtain⟨t1,t2,t3,t4,t5,t6,tA,tB⟩:=agd htl;dsimp only at t1 t2 t3 t4 t5 t6 tA tB;rw[aaF]at t3;obtain⟨t7,t8⟩:=t3;have hl0:=hM.ls.len;have ss:=(aab _).1 hs;have sx:=(aab _).1 t2;have hnz:(n.map Bk.size).getD 0=abd n.toList:=by cases n<;>simp[abd]
 have hB1:=(aak _ _ _ t8).2;have hle8:=(aak _ _ _ t8).1;have hlm:(bs++List.replicate n0 (0:UInt8)).length=bs.length+n0:=by rw[List.length_append,List.length_replicate]
 have hnm:∀y,n=some y->y∈H.blks/\xo+xs<=y.off/\y.off+y.size<=xo+xs+abd n.toList:=fun y hy=>by
  rw[hy]at t7;obtain⟨a,_,_⟩:=t7;refine⟨by rw[hb,hy];simp,by omega,?_⟩;rw[hy];simp[abd];omega
 obtain⟨b1,e1,L1,l1,k1,w1⟩:=(hM.ls.more n0 (by omega)).takeO n (fun y hy=>by
  have hyP:=(hnm y hy).1;obtain⟨c1,c2⟩:=adg (hM.ls.st.facts hyP).2.2.2.2.2;exact⟨hyP,hF _ c2 _ (abe hyP (hf y hy) c1)⟩)
 obtain⟨y1,hy1⟩:∃y1:Bk,y1=⟨xo,t,true⟩:=⟨_,rfl⟩;have o1:y1.off=xo:=by rw[hy1]
 have z1:y1.size=t:=by rw[hy1]
 have u1:y1.used=true:=by rw[hy1]
 have hs1:aaG (y1.size:Int)=true:=by rw[z1];exact hs
 have hendl:xo+xs+abd n.toList<=bs.length/\(n0=0\/xo+xs+abd n.toList=bs.length):=by
  refine⟨hle8,hend.imp id fun e=> ?_⟩;rw[e]at t8;exact t8
 have hle:y1.off+y1.size<=b1.length:=by omega
 have s1:aek b1 (y1.off:Int) (y1.size:Int) y1.used=some (aaY b1 y1):=aeL b1 y1 (by omega) (by omega) hle hs1;have l2:(aaY b1 y1).length=b1.length:=aba hs1 hle;rw[o1,z1,u1]at s1;rw[<-hy1];have inB:∀y∈B1,y1.off+y1.size<=y.off:=fun y hy=>by
  rcases hend with e | e
  · have:=(hB1 y hy).1;omega
  · rw[e]at hy;cases hy
 have hdA:∀y∈A++y1::B1,y=y1\/(y∈H.blks/\(y.off+y.size<=y1.off\/y1.off+y1.size<=y.off)):=fun y hy=>by
  rcases List.mem_append.1 hy with hy | hy
  · exact .inr ⟨by rw[hb];simp[hy], .inl (by have:=tA y hy;omega)⟩
  · rcases List.mem_cons.1 hy with rfl | hy
    · exact .inl rfl
    · exact .inr ⟨by rw[hb];simp[hy], .inr (inB y hy)⟩
 have L2:Lists (aaY b1 y1) (A++y1::B1) (tkO H.lists n):=by
  refine L1.set (by omega) (by omega) hle hs1 hdA fun c hc q hq=> ?_;rw[adB]at hq;obtain⟨y,hy,ey,hyu,hyc⟩:=hM.ls.mem c hc q hq.1;have hy':=hy;rw[hb]at hy;rcases List.mem_append.1 hy with hy | hy
  · exact⟨y,by simp[hy],hy',ey, .inl (by have:=tA y hy;omega)⟩
  · rcases List.mem_cons.1 hy with rfl | hy
    · cases hyu
    · rcases List.mem_append.1 hy with hy | hy
      · obtain⟨c1,_⟩:=adg (hM.ls.st.facts hy').2.2.2.2.2;exact absurd ey.symm (hq.2 y (by simpa using hy) (by omega))
      · exact⟨y,by simp[hy],hy',ey, .inr (inB y hy)⟩
 refine⟨b1,e1,s1,by omega,by omega,fun H' g1 g2 g3=> ?_,fun z hz hzu hzo i hi=> ?_,fun i hi=> ?_⟩
 · have hi:=hM.hi;have hi2:aaf (bs++List.replicate n0 (0:UInt8)) 0=aaf bs 0:=ab9 _ _ _ (by omega);have M:Md (aaY b1 y1) H':=by
    refine⟨?_,by rw[g1,g2];exact L2,?_,by rw[g3];omega⟩
    · rw[g1,aaF];have q0:xo=184+abd A:=aeX _ _ _ t1;rw[<-q0];refine⟨t1,o1,hs1,?_⟩;rw[l2,l1,hlm,z1];rcases hend with e | e
      · rw[show xo+t=xo+xs+abd n.toList by omega,show bs.length+n0=bs.length by omega];exact t8
      · rw[e];show xo+t=bs.length+n0;have:=hendl.2;rw[e]at t8;have t8:xo+xs+abd n.toList=bs.length:=t8;omega
    · rw[aaU hs1 hle _ (by omega)];omega
   refine M.rt (fun c hc q hq=> ?_) ?_
   · rw[g1]at hq;rw[g2,adB];obtain⟨y,hy,ey,hyu,hyc⟩:=abA hq;rcases hdA y hy with rfl | ⟨hyP,hd⟩
     · rw[u1]at hyu;cases hyu
     · have:=hM.facts y hyP;refine⟨by rw[<-ey];exact hF c hc _ (abe hyP hyu hyc),fun z hz _=> ?_⟩;have:=hnm z hz;have:=hM.facts z (hnm z hz).1;omega
   · rw[g1,abf,abG,aaL,u1];rw[hb,abG,aaL]at hadj;simp only[Bool.and_eq_true,Bool.or_true]at hadj ⊢;refine⟨hadj.1,trivial,?_⟩;have h2:=hadj.2.2
     cases n with
     | none=>exact h2
     | some m=>
      have hm:=hf m rfl;have h2:afW true (m::B1)=true:=h2;rw[aaL,hm,Bool.and_eq_true]at h2;exact ap9 h2.2
 · have hd:z.off+z.size<=y1.off\/y1.off+y1.size<=z.off:=by
    rw[hb]at hz;rcases List.mem_append.1 hz with hz | hz
    · exact .inl (by have:=tA z hz;omega)
    · rcases List.mem_cons.1 hz with rfl | hz
      · exact absurd rfl hzo
      · rcases List.mem_append.1 hz with hz | hz
        · have:=hf z (by simpa using hz);rw[hzu]at this;cases this
        · exact .inr (inB z hz)
   have hzf:=hM.ls.st.facts hz;have k:=k1.pay hM.facts hM.ls.st.apart hz hzu hi;obtain⟨i1,i2⟩:=hi;rw[acJ hs1 hle i (by omega),k,agc _ _ _ (by omega)]
 · have hxP:(⟨xo,xs,true⟩:Bk)∈H.blks:=by rw[hb];simp
   have k:=k1.pay hM.facts hM.ls.st.apart hxP rfl hi;obtain⟨i1,i2⟩:=hi;dsimp only at i1 i2;have hzf:=hM.ls.st.facts hxP;dsimp only at hzf;rw[acJ hs1 hle i (by omega),k,agc _ _ _ (by omega)]
end
open Go.RowKit
inductive QT where
 | fin:QT
 | one:Nat->QT->QT
 | two:Nat->QT->Nat->QT->QT
 | three:Nat->QT->Nat->QT->Nat->QT->QT
section
variable {P:Program} {ops:Array Oper} {Q:Exit->Act->World->Prop} {T:List Nat}
def alO (T:List Nat):QT->Nat
 | .fin=>T.length
 | .one _ q=>1+alO T q
 | .two _ q _ _=>1+alO T q
 | .three _ q _ _ _ _=>1+alO T q
def ag0 (ops:Array Oper) (T:List Nat):Array Bool->QT->Bool
 | l, .fin=>atq ops l T
 | l, .one i q=>Region.ready .any ops l== [i]&&(!mv ops i&&ag0 ops T (l.setIfInBounds i true) q)
 | l, .two i q j r=>Region.ready .any ops l== [i,j]&&(!mv ops i&&(!mv ops j&&(alO T q==alO T r&&(ag0 ops T (l.setIfInBounds i true) q&&ag0 ops T (l.setIfInBounds j true) r))))
 | l, .three i q j r k s=>Region.ready .any ops l== [i,j,k]&&(!mv ops i&&(!mv ops j&&(!mv ops k&&(alO T q==alO T r&&(alO T q==alO T s&&(ag0 ops T (l.setIfInBounds i true) q&&(ag0 ops T (l.setIfInBounds j true) r&&ag0 ops T (l.setIfInBounds k true) s)))))))
def wpQ (P:Program) (ops:Array Oper) (Q:Exit->Act->World->Prop) (T:List Nat) (B:Nat):QT->Act->World->Prop
 | .fin,a,w=>wpList P ops Q (pick ops T) a w
 | .one i q,a,w=>wpOp P ops Q i (fun a' w'=>Below B w w'/\wpQ P ops Q T B q a' w') a w
 | .two i q j r,a,w=>wpOp P ops Q i (fun a' w'=>Below B w w'/\wpQ P ops Q T B q a' w') a w/\wpOp P ops Q j (fun a' w'=>Below B w w'/\wpQ P ops Q T B r a' w') a w
 | .three i q j r k s,a,w=>wpOp P ops Q i (fun a' w'=>Below B w w'/\wpQ P ops Q T B q a' w') a w/\wpOp P ops Q j (fun a' w'=>Below B w w'/\wpQ P ops Q T B r a' w') a w/\wpOp P ops Q k (fun a' w'=>Below B w w'/\wpQ P ops Q T B s a' w') a w
theorem aib{B n i:Nat}{q:QT}{l:Array Bool}{a:Act}{w:World}(hm:mv ops i=false)
 (ih:∀a w,wpQ P ops Q T B q a w->abU P ops Q (Below B w) T n (l.setIfInBounds i true) a w)
 (h:wpOp P ops Q i (fun a' w'=>Below B w w'/\wpQ P ops Q T B q a' w') a w):
 wpOp P ops Q i (fun a' w'=>(i∉T->mv ops i=false->Below B w w')/\(mv ops i=true->w'=w)/\abU P ops Q (Below B w) T n (l.setIfInBounds i true) a' w') a w:=
 wpOp_mono (fun a' w' hh=>by
  refine⟨fun _ _=>hh.1,fun e=> ?_,aa9 (fun w3 h4=>hh.1.trans h4) _ _ _ _ (ih a' w' hh.2)⟩;rw[hm]at e
  cases e) h
theorem acU (B:Nat):∀(q:QT) (l:Array Bool) (a:Act) (w:World),ag0 ops T l q=true->wpQ P ops Q T B q a w->abU P ops Q (Below B w) T (alO T q) l a w
 | .fin,l,a,w,hc,h=>aeS (fun _ h=>h) T l a w (fun _ h=>h) hc h
 | .one i q,l,a,w,hc,h=>by
  simp only[ag0,Bool.and_eq_true,beq_iff_eq,Bool.not_eq_true']at hc;obtain⟨h1,m1,c1⟩:=hc;have k:=aib m1 (fun a w=>acU B q _ a w c1) h;show abU P ops Q (Below B w) T (1+alO T q) l a w;rw[Nat.add_comm];refine⟨fun h0=>(by rw[h1]at h0;cases h0),fun j hj=> ?_⟩;rw[h1]at hj;obtain rfl:j=i:=by simpa using hj
  exact k
 | .two i q j r,l,a,w,hc,h=>by
  simp only[ag0,Bool.and_eq_true,beq_iff_eq,Bool.not_eq_true']at hc;obtain⟨h1,m1,m2,e2,c1,c2⟩:=hc;have k1:=aib m1 (fun a w=>acU B q _ a w c1) h.1;have k2:=aib m2 (fun a w=>acU B r _ a w c2) h.2;rw[<-e2]at k2;show abU P ops Q (Below B w) T (1+alO T q) l a w;rw[Nat.add_comm];refine⟨fun h0=>(by rw[h1]at h0;cases h0),fun j' hj=> ?_⟩;rw[h1]at hj;rcases List.mem_cons.1 hj with rfl | hj
  · exact k1
  · obtain rfl:j'=j:=by simpa using hj
    exact k2
 | .three i q j r k s,l,a,w,hc,h=>by
  simp only[ag0,Bool.and_eq_true,beq_iff_eq,Bool.not_eq_true']at hc;obtain⟨h1,m1,m2,m3,e2,e3,c1,c2,c3⟩:=hc;have k1:=aib m1 (fun a w=>acU B q _ a w c1) h.1;have k2:=aib m2 (fun a w=>acU B r _ a w c2) h.2.1;have k3:=aib m3 (fun a w=>acU B s _ a w c3) h.2.2;rw[<-e2]at k2;rw[<-e3]at k3;show abU P ops Q (Below B w) T (1+alO T q) l a w;rw[Nat.add_comm];refine⟨fun h0=>(by rw[h1]at h0;cases h0),fun j' hj=> ?_⟩;rw[h1]at hj;rcases List.mem_cons.1 hj with rfl | hj
  · exact k1
  · rcases List.mem_cons.1 hj with rfl | hj
    · exact k2
    · obtain rfl:j'=k:=by simpa using hj
      exact k3
theorem alP{id:Nat}{a:Act}{w:World}(B:Nat) (rs:List Nat) (q:QT) (T:List Nat) (hm:P.follows .mixedOrders=true) (hsel:Region.noSelect ops=true)
 (hc:(aor ops T (Array.replicate ops.size false) rs&&(ag0 ops T (ajz (Array.replicate ops.size false) rs) q&&alO T q+rs.length==ops.size))=true)
 (hQ:∀c a t v w,Q (.panic c) (Act.put a (some t) v) w->Q (.panic c) a w)
 (h:wpQuiet P ops (acd B w.drew) (fun a'=>wpQ P ops Q T B q a' w.drew) (pick ops rs) a):(Code.region id ops true).wp P Q a w:=by
 simp only[Bool.and_eq_true,beq_iff_eq]at hc;obtain⟨h1,h2,h3⟩:=hc;have hs:=acX (T:=T) hsel hQ B w.drew _ (alO T q) rs _ a h1 h (fun a' ha=>acU B q _ a' _ h2 ha);rw[h3]at hs;exact wp_region_any hm (ac5 _ _ _ _ hs)
theorem au6{B:Nat}{rs:List Nat}{q:QT}{a:Act}{w:World}{l:List Oper}(hl:pick ops rs=l) (h:wpQuiet P ops (acd B w) (fun a'=>wpQ P ops Q T B q a' w) l a):wpQuiet P ops (acd B w) (fun a'=>wpQ P ops Q T B q a' w) (pick ops rs) a:=by
 subst hl;exact h
theorem av0{B:Nat}{a:Act}{w:World}{t:List Oper}(ht:pick ops T=t) (h:wpList P ops Q t a w):wpQ P ops Q T B .fin a w:=by
 subst ht;exact h
end
def Ag (S:List Nat) (a0 a:Act):Prop:=∀s∈S,a.tmps.getD s undef=a0.tmps.getD s undef
theorem Ag.refl (S:List Nat) (a:Act):Ag S a a:=fun _ _=>rfl
theorem Ag.put{S:List Nat}{a0 a:Act}(h:Ag S a0 a){d:Nat}(hd:d∉S) (v:Value):Ag S a0 (a.put (some d) v):=fun s hs=>by
 have hne:d≠s:=fun e=>hd (e▸hs);rw[<-h s hs];simp[Act.put,Array.getElem?_setIfInBounds_ne hne]
theorem aec{x y:Nat}(h:x≠y):∀d:Tmp,(some x:Option Tmp)=some d->(some y:Option Tmp)≠some d:=fun _ e k=>h (Option.some.inj (e.trans k.symm))
def adl (p:Nat):Value:= .pointer (some ⟨p,0,none⟩)
section
variable {P:Program} {ops:Array Oper} {Q:Exit->Act->World->Prop}
def Stp (P:Program) (ops:Array Oper) (Q:Exit->Act->World->Prop) (B:Nat) (w0:World) (S:List Nat) (a0:Act) (i d:Nat) (v:Value):Prop:=
 ∀(a:Act) (w:World) (K:Act->World->Prop),Ag S a0 a->Below B w0 w->(∀w',Below w.heap.size w w'->K (a.put (some d) v) w')->wpOp P ops Q i K a w
def Sta (P:Program) (ops:Array Oper) (Q:Exit->Act->World->Prop) (j e:Nat) (cs:Array Value) (ty:TypeId):Prop:=
 ∀(a:Act) (w:World) (K:Act->World->Prop),K (a.put (some e) (adl w.heap.size)) (w.alloc (.cells cs ty))->wpOp P ops Q j K a w
theorem amS{B i d:Nat}{w0:World}{S:List Nat}{a0:Act}{v:Value}{f:FuncId}{args:Array Operand}{tys:Array TypeId}{ty:TypeId}{pos:String}{after:Array Edge}
 (hf:∀(xs:Array Value) (w:World),(callFunc f xs).run P w= .ok (.enter f xs) w)
 (ho:ops[i]?=some {dst:=some d,op:= .call {callee:= .value (.func f),args:=args,argTypes:=tys},type:=ty,pos:=pos,after:=after,guard:=none})
 {vs:Array Value} (hvl:∀a,Ag S a0 a->args.toList.map a.eval=vs.toList)
 (hc:∀w,Below B w0 w->Calls P f vs w (fun e w'=>e= .returned v/\Below w.heap.size w w')):Stp P ops Q B w0 S a0 i d v:=by
 intro a w K ha hb hk;have hw:Region.wanted {dst:=some d,op:= .call {callee:= .value (.func f),args:=args,argTypes:=tys},type:=ty,pos:=pos,after:=after,guard:=none} (yielded ops a.tmps)=true:=rfl;unfold wpOp;simp only[ho];rw[if_pos hw];refine .inl ?_;have hvs:args.map a.eval=vs:=Array.ext' (by simpa using hvl a ha);subst hvs;unfold Oper.wp;rw[execOp_call_go,hf];simp only[Oper.upon,Array.empty_append,Array.append_empty];refine(hc w hb).mono fun e w' hh=> ?_;obtain⟨rfl,h1⟩:=hh;exact hk w' h1
theorem akq{j e:Nat}{o:Oper}{cs:Array Value}{ty:TypeId}(ho:ops[j]?=some o) (hd:o.dst=some e) (hw:∀xs,Region.wanted o xs=true)
 (hr:∀(ρ:Operand->Value) (w:World),(execOp ρ o).run P w= .ok (.value (.pointer (some ⟨w.heap.size,0,none⟩))) (w.alloc (.cells cs ty))):Sta P ops Q j e cs ty:=by
 intro a w K hk;unfold wpOp;simp only[ho];rw[if_pos (hw _)];refine .inl ?_;unfold Oper.wp;rw[hr];show K (a.put o.dst _) _;rw[hd];exact hk
end
def asf (_ _ _ _:Nat):QT:= .fin
def asg (i1 i2 j1 j2:Nat):QT:= .one i2 (asf i1 i2 j1 j2)
def atW (i1 i2 j1 j2:Nat):QT:= .one j1 (asf i1 i2 j1 j2)
def atX (i1 i2 j1 j2:Nat):QT:= .one j2 (asf i1 i2 j1 j2)
def atY (i1 i2 j1 j2:Nat):QT:= .one i1 (asg i1 i2 j1 j2)
def atZ (i1 i2 j1 j2:Nat):QT:= .two i2 (atW i1 i2 j1 j2) j1 (asg i1 i2 j1 j2)
def at0 (i1 i2 j1 j2:Nat):QT:= .two i2 (atX i1 i2 j1 j2) j2 (asg i1 i2 j1 j2)
def au7 (i1 i2 j1 j2:Nat):QT:= .two j1 (atX i1 i2 j1 j2) j2 (atW i1 i2 j1 j2)
def au8 (i1 i2 j1 j2:Nat):QT:= .two i1 (atZ i1 i2 j1 j2) j1 (atY i1 i2 j1 j2)
def au9 (i1 i2 j1 j2:Nat):QT:= .two i1 (at0 i1 i2 j1 j2) j2 (atY i1 i2 j1 j2)
def ava (i1 i2 j1 j2:Nat):QT:= .three i2 (au7 i1 i2 j1 j2) j1 (at0 i1 i2 j1 j2) j2 (atZ i1 i2 j1 j2)
def avb (i1 i2 j1 j2:Nat):QT:= .three i1 (ava i1 i2 j1 j2) j1 (au9 i1 i2 j1 j2) j2 (au8 i1 i2 j1 j2)
def avc (i1 i2 j1 j2:Nat):QT:=avb i1 i2 j1 j2
section
variable {P:Program} {ops:Array Oper} {Q:Exit->Act->World->Prop} {T:List Nat} {B i1 i2 j1 j2 d1 d2 e1 e2:Nat} {w0:World} {S:List Nat} {a0:Act} {v1 v2:Value} {cs:Array Value} {ty:TypeId}
structure adh (P:Program) (ops:Array Oper) (Q:Exit->Act->World->Prop) (T:List Nat) (B i1 i2 j1 j2 d1 d2 e1 e2:Nat) (w0:World) (S:List Nat) (a0:Act) (v1 v2:Value) (cs:Array Value) (ty:TypeId):Prop where
 s1:Stp P ops Q B w0 S a0 i1 d1 v1
 s2:Stp P ops Q B w0 S a0 i2 d2 v2
 t1:Sta P ops Q j1 e1 cs ty
 t2:Sta P ops Q j2 e2 cs ty
 n1:d1∉S
 n2:d2∉S
 n3:e1∉S
 n4:e2∉S
 e12:e1≠d1/\e1≠d2/\e2≠d1/\e2≠d2/\e2≠e1
 hB:B=w0.heap.size
 fin:∀(p1 p2:Nat) (w:World),B<=p1->B<=p2->p1≠p2->w.heap[p1]?=some (.cells cs ty (0,0))->w.heap[p2]?=some (.cells cs ty (0,0))->Below B w0 w->
  wpQ P ops Q T B .fin ((((a0.put (some d1) v1).put (some d2) v2).put (some e1) (adl p1)).put (some e2) (adl p2)) w
theorem alQ (h:adh P ops Q T B i1 i2 j1 j2 d1 d2 e1 e2 w0 S a0 v1 v2 cs ty):∀(p1 p2:Nat) (w:World),Below B w0 w->B<=p1->w.heap[p1]?=some (.cells cs ty (0,0))->B<=p2->w.heap[p2]?=some (.cells cs ty (0,0))->p1≠p2->wpQ P ops Q T B (asf i1 i2 j1 j2) ((((a0.put (some d1) v1).put (some d2) v2).put (some e1) (adl p1)).put (some e2) (adl p2)) w:=by
 intro p1 p2 w hb b1 x1 b2 x2 ne;exact h.fin p1 p2 w b1 b2 ne x1 x2 hb
theorem alR (h:adh P ops Q T B i1 i2 j1 j2 d1 d2 e1 e2 w0 S a0 v1 v2 cs ty):∀(p1 p2:Nat) (w:World),Below B w0 w->B<=p1->w.heap[p1]?=some (.cells cs ty (0,0))->B<=p2->w.heap[p2]?=some (.cells cs ty (0,0))->p1≠p2->wpQ P ops Q T B (asg i1 i2 j1 j2) (((a0.put (some d1) v1).put (some e1) (adl p1)).put (some e2) (adl p2)) w:=by
 intro p1 p2 w hb b1 x1 b2 x2 ne;have hs:B<=w.heap.size:=Nat.le_trans (Nat.le_of_eq h.hB) hb.size;refine h.s2 _ _ _ (Ag.put (Ag.put (Ag.put (Ag.refl S a0) h.n1 v1) h.n3 (adl p1)) h.n4 (adl p2)) hb (fun w' hw=>⟨hw.mono hs,?_⟩);rw[Act.put_comm ((a0.put (some d1) v1).put (some e1) (adl p1)) (adl p2) v2 (aec h.e12.2.2.2.1),Act.put_comm (a0.put (some d1) v1) (adl p1) v2 (aec h.e12.2.1)];exact alQ h p1 p2 w' (hb.trans (hw.mono hs)) b1 ((hw.block p1 (aae x1)).trans x1) b2 ((hw.block p2 (aae x2)).trans x2) ne
theorem aqa (h:adh P ops Q T B i1 i2 j1 j2 d1 d2 e1 e2 w0 S a0 v1 v2 cs ty):∀(p2:Nat) (w:World),Below B w0 w->B<=p2->w.heap[p2]?=some (.cells cs ty (0,0))->wpQ P ops Q T B (atW i1 i2 j1 j2) (((a0.put (some d1) v1).put (some d2) v2).put (some e2) (adl p2)) w:=by
 intro p2 w hb b2 x2;have hs:B<=w.heap.size:=Nat.le_trans (Nat.le_of_eq h.hB) hb.size;refine h.t1 _ _ _ ⟨(Below.refl _ _).alloc hs _,?_⟩;rw[Act.put_comm ((a0.put (some d1) v1).put (some d2) v2) (adl p2) (adl w.heap.size) (aec h.e12.2.2.2.2)];exact alQ h w.heap.size p2 _ (hb.trans ((Below.refl _ _).alloc hs _)) hs (heap_alloc_new w _) b2 ((heap_alloc_old _ _ (aae x2)).trans x2) (fun e=>by have:=aae x2;omega)
theorem aqb (h:adh P ops Q T B i1 i2 j1 j2 d1 d2 e1 e2 w0 S a0 v1 v2 cs ty):∀(p1:Nat) (w:World),Below B w0 w->B<=p1->w.heap[p1]?=some (.cells cs ty (0,0))->wpQ P ops Q T B (atX i1 i2 j1 j2) (((a0.put (some d1) v1).put (some d2) v2).put (some e1) (adl p1)) w:=by
 intro p1 w hb b1 x1;have hs:B<=w.heap.size:=Nat.le_trans (Nat.le_of_eq h.hB) hb.size;refine h.t2 _ _ _ ⟨(Below.refl _ _).alloc hs _,?_⟩;exact alQ h p1 w.heap.size _ (hb.trans ((Below.refl _ _).alloc hs _)) b1 ((heap_alloc_old _ _ (aae x1)).trans x1) hs (heap_alloc_new w _) (fun e=>by have:=aae x1;omega)
theorem aqc (h:adh P ops Q T B i1 i2 j1 j2 d1 d2 e1 e2 w0 S a0 v1 v2 cs ty):∀(p1 p2:Nat) (w:World),Below B w0 w->B<=p1->w.heap[p1]?=some (.cells cs ty (0,0))->B<=p2->w.heap[p2]?=some (.cells cs ty (0,0))->p1≠p2->wpQ P ops Q T B (atY i1 i2 j1 j2) ((a0.put (some e1) (adl p1)).put (some e2) (adl p2)) w:=by
 intro p1 p2 w hb b1 x1 b2 x2 ne;have hs:B<=w.heap.size:=Nat.le_trans (Nat.le_of_eq h.hB) hb.size;refine h.s1 _ _ _ (Ag.put (Ag.put (Ag.refl S a0) h.n3 (adl p1)) h.n4 (adl p2)) hb (fun w' hw=>⟨hw.mono hs,?_⟩);rw[Act.put_comm (a0.put (some e1) (adl p1)) (adl p2) v1 (aec h.e12.2.2.1),Act.put_comm a0 (adl p1) v1 (aec h.e12.1)];exact alR h p1 p2 w' (hb.trans (hw.mono hs)) b1 ((hw.block p1 (aae x1)).trans x1) b2 ((hw.block p2 (aae x2)).trans x2) ne
theorem aqd (h:adh P ops Q T B i1 i2 j1 j2 d1 d2 e1 e2 w0 S a0 v1 v2 cs ty):∀(p2:Nat) (w:World),Below B w0 w->B<=p2->w.heap[p2]?=some (.cells cs ty (0,0))->wpQ P ops Q T B (atZ i1 i2 j1 j2) ((a0.put (some d1) v1).put (some e2) (adl p2)) w:=by
 intro p2 w hb b2 x2;have hs:B<=w.heap.size:=Nat.le_trans (Nat.le_of_eq h.hB) hb.size;refine⟨?_,?_⟩
 · refine h.s2 _ _ _ (Ag.put (Ag.put (Ag.refl S a0) h.n1 v1) h.n4 (adl p2)) hb (fun w' hw=>⟨hw.mono hs,?_⟩);rw[Act.put_comm (a0.put (some d1) v1) (adl p2) v2 (aec h.e12.2.2.2.1)];exact aqa h p2 w' (hb.trans (hw.mono hs)) b2 ((hw.block p2 (aae x2)).trans x2)
 · refine h.t1 _ _ _ ⟨(Below.refl _ _).alloc hs _,?_⟩;rw[Act.put_comm (a0.put (some d1) v1) (adl p2) (adl w.heap.size) (aec h.e12.2.2.2.2)];exact alR h w.heap.size p2 _ (hb.trans ((Below.refl _ _).alloc hs _)) hs (heap_alloc_new w _) b2 ((heap_alloc_old _ _ (aae x2)).trans x2) (fun e=>by have:=aae x2;omega)
theorem aqe (h:adh P ops Q T B i1 i2 j1 j2 d1 d2 e1 e2 w0 S a0 v1 v2 cs ty):∀(p1:Nat) (w:World),Below B w0 w->B<=p1->w.heap[p1]?=some (.cells cs ty (0,0))->wpQ P ops Q T B (at0 i1 i2 j1 j2) ((a0.put (some d1) v1).put (some e1) (adl p1)) w:=by
 intro p1 w hb b1 x1;have hs:B<=w.heap.size:=Nat.le_trans (Nat.le_of_eq h.hB) hb.size;refine⟨?_,?_⟩
 · refine h.s2 _ _ _ (Ag.put (Ag.put (Ag.refl S a0) h.n1 v1) h.n3 (adl p1)) hb (fun w' hw=>⟨hw.mono hs,?_⟩);rw[Act.put_comm (a0.put (some d1) v1) (adl p1) v2 (aec h.e12.2.1)];exact aqb h p1 w' (hb.trans (hw.mono hs)) b1 ((hw.block p1 (aae x1)).trans x1)
 · refine h.t2 _ _ _ ⟨(Below.refl _ _).alloc hs _,?_⟩;exact alR h p1 w.heap.size _ (hb.trans ((Below.refl _ _).alloc hs _)) b1 ((heap_alloc_old _ _ (aae x1)).trans x1) hs (heap_alloc_new w _) (fun e=>by have:=aae x1;omega)
theorem at1 (h:adh P ops Q T B i1 i2 j1 j2 d1 d2 e1 e2 w0 S a0 v1 v2 cs ty):∀(w:World),Below B w0 w->wpQ P ops Q T B (au7 i1 i2 j1 j2) ((a0.put (some d1) v1).put (some d2) v2) w:=by
 intro w hb;have hs:B<=w.heap.size:=Nat.le_trans (Nat.le_of_eq h.hB) hb.size;refine⟨?_,?_⟩
 · refine h.t1 _ _ _ ⟨(Below.refl _ _).alloc hs _,?_⟩;exact aqb h w.heap.size _ (hb.trans ((Below.refl _ _).alloc hs _)) hs (heap_alloc_new w _)
 · refine h.t2 _ _ _ ⟨(Below.refl _ _).alloc hs _,?_⟩;exact aqa h w.heap.size _ (hb.trans ((Below.refl _ _).alloc hs _)) hs (heap_alloc_new w _)
theorem at2 (h:adh P ops Q T B i1 i2 j1 j2 d1 d2 e1 e2 w0 S a0 v1 v2 cs ty):∀(p2:Nat) (w:World),Below B w0 w->B<=p2->w.heap[p2]?=some (.cells cs ty (0,0))->wpQ P ops Q T B (au8 i1 i2 j1 j2) (a0.put (some e2) (adl p2)) w:=by
 intro p2 w hb b2 x2;have hs:B<=w.heap.size:=Nat.le_trans (Nat.le_of_eq h.hB) hb.size;refine⟨?_,?_⟩
 · refine h.s1 _ _ _ (Ag.put (Ag.refl S a0) h.n4 (adl p2)) hb (fun w' hw=>⟨hw.mono hs,?_⟩);rw[Act.put_comm a0 (adl p2) v1 (aec h.e12.2.2.1)];exact aqd h p2 w' (hb.trans (hw.mono hs)) b2 ((hw.block p2 (aae x2)).trans x2)
 · refine h.t1 _ _ _ ⟨(Below.refl _ _).alloc hs _,?_⟩;rw[Act.put_comm a0 (adl p2) (adl w.heap.size) (aec h.e12.2.2.2.2)];exact aqc h w.heap.size p2 _ (hb.trans ((Below.refl _ _).alloc hs _)) hs (heap_alloc_new w _) b2 ((heap_alloc_old _ _ (aae x2)).trans x2) (fun e=>by have:=aae x2;omega)
theorem at3 (h:adh P ops Q T B i1 i2 j1 j2 d1 d2 e1 e2 w0 S a0 v1 v2 cs ty):∀(p1:Nat) (w:World),Below B w0 w->B<=p1->w.heap[p1]?=some (.cells cs ty (0,0))->wpQ P ops Q T B (au9 i1 i2 j1 j2) (a0.put (some e1) (adl p1)) w:=by
 intro p1 w hb b1 x1;have hs:B<=w.heap.size:=Nat.le_trans (Nat.le_of_eq h.hB) hb.size;refine⟨?_,?_⟩
 · refine h.s1 _ _ _ (Ag.put (Ag.refl S a0) h.n3 (adl p1)) hb (fun w' hw=>⟨hw.mono hs,?_⟩);rw[Act.put_comm a0 (adl p1) v1 (aec h.e12.1)];exact aqe h p1 w' (hb.trans (hw.mono hs)) b1 ((hw.block p1 (aae x1)).trans x1)
 · refine h.t2 _ _ _ ⟨(Below.refl _ _).alloc hs _,?_⟩;exact aqc h p1 w.heap.size _ (hb.trans ((Below.refl _ _).alloc hs _)) b1 ((heap_alloc_old _ _ (aae x1)).trans x1) hs (heap_alloc_new w _) (fun e=>by have:=aae x1;omega)
theorem at6 (h:adh P ops Q T B i1 i2 j1 j2 d1 d2 e1 e2 w0 S a0 v1 v2 cs ty):∀(w:World),Below B w0 w->wpQ P ops Q T B (ava i1 i2 j1 j2) (a0.put (some d1) v1) w:=by
 intro w hb;have hs:B<=w.heap.size:=Nat.le_trans (Nat.le_of_eq h.hB) hb.size;refine⟨?_,?_,?_⟩
 · refine h.s2 _ _ _ (Ag.put (Ag.refl S a0) h.n1 v1) hb (fun w' hw=>⟨hw.mono hs,?_⟩);exact at1 h w' (hb.trans (hw.mono hs))
 · refine h.t1 _ _ _ ⟨(Below.refl _ _).alloc hs _,?_⟩;exact aqe h w.heap.size _ (hb.trans ((Below.refl _ _).alloc hs _)) hs (heap_alloc_new w _)
 · refine h.t2 _ _ _ ⟨(Below.refl _ _).alloc hs _,?_⟩;exact aqd h w.heap.size _ (hb.trans ((Below.refl _ _).alloc hs _)) hs (heap_alloc_new w _)
theorem at7 (h:adh P ops Q T B i1 i2 j1 j2 d1 d2 e1 e2 w0 S a0 v1 v2 cs ty):∀(w:World),Below B w0 w->wpQ P ops Q T B (avb i1 i2 j1 j2) a0 w:=by
 intro w hb;have hs:B<=w.heap.size:=Nat.le_trans (Nat.le_of_eq h.hB) hb.size;refine⟨?_,?_,?_⟩
 · refine h.s1 _ _ _ (Ag.refl S a0) hb (fun w' hw=>⟨hw.mono hs,?_⟩);exact at6 h w' (hb.trans (hw.mono hs))
 · refine h.t1 _ _ _ ⟨(Below.refl _ _).alloc hs _,?_⟩;exact at3 h w.heap.size _ (hb.trans ((Below.refl _ _).alloc hs _)) hs (heap_alloc_new w _)
 · refine h.t2 _ _ _ ⟨(Below.refl _ _).alloc hs _,?_⟩;exact at2 h w.heap.size _ (hb.trans ((Below.refl _ _).alloc hs _)) hs (heap_alloc_new w _)
theorem aqf (h:adh P ops Q T B i1 i2 j1 j2 d1 d2 e1 e2 w0 S a0 v1 v2 cs ty):wpQ P ops Q T B (avc i1 i2 j1 j2) a0 w0:=at7 h w0 (Below.refl _ _)
end
def ac1 (k:Int) (g base cap:Nat) (A:Option Addr) (bs:List UInt8) (H:Hp) (y:Option Hp) (w:World) (e:Ending) (w':World):Prop:=
 match y with
 | none=>e= .returned (aav false k)/\Below w.heap.size w w'
 | some H'=>e= .returned (aav true k)/\∃out,Became 195 g base cap A out w w'/\Rt out H'/\Held H bs H' out
def aca (g base cap:Nat) (A:Option Addr) (bs:List UInt8) (H:Hp) (y:Option Nat × Hp) (w:World) (e:Ending) (w':World):Prop:=
 match y.1 with
 | none=>e= .returned (.tuple #[.int .i64 0,aav false 5])/\Below w.heap.size w w'
 | some o=>e= .returned (.tuple #[.int .i64 (o:Int),aav true 5])/\∃out,Became 195 g base cap A out w w'/\Rt out y.2/\Held H bs y.2 out
def av1:Prop:=∀(w:World) (g base cap c:Nat) (A:Option Addr) (bs:List UInt8) (H:Hp) (s:Int),Ar w 195 g base cap A c bs->base<=4611686018427387904->cap<=16384->H.cap=cap->Rt bs H->(-9223372036854775808<=s/\s<=9223372036854775807)->
 (aaG s=false->Calls Tryz.prog 188 #[.pointer (some ⟨g,0,none⟩), .int .i64 s] w fun e w'=>e= .returned (.tuple #[.int .i64 0,aav false 1])/\Below w.heap.size w w')/\
 (aaG s=true->Calls Tryz.prog 188 #[.pointer (some ⟨g,0,none⟩), .int .i64 s] w fun e w'=>aca g base cap A bs H (H.take s.toNat) w e w')
def av2:Prop:=∀(w:World) (g base cap c:Nat) (A:Option Addr) (bs:List UInt8) (H:Hp) (o:Int),Ar w 195 g base cap A c bs->base<=4611686018427387904->cap<=16384->H.cap=cap->Rt bs H->(-9223372036854775808<=o/\o<=9223372036854775807)->
 Calls Tryz.prog 127 #[.pointer (some ⟨g,0,none⟩), .int .i64 o] w fun e w'=>ac1 3 g base cap A bs H (H.giveO o) w e w'
def av3:Prop:=∀(w:World) (g base cap c:Nat) (A:Option Addr) (bs:List UInt8) (H:Hp) (o s:Int),Ar w 195 g base cap A c bs->base<=4611686018427387904->cap<=16384->H.cap=cap->Rt bs H->(-9223372036854775808<=o/\o<=9223372036854775807)->(-9223372036854775808<=s/\s<=9223372036854775807)->
 (aaG s=false->Calls Tryz.prog 191 #[.pointer (some ⟨g,0,none⟩), .int .i64 o, .int .i64 s] w fun e w'=>e= .returned (aav false 1)/\Below w.heap.size w w')/\
 (aaG s=true->Calls Tryz.prog 191 #[.pointer (some ⟨g,0,none⟩), .int .i64 o, .int .i64 s] w fun e w'=>ac1 3 g base cap A bs H (H.trimO o s.toNat) w e w')
def av4:Prop:=∀(w:World) (g base cap c:Nat) (A:Option Addr) (bs:List UInt8) (H:Hp) (o:Int),Ar w 195 g base cap A c bs->base<=4611686018427387904->cap<=16384->H.cap=cap->Rt bs H->(-9223372036854775808<=o/\o<=9223372036854775807)->
 Calls Tryz.prog 189 #[.pointer (some ⟨g,0,none⟩), .int .i64 o] w fun e w'=>aaE ((aa3 H.blks o).map (aal H.blks)) w e w'
def frV (o:Int):Option Bk->Value
 | none=> .agg #[.int .i64 o, .int .i64 0, .bool false]
 | some y=> .agg #[.int .i64 (y.off:Int), .int .i64 (y.size:Int), .bool false]
theorem aeq{fn:Func}{R:Ending->World->Prop}{a:Act}{w:World}{p:Tmp}{g:Nat}{o s:Int}{b:Bool}(hres:fn.results= #[.cell p 112]) (hp:a.tmps.getD p undef= .pointer (some ⟨g,0,none⟩)) (hd:a.defers= [])
 (hg:w.heap[g]?=some (.cells #[.int .i64 o, .int .i64 s, .bool b] 112 (0,0))) (hR:R (.returned (.agg #[.int .i64 o, .int .i64 s, .bool b])) w):bodyPost Tryz.prog fn R .ret a w:=by
 refine bodyPost_ret (v:= .agg #[.int .i64 o, .int .i64 s, .bool b]) ?_ hd hR;exact results_cell_row hres _ _ g _ _ _ _ hp hg rfl rfl rfl
section
variable {w:World} {g base cap c:Nat} {A:Option Addr} {bs:List UInt8}
theorem aic{P:Prop}(h:P:=by
 obtain⟨w1,hw1⟩:=nmE (w.alloc (.cells #[.int .i64 0, .int .i64 0, .bool false] 112));have hb1:=abE hw1;have hn1:=anE hw1;have h1:=h.below hb1;have hG:=alu w1 g base cap c A bs o _ h1 hb hl ho hy;dsimp only[aaE,bkV,Bk.val,Option.isSome,aav]at hG;have HG:=hE0 hG;have HW1:=hE0 hw1;have HB1:=hE0 hb1;have HN1:=hE0 hn1;clear hG hy hw1 hb1 hn1 h1 h;go_enter Tryz.func236,Tryz.ntmps236
 go_wp2_with fail
 rw[HW1.out]
 with_reducible refine HG.out.mono ?_
 rintro e w2 ⟨rfl,hb2⟩;have hn2:=(hb2.block w.heap.size (aae HN1.out)).trans HN1.out;have HB2:=hE0 (HB1.out.trans (hb2.mono HB1.out.size));have HN2:=hE0 hn2;clear hb2 hn2 HG;obtain⟨⟨c0,c1,c2⟩,f0,f1,f2⟩:=aad HN2.out;have hlt:=aac HN2.out;go_wp2
 (try simp only[Exit.inBlock,Exit.then])
 refine aeq (g:=w.heap.size) (o:=o) (s:=0) (b:=false) Tryz.results236 ?_ ?_ ((heap_alloc_old _ _ (aae (aaK HN2.out _ _ _))).trans (aaK HN2.out _ _ _)) ?_
 · rfl
 · rfl
 · refine⟨rfl,Below.alloc (((HB2.out.setCell ?_ _).setCell ?_ _).setCell ?_ _) ?_ _⟩
   · exact Nat.le_refl _
   · exact Nat.le_refl _
   · exact Nat.le_refl _
   · simp only[World.setCell];have h9:=HB2.out.size;simpa using h9
 ):P:=h
theorem alS (h:Ar w 195 g base cap A c bs) (hb:base<=4611686018427387904) (hl:bs.length<=16384) (o:Int) (ho: -9223372036854775808<=o/\o<=9223372036854775807) (hy:aa8 bs o=none):
 Calls Tryz.prog 236 #[.pointer (some ⟨g,0,none⟩), .int .i64 o] w fun e w'=>e= .returned (frV o none)/\Below w.heap.size w w':=by
 exact aic
theorem alT (h:Ar w 195 g base cap A c bs) (hb:base<=4611686018427387904) (hl:bs.length<=16384) (o:Int) (ho: -9223372036854775808<=o/\o<=9223372036854775807) (xo xs:Nat) (hy:aa8 bs o=some ⟨xo,xs,true⟩):
 Calls Tryz.prog 236 #[.pointer (some ⟨g,0,none⟩), .int .i64 o] w fun e w'=>e= .returned (frV o none)/\Below w.heap.size w w':=by
 exact aic
theorem alU (h:Ar w 195 g base cap A c bs) (hb:base<=4611686018427387904) (hl:bs.length<=16384) (o:Int) (ho: -9223372036854775808<=o/\o<=9223372036854775807) (xo xs:Nat) (hy:aa8 bs o=some ⟨xo,xs,false⟩):
 Calls Tryz.prog 236 #[.pointer (some ⟨g,0,none⟩), .int .i64 o] w fun e w'=>e= .returned (frV o (some ⟨xo,xs,false⟩))/\Below w.heap.size w w':=by
 obtain⟨w1,hw1⟩:=nmE (w.alloc (.cells #[.int .i64 0, .int .i64 0, .bool false] 112));have hb1:=abE hw1;have hn1:=anE hw1;have h1:=h.below hb1;have hG:=alu w1 g base cap c A bs o _ h1 hb hl ho hy;dsimp only[aaE,bkV,Bk.val,Option.isSome,aav]at hG;have HG:=hE0 hG;have HW1:=hE0 hw1;have HB1:=hE0 hb1;have HN1:=hE0 hn1;clear hG hy hw1 hb1 hn1 h1 h;go_enter Tryz.func236,Tryz.ntmps236
 go_wp2_with fail
 rw[HW1.out]
 with_reducible refine HG.out.mono ?_
 rintro e w2 ⟨rfl,hb2⟩;have hn2:=(hb2.block w.heap.size (aae HN1.out)).trans HN1.out;have HB2:=hE0 (HB1.out.trans (hb2.mono HB1.out.size));have HN2:=hE0 hn2;clear hb2 hn2 HG;obtain⟨⟨c0,c1,c2⟩,f0,f1,f2⟩:=aad HN2.out;have hlt:=aac HN2.out;go_wp2
 (try simp only[Exit.inBlock,Exit.then])
 refine aeq (g:=w.heap.size) (o:=(xo:Int)) (s:=(xs:Int)) (b:=false) Tryz.results236 ?_ ?_ ((heap_alloc_old _ _ (aae (aaK HN2.out _ _ _))).trans (aaK HN2.out _ _ _)) ?_
 · rfl
 · rfl
 · refine⟨rfl,Below.alloc (((HB2.out.setCell ?_ _).setCell ?_ _).setCell ?_ _) ?_ _⟩
   · exact Nat.le_refl _
   · exact Nat.le_refl _
   · exact Nat.le_refl _
   · simp only[World.setCell];have h9:=HB2.out.size;simpa using h9
theorem anY (h:Ar w 195 g base cap A c bs) (hb:base<=4611686018427387904) (hl:bs.length<=16384) (o:Int) (ho: -9223372036854775808<=o/\o<=9223372036854775807) (y:Option Bk) (hy:frO (aa8 bs o)=y):
 Calls Tryz.prog 236 #[.pointer (some ⟨g,0,none⟩), .int .i64 o] w fun e w'=>e= .returned (frV o y)/\Below w.heap.size w w':=by
 subst hy
 cases hg:aa8 bs o with
 | none=>exact alS h hb hl o ho hg
 | some x=>
  obtain⟨xo,xs,xu⟩:=x
  cases xu with
  | true=>exact alT h hb hl o ho xo xs hg
  | false=>exact alU h hb hl o ho xo xs hg
theorem ag1{P:Prop}(h:P:=by
 go_enter Tryz.func237,Tryz.ntmps237
 go_wp2_with fail
 rw[HW1.out]
 with_reducible refine HG.out.mono ?_
 rintro e w2 ⟨rfl,hb2⟩;have hn2:=(hb2.block w.heap.size (aae HN1.out)).trans HN1.out;have HB2:=hE0 (HB1.out.trans (hb2.mono HB1.out.size));have HN2:=hE0 hn2;clear hb2 hn2 HG;obtain⟨⟨c0,c1,c2⟩,f0,f1,f2⟩:=aad HN2.out;have hlt:=aac HN2.out;go_wp2
 (try simp only[Exit.inBlock,Exit.then])
 refine aeq (g:=w.heap.size) (o:=o) (s:=0) (b:=false) Tryz.results237 ?_ ?_ ((heap_alloc_old _ _ (aae (aaK HN2.out _ _ _))).trans (aaK HN2.out _ _ _)) ?_
 · rfl
 · rfl
 · refine⟨rfl,Below.alloc (((HB2.out.setCell ?_ _).setCell ?_ _).setCell ?_ _) ?_ _⟩
   · exact Nat.le_refl _
   · exact Nat.le_refl _
   · exact Nat.le_refl _
   · simp only[World.setCell];have h9:=HB2.out.size;simpa using h9
 ):P:=h
theorem akr (o:Int) (hA:∀w1,Below w.heap.size w w1->Calls Tryz.prog 270 #[.pointer (some ⟨g,0,none⟩), .int .i64 o] w1 fun e w'=>aaE none w1 e w'):
 Calls Tryz.prog 237 #[.pointer (some ⟨g,0,none⟩), .int .i64 o] w fun e w'=>e= .returned (frV o none)/\Below w.heap.size w w':=by
 obtain⟨w1,hw1⟩:=nmE (w.alloc (.cells #[.int .i64 0, .int .i64 0, .bool false] 112));have hb1:=abE hw1;have hn1:=anE hw1;have hG:=hA w1 hb1;dsimp only[aaE,bkV,Bk.val,Option.isSome,aav]at hG;have HG:=hE0 hG;have HW1:=hE0 hw1;have HB1:=hE0 hb1;have HN1:=hE0 hn1;clear hG hA hw1 hb1 hn1;exact ag1
theorem ahv (h:Ar w 195 g base cap A c bs) (hb:base<=4611686018427387904) (hl:bs.length<=16384) (o:Int) (ho: -9223372036854775808<=o/\o<=9223372036854775807) (hy:abK bs o=none):
 Calls Tryz.prog 237 #[.pointer (some ⟨g,0,none⟩), .int .i64 o] w fun e w'=>e= .returned (frV o none)/\Below w.heap.size w w':=
 akr o fun w1 hb1=>apG w1 g base cap c A bs o _ (h.below hb1) hb hl ho hy
theorem ahw (h:Ar w 195 g base cap A c bs) (hb:base<=4611686018427387904) (hl:bs.length<=16384) (o:Int) (ho: -9223372036854775808<=o/\o<=9223372036854775807) (xo xs:Nat) (hy:abK bs o=some ⟨xo,xs,true⟩):
 Calls Tryz.prog 237 #[.pointer (some ⟨g,0,none⟩), .int .i64 o] w fun e w'=>e= .returned (frV o none)/\Below w.heap.size w w':=by
 obtain⟨w1,hw1⟩:=nmE (w.alloc (.cells #[.int .i64 0, .int .i64 0, .bool false] 112));have hb1:=abE hw1;have hn1:=anE hw1;have h1:=h.below hb1;have hG:=apG w1 g base cap c A bs o _ h1 hb hl ho hy;dsimp only[aaE,bkV,Bk.val,Option.isSome,aav]at hG;have HG:=hE0 hG;have HW1:=hE0 hw1;have HB1:=hE0 hb1;have HN1:=hE0 hn1;clear hG hy hw1 hb1 hn1 h1 h;exact ag1
theorem ahx (h:Ar w 195 g base cap A c bs) (hb:base<=4611686018427387904) (hl:bs.length<=16384) (o:Int) (ho: -9223372036854775808<=o/\o<=9223372036854775807) (xo xs:Nat) (hy:abK bs o=some ⟨xo,xs,false⟩):
 Calls Tryz.prog 237 #[.pointer (some ⟨g,0,none⟩), .int .i64 o] w fun e w'=>e= .returned (frV o (some ⟨xo,xs,false⟩))/\Below w.heap.size w w':=by
 obtain⟨w1,hw1⟩:=nmE (w.alloc (.cells #[.int .i64 0, .int .i64 0, .bool false] 112));have hb1:=abE hw1;have hn1:=anE hw1;have h1:=h.below hb1;have hG:=apG w1 g base cap c A bs o _ h1 hb hl ho hy;dsimp only[aaE,bkV,Bk.val,Option.isSome,aav]at hG;have HG:=hE0 hG;have HW1:=hE0 hw1;have HB1:=hE0 hb1;have HN1:=hE0 hn1;clear hG hy hw1 hb1 hn1 h1 h;go_enter Tryz.func237,Tryz.ntmps237
 go_wp2_with fail
 rw[HW1.out]
 with_reducible refine HG.out.mono ?_
 rintro e w2 ⟨rfl,hb2⟩;have hn2:=(hb2.block w.heap.size (aae HN1.out)).trans HN1.out;have HB2:=hE0 (HB1.out.trans (hb2.mono HB1.out.size));have HN2:=hE0 hn2;clear hb2 hn2 HG;obtain⟨⟨c0,c1,c2⟩,f0,f1,f2⟩:=aad HN2.out;have hlt:=aac HN2.out;go_wp2
 (try simp only[Exit.inBlock,Exit.then])
 refine aeq (g:=w.heap.size) (o:=(xo:Int)) (s:=(xs:Int)) (b:=false) Tryz.results237 ?_ ?_ ((heap_alloc_old _ _ (aae (aaK HN2.out _ _ _))).trans (aaK HN2.out _ _ _)) ?_
 · rfl
 · rfl
 · refine⟨rfl,Below.alloc (((HB2.out.setCell ?_ _).setCell ?_ _).setCell ?_ _) ?_ _⟩
   · exact Nat.le_refl _
   · exact Nat.le_refl _
   · exact Nat.le_refl _
   · simp only[World.setCell];have h9:=HB2.out.size;simpa using h9
theorem adC (h:Ar w 195 g base cap A c bs) (hb:base<=4611686018427387904) (hl:bs.length<=16384) (o:Int) (ho: -9223372036854775808<=o/\o<=9223372036854775807) (y:Option Bk) (hy:frO (abK bs o)=y):
 Calls Tryz.prog 237 #[.pointer (some ⟨g,0,none⟩), .int .i64 o] w fun e w'=>e= .returned (frV o y)/\Below w.heap.size w w':=by
 subst hy
 cases hg:abK bs o with
 | none=>exact ahv h hb hl o ho hg
 | some x=>
  obtain⟨xo,xs,xu⟩:=x
  cases xu with
  | true=>exact ahw h hb hl o ho xo xs hg
  | false=>exact ahx h hb hl o ho xo xs hg
theorem aks (o:Int):
 Calls Tryz.prog 238 #[.pointer (some ⟨g,0,none⟩), .agg #[.int .i64 o, .int .i64 0, .bool false]] w fun e w'=>e= .returned (.tuple #[])/\Below w.heap.size w w':=by
 go_enter Tryz.func238,Tryz.ntmps238
 go_wp2
 go_end0
 exact⟨rfl,(Below.refl _ _).alloc (Nat.le_refl _) _⟩
theorem akt (h:Ar w 195 g base cap A c bs) (hb:base<=4611686018427387904) (hl:bs.length<=16384) (o s:Nat) (ho:(o:Int)<=9223372036854775807) (hs:(0:Int)<(s:Int)) (out:List UInt8) (hy:aeB bs (o:Int)=some out):
 Calls Tryz.prog 238 #[.pointer (some ⟨g,0,none⟩), .agg #[.int .i64 (o:Int), .int .i64 (s:Int), .bool false]] w fun e w'=>e= .returned (.tuple #[])/\Became 195 g base cap A out w w':=by
 obtain⟨w1,hw1⟩:=nmE (w.alloc (.cells #[.int .i64 (o:Int), .int .i64 (s:Int), .bool false] 112));have hb1:=abE hw1;have hT:=auZ w1 g base cap c A bs (o:Int) _ (h.below hb1) hb hl (by omega) hy;dsimp only[apD,aav]at hT;have HT:=hE0 hT;have HW1:=hE0 hw1;have HB1:=hE0 hb1;clear hT hy hw1 hb1 h;go_enter Tryz.func238,Tryz.ntmps238
 go_wp2_with fail
 rw[HW1.out]
 with_reducible refine HT.out.mono ?_
 rintro e w2 ⟨rfl,hb2⟩;have HB2:=hE0 (hb2.after HB1.out);clear hb2 HT;go_wp2
 go_end0
 exact⟨rfl,HB2.out⟩
end
def Loc (w w':World):Prop:=∀(k:Nat) (cs:Array Value),w.heap[k]?=some (.cells cs 112 (0,0))->w'.heap[k]?=some (.cells cs 112 (0,0))
theorem Loc.below{w w':World}(h:Below w.heap.size w w'):Loc w w':=fun i _ hi=>(h.block i (aae hi)).trans hi
theorem ajf{w:World}{g base cap c:Nat}{A:Option Addr}{bs:List UInt8}(h:Ar w 195 g base cap A c bs){k:Nat}{cs:Array Value}(hk:w.heap[k]?=some (.cells cs 112 (0,0))):¬foot g A k:=by
 rintro(rfl | ⟨a,ea,rfl⟩)
 · have h1:=h.obj;rw[hk]at h1;injection h1 with h1;injection h1 with _ h2 _;exact absurd h2 (by decide)
 · obtain⟨h',e,cur,h1,_⟩:=h.row ea;rw[e]at hk;have hk:w.heap[h']?=some (.cells cs 112 (0,0)):=hk;rw[hk]at h1;injection h1 with h1;injection h1 with _ h2 _;exact absurd h2 (by decide)
theorem Loc.tch{w w':World}{g base cap c:Nat}{A:Option Addr}{bs:List UInt8}(h:Ar w 195 g base cap A c bs) (ht:Tch (foot g A) w w'):Loc w w':=fun i _ hi=>(ht.block i (aae hi) (ajf h hi)).trans hi
section
variable {w w1:World} {g base cap:Nat} {A:Option Addr} {b1 b2:List UInt8}
theorem aid{k:Nat}{cs:Array Value}(h:Became 195 g base cap A b1 w w1) (hk:w1.heap[k]?=some (.cells cs 112 (0,0))) (hB:w.heap.size<=k) (i:Nat) (v:Value):Became 195 g base cap A b1 w (w1.setCell ⟨k,i,none⟩ v):=by
 obtain⟨A',c',a,tc,kk⟩:=h;have hne:=ajf a hk;refine⟨A',c',a.keep fun q hq=>Below.heap_setCell w1 ⟨k,i,none⟩ v q (fun e=>by have e:q=k:=e;subst e;exact hne hq),?_,kk⟩;exact⟨tc.os,tc.tape,tc.output,by simpa[World.setCell]using tc.size,fun q hq hn=>(Below.heap_setCell w1 ⟨k,i,none⟩ v q (fun e=>by have e:q=k:=e;omega)).trans (tc.block q hq hn)⟩
theorem aa7 (h:Became 195 g base cap A b1 w w1) (o:Obj):Became 195 g base cap A b1 w (w1.alloc o):=aaB h ((Below.refl _ _).alloc (Nat.le_refl _) _)
theorem avd (h:Became 195 g base cap A b1 w w1) (hb:base<=4611686018427387904) (hl:b1.length<=16384) (o:Int) (ho: -9223372036854775808<=o/\o<=9223372036854775807) (y:Option Bk) (hy:frO (aa8 b1 o)=y):
 Calls Tryz.prog 236 #[.pointer (some ⟨g,0,none⟩), .int .i64 o] w1 fun e w2=>e= .returned (frV o y)/\Became 195 g base cap A b1 w w2/\Below w1.heap.size w1 w2:=by
 obtain⟨A',c',a,tc,k⟩:=h;refine(anY a hb hl o ho y hy).mono ?_;rintro e w2 ⟨h1,h2⟩;exact⟨h1,aaB ⟨A',c',a,tc,k⟩ h2,h2⟩
theorem ash (h:Became 195 g base cap A b1 w w1) (hb:base<=4611686018427387904) (hl:b1.length<=16384) (o:Int) (ho: -9223372036854775808<=o/\o<=9223372036854775807) (y:Option Bk) (hy:frO (abK b1 o)=y):
 Calls Tryz.prog 237 #[.pointer (some ⟨g,0,none⟩), .int .i64 o] w1 fun e w2=>e= .returned (frV o y)/\Became 195 g base cap A b1 w w2/\Below w1.heap.size w1 w2:=by
 obtain⟨A',c',a,tc,k⟩:=h;refine(adC a hb hl o ho y hy).mono ?_;rintro e w2 ⟨h1,h2⟩;exact⟨h1,aaB ⟨A',c',a,tc,k⟩ h2,h2⟩
theorem amT (h:Became 195 g base cap A b1 w w1) (hb:base<=4611686018427387904) (hl:b1.length<=16384) (o:Int) (y:Option Bk) (hs:∀z,y=some z->0<z.size/\z.off<=16384) (hy:ap7 b1 y=some b2):
 Calls Tryz.prog 238 #[.pointer (some ⟨g,0,none⟩),frV o y] w1 fun e w2=>e= .returned (.tuple #[])/\Became 195 g base cap A b2 w w2/\Loc w1 w2:=by
 cases y with
 | none=>
  injection hy with hy;subst hy;refine(aks o).mono ?_;rintro e w2 ⟨h1,h2⟩;exact⟨h1,aaB h h2,Loc.below h2⟩
 | some z=>
  obtain⟨A',c',a,tc,k⟩:=h;have hz:=hs z rfl;refine(akt a hb hl z.off z.size (by omega) (by omega) b2 hy).mono ?_;rintro e w2 ⟨h1,h2⟩;have h2':=h2;obtain⟨_,_,_,ht,_⟩:=h2';exact⟨h1,Became.trans a tc k h2,Loc.tch a ht⟩
theorem aie (h:Became 195 g base cap A b1 w w1) (hb:base<=4611686018427387904) (hl:b1.length<=16384) (o s:Nat) (u:Bool) (ho:o<=16384) (hs:s<=16384) (hy:aek b1 (o:Int) (s:Int) u=some b2):
 Calls Tryz.prog 217 #[.pointer (some ⟨g,0,none⟩), .agg #[.int .i64 (o:Int), .int .i64 (s:Int), .bool u]] w1 fun e w2=>e= .returned .nilIface/\Became 195 g base cap A b2 w w2/\Loc w1 w2:=by
 obtain⟨A',c',a,tc,k⟩:=h;refine(avW w1 g base cap c' A' b1 (o:Int) (s:Int) u _ a hb hl (by omega) (by omega) hy).mono ?_;rintro e w2 ⟨h1,h2⟩;have h2':=h2;obtain⟨_,_,_,ht,_⟩:=h2';exact⟨h1,Became.trans a tc k h2,Loc.tch a ht⟩
theorem ave (h:Became 195 g base cap A b1 w w1) (hb:base<=4611686018427387904) (hl:b1.length<=16384) (o:Nat) (ho:o<=16384) (hy:ahH b1 (o:Int)=some b2):
 Calls Tryz.prog 174 #[.pointer (some ⟨g,0,none⟩), .int .i64 (o:Int)] w1 fun e w2=>e= .returned .nilIface/\Became 195 g base cap A b2 w w2/\Loc w1 w2:=by
 obtain⟨A',c',a,tc,k⟩:=h;refine(awk w1 g base cap c' A' b1 (o:Int) _ a hb hl (by omega) hy).mono ?_;rintro e w2 ⟨h1,h2⟩;have h2':=h2;obtain⟨_,_,_,ht,_⟩:=h2';exact⟨h1,Became.trans a tc k h2,Loc.tch a ht⟩
theorem at9 (h:Became 195 g base cap A b1 w w1) (n:Nat) (hl:b1.length<=cap) (hcap:cap<=16384) (hn:b1.length+n<=cap):
 Calls Tryz.prog 65 #[.pointer (some ⟨g,0,none⟩), .int .i64 (n:Int)] w1 fun e w2=>e= .returned .nilIface/\Became 195 g base cap A (b1++List.replicate n 0) w w2/\Loc w1 w2:=by
 obtain⟨A',c',a,tc,k⟩:=h;refine(aiB a n hl hcap hn).mono ?_;rintro e w2 ⟨h1,h2⟩;have h2':=h2;obtain⟨_,_,_,ht,_⟩:=h2';exact⟨h1,Became.trans a tc k h2,Loc.tch a ht⟩
end
theorem afN (o:Int) (y:Option Bk):frV o y= .agg #[.int .i64 ((y.map fun z=>(z.off:Int)).getD o), .int .i64 (((y.map Bk.size).getD 0:Nat):Int), .bool false]:=by cases y<;>rfl
theorem anZ{bs out:List UInt8}{o s:Int}{u:Bool}(h:aek bs o s u=some out):184<=o/\32<=s/\o+s<=bs.length:=by
 unfold aek at h;split at h
 · rename_i hc;have h1:=(aab _).1 hc.1;have h2:=(aa5 _ _ _).1 hc.2;omega
 · cases h
theorem Rt.bound{bs:List UInt8}{H:Hp}(h:Rt bs H) (hc:H.cap<=16384):bs.length<=16384/\∀y∈H.blks,184<=y.off/\32<=y.size/\y.off+y.size<=bs.length:=by
 have hM:=h.md hc;refine⟨hM.ls.small,fun y hy=> ?_⟩;have:=hM.ls.st.facts hy;omega
theorem aqg{ops:Array Oper}{Q:Exit->Act->World->Prop}{o:Oper}{rest:List Oper}{a:Act}{w:World}{x y:Operand}{gx:Nat}{p q:Int}{r:Bool}{v0 v1 v2:Value}(ho:o.op= .store 112 x y) (hd:o.dst=none)
 (hw:Region.wanted o (yielded ops a.tmps)=true) (hx:a.eval x= .pointer (some ⟨gx,0,none⟩)) (hy:a.eval y= .agg #[.int .i64 p, .int .i64 q, .bool r]) (h:w.heap[gx]?=some (.cells #[v0,v1,v2] 112 (0,0)))
 (hk:∀w',w'.heap[gx]?=some (.cells #[.int .i64 p, .int .i64 q, .bool r] 112 (0,0))->(∀k,k≠gx->w'.heap[k]?=w.heap[k]?)->(∀B,B<=gx->Below B w w')->wpList Tryz.prog ops Q rest a w'):wpList Tryz.prog ops Q (o::rest) a w:=by
 unfold wpList;rw[if_pos hw];refine .inl ?_;unfold Oper.wp;rw[apH a.eval o x y ho w gx p q r v0 v1 v2 hx hy h];show wpList Tryz.prog ops Q rest (a.put o.dst undef) _;rw[hd];refine hk _ (aaK h _ _ _) (fun k hk=> ?_) fun B hB=> ?_
 · exact(Below.heap_setCell _ ⟨gx,2,none⟩ _ k hk).trans ((Below.heap_setCell _ ⟨gx,1,none⟩ _ k hk).trans (Below.heap_setCell _ ⟨gx,0,none⟩ _ k hk))
 · exact(((Below.refl _ _).setCell (p:=⟨gx,0,none⟩) hB _).setCell (p:=⟨gx,1,none⟩) hB _).setCell (p:=⟨gx,2,none⟩) hB _
section
variable {w:World} {g base cap c:Nat} {A:Option Addr} {bs:List UInt8} {H:Hp}
theorem aku (h:Ar w 195 g base cap A c bs) (hbase:base<=4611686018427387904) (hcap:cap<=16384) (hc:H.cap=cap) (hR:Rt bs H){A1 B1:List Bk}{p n:Option Bk}{xo xs:Nat}
 (hb:H.blks=(A1++p.toList)++⟨xo,xs,true⟩::(n.toList++B1)) (hN:alK A1 p n B1):
 Calls Tryz.prog 190 #[.pointer (some ⟨g,0,none⟩), .agg #[.int .i64 (xo:Int), .int .i64 (xs:Int), .bool true]] w fun e w'=>e= .returned .nilIface/\∃out,Became 195 g base cap A out w w'/\Rt out (H.give (A1++p.toList).length)/\
  ∀z∈H.blks,z.used=true->z≠⟨xo,xs,true⟩->∀i,Pay z i->out[i]?=bs[i]?:=by
 obtain⟨b1,b2,out,e1,e2,e3,e4,l1,l2,l3,l4,hRo,hP⟩:=hR.gives (by omega) hb hN rfl;have hM:=hR.md (by omega);obtain⟨hl,hbd⟩:=hR.bound (by omega);have y1:=hM.behind hb hN;have y2:=hM.ahead hb hN;have hx:=hbd ⟨xo,xs,true⟩ (by rw[hb];simp);have hn:∀z,n=some z->0<z.size/\z.off<=16384:=fun z hz=>by have:=hbd z (by rw[hb,hz];simp);omega
 have hp:∀z,p=some z->0<z.size/\z.off<=16384:=fun z hz=>by have:=hbd z (by rw[hb,hz];simp);omega
 have r3:=anZ e3;obtain⟨s3,hs3⟩:=nmE (aaY b2 (aeb p ⟨xo,xs,true⟩ n));rw[hs3]at e3 e4 l3;obtain⟨wo,hwo⟩:=nmE ((aeb p ⟨xo,xs,true⟩ n).off);obtain⟨ws,hws⟩:=nmE ((aeb p ⟨xo,xs,true⟩ n).size);rw[hwo,hws]at e3 r3;rw[hwo]at e4;have f1:=afN ((xo:Int)+(xs:Int)) n;have f2:=afN (xo:Int) p;obtain⟨no,hno⟩:∃no:Int,(n.map fun z=>(z.off:Int)).getD ((xo:Int)+(xs:Int))=no:=⟨_,rfl⟩;obtain⟨nz,hnz⟩:=nmE ((n.map Bk.size).getD 0);obtain⟨pz,hpz⟩:=nmE ((p.map Bk.size).getD 0);have hpo:(p.map fun z=>(z.off:Int)).getD (xo:Int)=(wo:Int):=by rw[<-hwo];cases p<;>rfl
 rw[hno,hnz]at f1;rw[hpo,hpz]at f2;have hwe:ws=pz+xs+nz:=by rw[<-hws,<-hpz,<-hnz];rfl
 dsimp only at y1 y2 hx;obtain⟨w1,hw1⟩:=nmE (w.alloc (.cells #[.int .i64 (xo:Int), .int .i64 (xs:Int), .bool true] 112));have hb1:=abE hw1;have n1:=anE hw1;have N1:=hE0 n1;have BC0:Became 195 g base cap A bs w w:=⟨A,c,h,Tch.refl _ _, .inl rfl⟩;have BC1:=hE0 (aaB BC0 hb1.drew);clear BC0;obtain⟨⟨d0,d1,d2⟩,_⟩:=aad n1;have hlt1:=aae n1;have HW1:=hE0 hw1;clear hw1 hb1 n1 h;have HH:=hE0 (show ∀w',Became 195 g base cap A out w w'->((Ending.returned .nilIface:Ending)= .returned .nilIface/\∃out,Became 195 g base cap A out w w'/\Rt out (H.give (A1++p.toList).length)/\∀z∈H.blks,z.used=true->z≠⟨xo,xs,true⟩->∀i,Pay z i->out[i]?=bs[i]?) from fun w' hh=>⟨rfl,out,hh,hRo,hP⟩);clear hRo hP hM hbd hb hN hR;go_enter Tryz.func190,Tryz.ntmps190
 go_wp2_with (first | (rw[HW1.out]) | fail)
 refine alP w1.heap.size [0,1,2,3,4,5,7,8,9] (avc 6 10 11 12) [13,14] (by kernel_rfl) (by kernel_rfl) (by kernel_rfl) (fun _ _ _ _ _ h=>h) ?_;have q0:∀z:LaterB w1.heap.size w1.drew,z.val.cell? ⟨w.heap.size,0,none⟩=some (.int .i64 (xo:Int)):=fun z=>(z.ext.cell (p:=⟨w.heap.size,0,none⟩) hlt1).trans d0;have q1:∀z:LaterB w1.heap.size w1.drew,z.val.cell? ⟨w.heap.size,1,none⟩=some (.int .i64 (xs:Int)):=fun z=>(z.ext.cell (p:=⟨w.heap.size,1,none⟩) hlt1).trans d1;refine au6 (l:= ?seg1) ?hseg1 ?_
 case hseg1=>simp only[pick,lE1,lE2,lE3];rfl
 repeat (go_big_quiet_step (fail))
 refine wpQuiet_nil ?_;clear q0 q1;refine aqf (S:= [7,12,14,16]) (d1:=13) (d2:=17) (e1:=5) (e2:=6) (v1:=frV ((xo:Int)+(xs:Int)) n) (v2:=frV (xo:Int) p) (cs:= #[.int .i64 0, .int .i64 0, .bool false]) (ty:=112) (w0:=w1.drew) ⟨?_,?_,?_,?_,by decide,by decide,by decide,by decide,by decide,rfl,?_⟩
 · refine amS (vs:= #[.pointer (some ⟨g,0,none⟩), .int .i64 ((xo:Int)+(xs:Int))]) Tryz.call236 rfl (fun a ha=> ?_) fun W hW=> ?_
   · show [a.tmps.getD 7 undef,a.tmps.getD 12 undef]=_;rw[ha 7 (by decide),ha 12 (by decide)];rfl
   · refine(avd (aaB BC1.out hW) hbase hl _ ⟨by omega,by omega⟩ n y1).mono ?_;rintro e w' ⟨h1,h2,h3⟩;exact⟨h1,h3⟩
 · refine amS (vs:= #[.pointer (some ⟨g,0,none⟩), .int .i64 (xo:Int)]) Tryz.call237 rfl (fun a ha=> ?_) fun W hW=> ?_
   · show [a.tmps.getD 14 undef,a.tmps.getD 16 undef]=_;rw[ha 14 (by decide),ha 16 (by decide)];rfl
   · refine(ash (aaB BC1.out hW) hbase hl _ ⟨by omega,by omega⟩ p y2).mono ?_;rintro e w' ⟨h1,h2,h3⟩;exact⟨h1,h3⟩
 · exact akq rfl rfl (fun _=>rfl) fun ρ w=>akc ρ _ rfl w
 · exact akq rfl rfl (fun _=>rfl) fun ρ w=>akc ρ _ rfl w
 intro p1 p2 w5 k1 k2 kne m1 m2 hb5;rw[f1,f2];unfold adl;refine av0 (t:= ?tl1) ?htl1 ?_
 case htl1=>simp only[pick,lE1,lE2,lE3];rfl
 simp only[Act.put,lE4,lE5,lE6];refine aqg (gx:=p1) (p:=no) (q:=(nz:Int)) (r:=false) rfl rfl rfl rfl rfl m1 ?_;intro w6 n6 k6 b6;refine aqg (gx:=p2) (p:=(wo:Int)) (q:=(pz:Int)) (r:=false) rfl rfl rfl rfl rfl ((k6 p2 (Ne.symm kne)).trans m2) ?_;intro w7 n7 k7 b7;have hb7:Below w1.heap.size w1.drew w7:=(hb5.trans (b6 _ k1)).trans (b7 _ k2);have n6:=(k7 p1 kne).trans n6;have nb:=(hb7.block w.heap.size hlt1).trans N1.out;have BC7:=hE0 (aaB BC1.out hb7);have h1:=amT BC7.out hbase hl ((xo:Int)+(xs:Int)) n hn e1;rw[f1]at h1;have H1:=hE0 h1;have K1:=hE0 k1;have K2:=hE0 k2;have KN:=hE0 kne;clear h1 hb5 hb7 k6 k7 b6 b7 m1 m2 d0 d1 d2 k1 k2 kne;have NB:=hE0 nb;have N6:=hE0 n6;have N7:=hE0 n7;obtain⟨⟨c0,c1,c2⟩,_⟩:=aad n6;clear nb n6 n7;have hlt6:=aac N6.out;go_wp2_with fail
 refine H1.out.mono ?_;clear c0 c1 c2 hlt6;rintro e w8 ⟨rfl,hB8,hL8⟩;have n6:=hL8 _ _ N6.out;have n7:=hL8 _ _ N7.out;have nb:=hL8 _ _ NB.out;have h2:=amT hB8 hbase (by omega) (xo:Int) p hp e2;rw[f2]at h2;have H2:=hE0 h2;clear N6 N7 NB BC7 BC1 h2 hL8 hB8 H1;have NB:=hE0 nb;have N6:=hE0 n6;have N7:=hE0 n7;obtain⟨⟨c0,c1,c2⟩,_⟩:=aad n7;clear nb n6 n7;have hlt7:=aac N7.out;go_wp2_with fail
 refine H2.out.mono ?_;clear c0 c1 c2 hlt7;rintro e w9 ⟨rfl,hB9,hL9⟩;have n6:=hL9 _ _ N6.out;have n7:=hL9 _ _ N7.out;have nb:=hL9 _ _ NB.out;have h3:=aie hB9 hbase (by omega) wo ws false (by omega) (by omega) e3;rw[hwe,Int.natCast_add,Int.natCast_add]at h3;have H3:=hE0 h3;clear N6 N7 NB h3 hL9 hB9 H2;have N7:=hE0 n7;obtain⟨⟨c0,c1,c2⟩,_⟩:=aad n7;obtain⟨⟨d0,d1,d2⟩,_⟩:=aad nb;obtain⟨⟨g0,g1,g2⟩,_⟩:=aad n6;have hlt7:=aac n7;have hlt6:=aac n6;have hltb:=aac nb;clear nb n6 n7;go_wp2_with fail
 refine H3.out.mono ?_;clear c0 c1 c2 d0 d1 d2 g0 g1 g2 hlt7 hlt6 hltb;rintro e w10 ⟨rfl,hB10,hL10⟩;have n7:=hL10 _ _ N7.out;have h4:=ave hB10 hbase (by omega) wo (by omega) e4;have H4:=hE0 h4;clear N7 h4 hL10 hB10 H3;obtain⟨⟨c0,c1,c2⟩,_⟩:=aad n7;have hlt7:=aac n7;clear n7;go_wp2_with fail
 refine H4.out.mono ?_;clear c0 c1 c2 hlt7;rintro e w11 ⟨rfl,hB11,hL11⟩;have HB:=hE0 hB11;clear hB11 hL11 H4;go_wp2
 go_ret
 exact⟨rfl,(HH.out _ HB.out).2⟩
theorem aqh{w1:World}(h:Became 195 g base cap A bs w w1) (hbase:base<=4611686018427387904) (hcap:cap<=16384) (hc:H.cap=cap) (hR:Rt bs H){A1 B1:List Bk}{p n:Option Bk}{xo xs:Nat}
 (hb:H.blks=(A1++p.toList)++⟨xo,xs,true⟩::(n.toList++B1)) (hN:alK A1 p n B1):
 Calls Tryz.prog 190 #[.pointer (some ⟨g,0,none⟩), .agg #[.int .i64 (xo:Int), .int .i64 (xs:Int), .bool true]] w1 fun e w2=>e= .returned .nilIface/\∃out,Became 195 g base cap A out w w2/\Rt out (H.give (A1++p.toList).length)/\
  ∀z∈H.blks,z.used=true->z≠⟨xo,xs,true⟩->∀i,Pay z i->out[i]?=bs[i]?:=by
 obtain⟨A',c',a,tc,k⟩:=h;refine(aku a hbase hcap hc hR hb hN).mono ?_;rintro e w2 ⟨h1,out,h2,h3⟩;exact⟨h1,out,Became.trans a tc k h2,h3⟩
end
section
variable {w w1:World} {g base cap:Nat} {A:Option Addr} {bs:List UInt8} {H:Hp}
theorem aqi (h:Became 195 g base cap A bs w w1) (hR:Rt bs H){A0 B0:List Bk}{xo xs s:Nat}(hb:H.blks=A0++⟨xo,xs,true⟩::B0) (hxo:xo<=16384) (hxs:xs<=16384) (hle:s<=xs) (hlt:xs<s+32):
 Calls Tryz.prog 239 #[.pointer (some ⟨g,0,none⟩), .agg #[.int .i64 (xo:Int), .int .i64 (xs:Int), .bool true], .int .i64 (s:Int)] w1 fun e w2=>e= .returned .nilIface/\∃out,Became 195 g base cap A out w w2/\Rt out (H.cut A0.length s)/\
  Held H bs (H.cut A0.length s) out/\∀z∈H.blks,z.used=true->z.off≠xo->∀i,Pay z i->out[i]?=bs[i]?:=by
 obtain⟨hR2,hH⟩:=hR.uncut hb hlt;have HRH:=hE0 (show Rt bs (H.cut A0.length s)/\Held H bs (H.cut A0.length s) bs/\∀z∈H.blks,z.used=true->z.off≠xo->∀i,Pay z i->bs[i]?=bs[i]? from⟨hR2,hH,fun _ _ _ _ _ _=>rfl⟩);obtain⟨wa,hwa⟩:=nmE (w1.alloc (.cells #[.int .i64 (xo:Int), .int .i64 (xs:Int), .bool true] 112));have na:=anE hwa;have BCa:=aa7 h (.cells #[.int .i64 (xo:Int), .int .i64 (xs:Int), .bool true] 112);rw[hwa]at BCa;obtain⟨wb,hwb⟩:=nmE (wa.alloc (.cells #[.int .i64 ((xo:Int)+(s:Int)), .int .i64 ((xs:Int)-(s:Int)), .bool true] 112));have nb:=anE hwb;have BCb:=aa7 BCa (.cells #[.int .i64 ((xo:Int)+(s:Int)), .int .i64 ((xs:Int)-(s:Int)), .bool true] 112);rw[hwb]at BCb;have HB:=hE0 BCb;have HWA:=hE0 hwa;have HWB:=hE0 hwb;obtain⟨⟨c0,c1,c2⟩,_⟩:=aad na;obtain⟨⟨d0,d1,d2⟩,_⟩:=aad nb;have hlta:=aac na;have hltb:=aac nb;clear hR2 hH hR hwa hwb BCa BCb h na nb hb;go_enter Tryz.func239,Tryz.ntmps239
 go_wp2_with (first | (rw[HWA.out]) | (rw[HWB.out]) | fail)
 go_ret
 exact⟨rfl,bs,HB.out,HRH.out.1,HRH.out.2.1,fun _ _ _ _ _ _=>rfl⟩
theorem aua (h:Became 195 g base cap A bs w w1) (hbase:base<=4611686018427387904) (hcap:cap<=16384) (hc:H.cap=cap) (hR:Rt bs H){A0 B0:List Bk}{xo xs s:Nat}(hb:H.blks=A0++⟨xo,xs,true⟩::B0) (hs:aaG (s:Int)=true) (hle:s+32<=xs):
 Calls Tryz.prog 239 #[.pointer (some ⟨g,0,none⟩), .agg #[.int .i64 (xo:Int), .int .i64 (xs:Int), .bool true], .int .i64 (s:Int)] w1 fun e w2=>e= .returned .nilIface/\∃out,Became 195 g base cap A out w w2/\Rt out (H.cut A0.length s)/\
  Held H bs (H.cut A0.length s) out/\∀z∈H.blks,z.used=true->z.off≠xo->∀i,Pay z i->out[i]?=bs[i]?:=by
 obtain⟨b1,b2,H1,A1,B1,p,n,e1,e2,l1,l2,hc1,hR1,hb1,hN,hcut,hP⟩:=hR.cutting (by omega) hb hs hle;obtain⟨hl,hbd⟩:=hR.bound (by omega);have hx:=hbd ⟨xo,xs,true⟩ (by rw[hb];simp);dsimp only at hx;have hq:=(aab _).1 hs;have HG:=hE0 (fun w3 (h3:Became 195 g base cap A b2 w w3)=>aqh h3 hbase hcap (by omega) hR1 hb1 hN);rw[hcut]at HG;have HP:=hE0 hP;obtain⟨wa,hwa⟩:=nmE (w1.alloc (.cells #[.int .i64 (xo:Int), .int .i64 (xs:Int), .bool true] 112));have na:=anE hwa;have BCa:=aa7 h (.cells #[.int .i64 (xo:Int), .int .i64 (xs:Int), .bool true] 112);rw[hwa]at BCa;obtain⟨wb,hwb⟩:=nmE (wa.alloc (.cells #[.int .i64 ((xo:Int)+(s:Int)), .int .i64 ((xs:Int)-(s:Int)), .bool true] 112));have nb:=anE hwb;have nab:wb.heap[w1.heap.size]?=some (.cells #[.int .i64 (xo:Int), .int .i64 (xs:Int), .bool true] 112 (0,0)):=by rw[<-hwb];exact(heap_alloc_old _ _ (aae na)).trans na
 have BCb:=aa7 BCa (.cells #[.int .i64 ((xo:Int)+(s:Int)), .int .i64 ((xs:Int)-(s:Int)), .bool true] 112);rw[hwb]at BCb;have hsz:w.heap.size<=w1.heap.size:=by obtain⟨_,_,_,ht,_⟩:=h;exact ht.size
 obtain⟨wc,hwc⟩:=nmE (wb.setCell ⟨w1.heap.size,1,none⟩ (.int .i64 (s:Int)));have nac:=heap_setCell_same wb w1.heap.size 1 _ _ (.int .i64 (s:Int)) nab;have nbc:=(Below.heap_setCell wb ⟨w1.heap.size,1,none⟩ (.int .i64 (s:Int)) wa.heap.size (fun e=>by have:=aae na;have e:wa.heap.size=w1.heap.size:=e;omega)).trans nb;have BCc:=aid BCb nab hsz 1 (.int .i64 (s:Int));rw[hwc]at nac nbc BCc;have nac:wc.heap[w1.heap.size]?=some (.cells #[.int .i64 (xo:Int), .int .i64 (s:Int), .bool true] 112 (0,0)):=nac;have h1:=aie BCc hbase hl xo s true (by omega) (by omega) e1;have H1':=hE0 h1;have E2:=hE0 e2;have NBC:=hE0 nbc;have HWA:=hE0 hwa;have HWB:=hE0 hwb;have HWC:=hE0 hwc;have NAC:=hE0 nac;obtain⟨⟨d0,d1,d2⟩,_⟩:=aad nb;obtain⟨⟨u0,u1,u2⟩,_⟩:=aad na;obtain⟨⟨c0,c1,c2⟩,f0,f1,f2⟩:=aad nab;obtain⟨⟨g0,g1,g2⟩,_⟩:=aad nac;have hlta:=aac na;have hltb:=aac nb;have hltc:=aac nab;clear hR hwa hwb hwc BCa BCb BCc h na nb nab nac nbc hb hR1 hb1 hN hcut hP h1 e1 e2 hbd;go_enter Tryz.func239,Tryz.ntmps239
 go_wp2_with (first | (rw[HWA.out]) | (rw[HWB.out]) | (rw[HWC.out]) | fail)
 refine H1'.out.mono ?_;clear d0 d1 d2 u0 u1 u2 c0 c1 c2 f0 f1 f2 g0 g1 g2 hlta hltb hltc;rintro e wd ⟨rfl,hB1,hL1⟩;have nb:=hL1 _ _ NBC.out;have h2:=aie hB1 hbase (by omega) (xo+s) (xs-s) true (by omega) (by omega) E2.out;have en:((xo+s:Nat):Int)=(xo:Int)+(s:Int):=Int.natCast_add _ _;have em:((xs-s:Nat):Int)=(xs:Int)-(s:Int):=Int.ofNat_sub (by omega);rw[en,em]at h2;have H2:=hE0 h2;have EN:=hE0 en;have EM:=hE0 em;have NB:=hE0 nb;clear hB1 hL1 NBC NAC HWA HWB HWC H1' h2 E2 en em;obtain⟨⟨d0,d1,d2⟩,_⟩:=aad nb;have hltb:=aac nb;clear nb;go_wp2_with fail
 refine H2.out.mono ?_;clear d0 d1 d2 hltb;rintro e we ⟨rfl,hB2,hL2⟩;have nb:=hL2 _ _ NB.out;have h3:=HG.out we hB2;rw[EN.out,EM.out]at h3;have H3:=hE0 h3;clear hB2 hL2 NB H2 h3 HG;obtain⟨⟨d0,d1,d2⟩,_⟩:=aad nb;have hltb:=aac nb;clear nb;go_wp2_with fail
 refine H3.out.mono ?_;clear d0 d1 d2 hltb;rintro e wf ⟨rfl,out,hB,hR,hP⟩;have HB:=hE0 hB;have HR:=hE0 hR;have HPP:=hE0 (HP.out out hP);clear hB hR hP H3 HP;go_wp2
 go_ret
 exact⟨rfl,out,HB.out,HR.out,HPP.out.1,HPP.out.2⟩
theorem aqj (h:Became 195 g base cap A bs w w1) (hbase:base<=4611686018427387904) (hcap:cap<=16384) (hc:H.cap=cap) (hR:Rt bs H){A0 B0:List Bk}{xo xs s:Nat}(hb:H.blks=A0++⟨xo,xs,true⟩::B0) (hs:aaG (s:Int)=true) (hle:s<=xs):
 Calls Tryz.prog 239 #[.pointer (some ⟨g,0,none⟩), .agg #[.int .i64 (xo:Int), .int .i64 (xs:Int), .bool true], .int .i64 (s:Int)] w1 fun e w2=>e= .returned .nilIface/\∃out,Became 195 g base cap A out w w2/\Rt out (H.cut A0.length s)/\
  Held H bs (H.cut A0.length s) out/\∀z∈H.blks,z.used=true->z.off≠xo->∀i,Pay z i->out[i]?=bs[i]?:=by
 obtain⟨hl,hbd⟩:=hR.bound (by omega);have hx:=hbd ⟨xo,xs,true⟩ (by rw[hb];simp);dsimp only at hx;by_cases hlt:xs<s+32
 · exact aqi h hR hb (by omega) (by omega) hle hlt
 · exact aua h hbase hcap hc hR hb hs (by omega)
end
theorem ajg{l:List Bk}{e:Nat}(ht:aby 184 l e){j:Nat}{x:Bk}{o:Int}(hx:l[j]?=some x) (ho:(x.off:Int)=o) (hu:x.used=true):(aa3 l o).map (aal l)=some x:=by
 have hxm:=List.mem_of_getElem? hx;obtain⟨i,h1,h2,h3⟩:=amL ht hxm;unfold aa3;rw[<-ho,h1];dsimp only;rw[h3,hu,if_pos rfl,Option.map_some,h3]
theorem akv{l:List Bk}{o:Int}(h:∀(i:Nat) (x:Bk),l[i]?=some x->¬((x.off:Int)=o/\x.used=true)):aa3 l o=none:=by
 unfold aa3
 cases hi:atB o l with
 | none=>rfl
 | some i=>
  obtain⟨x,h1,h2⟩:=abM hi;dsimp only;rw[if_neg];intro hu;rw[aaX h1]at hu;exact h i x h1 ⟨h2,hu⟩
theorem aeP{l:List Bk}{o:Int}{i:Nat}(h:aa3 l o=some i):i<l.length/\((aal l i).off:Int)=o/\(aal l i).used=true:=by
 unfold aa3 at h
 cases hi:atB o l with
 | none=>rw[hi]at h;cases h
 | some k=>
  rw[hi]at h;dsimp only at h;split at h
  · rename_i hu;injection h with h;subst h;obtain⟨x,h1,h2⟩:=abM hi;exact⟨aau h1,by rw[aaX h1];exact h2,hu⟩
  · cases h
theorem ajh{B:Nat}{w w':World}(h:Below B w w'){b j:Nat}{v:Value}(hc:w.cell? ⟨b,j,none⟩=some v) (hb:b<B):w'.cell? ⟨b,j,none⟩=some v:=
 (h.cell (p:=⟨b,j,none⟩) hb).trans hc
theorem asi:av4:=by
 intro w g base cap c A bs H o h hb hcap hc hR ho;obtain⟨l,hl⟩:=nmE H.blks;rw[hl];have hwk:=hR.walk;rw[hl]at hwk;have ht:=(aaj hwk).2.1;have hbl:=(hR.bound (by omega)).1;have hll:=ajN hwk;obtain⟨y,hy⟩:=nmE ((aa3 l o).map (aal l));rw[hy];have HHIT:Hid (∀(j:Nat) (x:Bk),l[j]?=some x->(x.off:Int)=o->x.used=true->some x=y):=fun j x hx ho hu=>by rw[<-hy];exact(ajg ht hx ho hu).symm
 have HMISS:Hid ((∀(i:Nat) (x:Bk),l[i]?=some x->¬((x.off:Int)=o/\x.used=true))->none=y):=fun hm=>by rw[<-hy,akv hm];rfl
 obtain⟨w1,hw1⟩:=nmE (w.alloc (.cells #[.int .i64 0, .int .i64 0, .bool false] 112));have hb1:=abE hw1;have hn1:=anE hw1;have hW:=alv w1 g base cap c A bs _ (h.below hb1) hb hbl hwk;dsimp only[ac0,Option.isSome,Option.getD,aav]at hW;have HW:=hE0 hW;have HW1:=hE0 hw1;have HB1:=hE0 hb1;have HN1:=hE0 hn1;clear hW hw1 hb1 hn1 h hR hwk ht hy hl hb hcap hc;go_enter Tryz.func189,Tryz.ntmps189
 go_wp2_with fail
 rw[HW1.out]
 with_reducible refine HW.out.mono ?_
 rintro e w2 ⟨A2,c2,rfl,ho2,hb2⟩;have hcl:l.length<=c2/\c2<=9223372036854775807:=by
  rcases ho2.2 with⟨h',h0⟩ | ⟨_,_,_,h',_,_,h1,h2,_⟩
  · injection h' with _ _ e;rw[h0,e];omega
  · injection h' with _ _ e;unfold maxLen at h2;omega
 have HR:=hE0 (BkRd.of_own ho2);have HB2:=hE0 (HB1.out.trans (hb2.mono HB1.out.size));have HN2:=hE0 ((hb2.block w.heap.size (aae HN1.out)).trans HN1.out);clear ho2 hb2 HW HN1 HB1;go_wp2
 go_loopw [21] (fun t wr=>∃j:Nat,t= .int .i64 (j:Int)/\j<=l.length/\(∀(i:Nat) (x:Bk),i<j->l[i]?=some x->¬((x.off:Int)=o/\x.used=true))/\Below w2.heap.size w2 wr) (fun t _=>l.length-(intOf t).toNat)
 case atStart=>exact⟨0,rfl,Nat.zero_le _,fun i x hi=>absurd hi (Nat.not_lt_zero _),Below.refl _ _⟩
 case round=>
  obtain⟨j,rfl,hj,hno,hbe⟩:=hrel;have nl:=(hbe.block w.heap.size (aae HN2.out)).trans HN2.out;have hfin:=HB2.out.trans (hbe.mono HB2.out.size);by_cases hlt:j<l.length
  · obtain⟨x,hx⟩:∃x,l[j]?=some x:=⟨l[j],List.getElem?_eq_getElem hlt⟩;obtain⟨b2,q,rfl,hbb,hcl2⟩:=HR.out (by omega);obtain⟨p0,p1,p2⟩:=hcl2 j x hx;have r0:=ajh hbe p0 hbb;have r1:=ajh hbe p1 hbb;have r2:=ajh hbe p2 hbb;have HIT:=hE0 (HHIT.out j x hx);have HNO:Hid (¬((x.off:Int)=o/\x.used=true)->∀(i:Nat) (z:Bk),i<j+1->l[i]?=some z->¬((z.off:Int)=o/\z.used=true)):=fun hx2 i z hi hz=>by
     by_cases hij:i<j
     · exact hno i z hij hz
     · obtain rfl:i=j:=by omega
       rw[hx]at hz;injection hz with hz;rw[<-hz];exact hx2
    obtain⟨xo,xs,xu⟩:=x;dsimp only at p0 p1 p2 r0 r1 r2;obtain⟨w4,hw4⟩:=nmE (wr.alloc (.cells #[.int .i64 (xo:Int), .int .i64 (xs:Int), .bool xu] 112));have hb4:Below w2.heap.size w2 w4:=by rw[<-hw4];exact hbe.alloc hbe.size _
    have n4:=anE hw4;have nl4:w4.heap[w.heap.size]?=some (.cells #[.int .i64 0, .int .i64 0, .bool false] 112 (0,0)):=by rw[<-hw4];exact(heap_alloc_old _ _ (aae nl)).trans nl
    have hf4:Below w.heap.size w w4:=by rw[<-hw4];exact hfin.alloc hfin.size _
    obtain⟨⟨d0,d1,d2⟩,_⟩:=aad n4;have HW4:=hE0 hw4;have HB4:=hE0 hb4;have HF4:=hE0 hf4;have NL4:=hE0 nl4;have HNEQ:=hE0 (show wr.heap.size≠w.heap.size from fun e=>by have:=aae nl;omega);clear hx hbe p0 p1 p2 hb4 n4 hw4 hcl2 hno nl nl4 hf4 hfin;by_cases hxo:(xo:Int)=o
    · have e1:((xo:Int)==o)=true:=by rw[beq_iff_eq];exact hxo
      cases xu with
      | true=>
       obtain rfl:=HIT.out hxo rfl;obtain⟨⟨c0,c1,c2⟩,f0,f1,f2⟩:=aad NL4.out;have hlt4:=aac NL4.out;clear hxo HHIT HMISS HIT HNO;go_wp2_with (first | (rw[HW4.out]) | fail)
       (try simp only[Exit.inBlock,Exit.then])
       refine abP (x:= .nilIface) (g:=w.heap.size) (o:=(xo:Int)) (s:=(xs:Int)) (b:=true) Tryz.results189 ?_ ?_ ?_ ?_ ?_
       · rfl
       · rfl
       · rfl
       · exact aaK NL4.out _ _ _
       · exact⟨rfl,((HF4.out.setCell (Nat.le_refl _) _).setCell (Nat.le_refl _) _).setCell (Nat.le_refl _) _⟩
      | false=>
       have HNO2:=hE0 (HNO.out (fun hh=>by cases hh.2));clear hxo HHIT HMISS HIT HNO;go_wp2_with (first | (rw[HW4.out]) | fail)
       go_roundw
       case rel=>exact⟨j+1,by go_num,by omega,HNO2.out,HB4.out⟩
       case measure=>simp only[intOf];omega
    · have e1:((xo:Int)==o)=false:=by rw[beq_eq_false_iff_ne];exact hxo
      have HNO2:=hE0 (HNO.out (fun hh=>hxo hh.1));clear hxo HHIT HMISS HIT HNO;go_wp2_with (first | (rw[HW4.out]) | fail)
      go_roundw
      case rel=>exact⟨j+1,by go_num,by omega,HNO2.out,HB4.out⟩
      case measure=>simp only[intOf];omega
  · obtain rfl:=HMISS.out (fun i x hx=>hno i x (by have:=aau hx;omega) hx);have NL:=hE0 nl;have HF:=hE0 hfin;obtain⟨⟨c0,c1,c2⟩,f0,f1,f2⟩:=aad NL.out;have hlt4:=aac NL.out;clear hno hbe nl hfin HHIT HMISS;go_wp2
    (try simp only[Exit.inBlock,Exit.then])
    refine abP (x:= .iface 130 (.int .i64 3)) (g:=w.heap.size) (o:=0) (s:=0) (b:=false) Tryz.results189 ?_ ?_ ?_ ?_ ?_
    · rfl
    · rfl
    · rfl
    · exact aaK NL.out _ _ _
    · exact⟨rfl,((HF.out.setCell (Nat.le_refl _) _).setCell (Nat.le_refl _) _).setCell (Nat.le_refl _) _⟩
section
variable {w:World} {g base cap c:Nat} {A:Option Addr} {bs:List UInt8} {H:Hp}
theorem avf:av2:=by
 intro w g base cap c A bs H o h hb hcap hc hR ho;have hU:=asi w g base cap c A bs H o h hb hcap hc hR ho;have BC:=hE0 (show Became 195 g base cap A bs w w from⟨A,c,h,Tch.refl _ _, .inl rfl⟩)
 cases hi:aa3 H.blks o with
 | none=>
  have e:H.giveO o=none:=by unfold Hp.giveO;rw[hi];rfl
  rw[e];rw[hi]at hU;dsimp only[aaE,bkV,Bk.val,Option.isSome,aav,Option.map]at hU;dsimp only[ac1,aav];have HU:=hE0 hU;clear hU hi e h hR;go_enter Tryz.func127,Tryz.ntmps127
  go_wp2_with fail
  with_reducible refine HU.out.mono ?_
  rintro e w2 ⟨rfl,hb2⟩;have HB2:=hE0 (hb2.alloc hb2.size (.cells #[.int .i64 0, .int .i64 0, .bool false] 112));clear hb2 HU;go_wp2
  go_ret
  exact⟨rfl,HB2.out⟩
 | some i=>
  obtain⟨h1,h2,h3⟩:=aeP hi;have e:H.giveO o=some (H.give i):=by unfold Hp.giveO;rw[hi];rfl
  rw[e];rw[hi]at hU;obtain⟨m1,m2⟩:=aff h1;obtain⟨A1,p,n,B1,eA,eB,hN⟩:=alL (H.blks.take i) (H.blks.drop (i+1));obtain⟨x,hx⟩:=nmE (aal H.blks i);rw[hx]at m1 h2 h3;have hm:Option.map (aal H.blks) (some i)=some x:=by rw[<-hx];rfl
  rw[hm]at hU;obtain⟨xo,xs,xu⟩:=x;dsimp only at h2 h3;subst h3;dsimp only[aaE,bkV,Bk.val,Option.isSome,aav]at hU;dsimp only[ac1,aav];have hbk:H.blks=(A1++p.toList)++⟨xo,xs,true⟩::(n.toList++B1):=by rw[<-eA,<-eB];exact m1
  have hlen:(A1++p.toList).length=i:=by rw[<-eA];exact m2
  have HG:=hE0 (fun w2 (hB:Became 195 g base cap A bs w w2)=>aqh hB hb hcap hc hR hbk hN);have HHELD:=hE0 (fun out hP=>hR.gave (by omega) hbk hN (out:=out) hP);rw[hlen]at HG HHELD;have HU:=hE0 hU;clear hU hi e h hR eA eB hN hbk m1 m2 hm hx h2;go_enter Tryz.func127,Tryz.ntmps127
  go_wp2_with fail
  with_reducible refine HU.out.mono ?_
  rintro e w2 ⟨rfl,hb2⟩;obtain⟨w3,hw3⟩:=nmE (w2.alloc (.cells #[.int .i64 (xo:Int), .int .i64 (xs:Int), .bool true] 112));have n3:=anE hw3;have hb3:Below w.heap.size w w3:=by rw[<-hw3];exact hb2.alloc hb2.size _
  have HG3:=hE0 (HG.out w3 (aaB BC.out hb3));obtain⟨⟨d0,d1,d2⟩,_⟩:=aad n3;have hlt3:=aac n3;have HW3:=hE0 hw3;clear hb2 HU HG BC hw3 n3 hb3;go_wp2_with (first | (rw[HW3.out]) | fail)
  refine HG3.out.mono ?_;clear d0 d1 d2 hlt3;rintro e w4 ⟨rfl,out,hB,hR,hP⟩;have HB:=hE0 hB;have HR:=hE0 hR;have HH:=hE0 (HHELD.out out hP);clear hB hR hP HG3 HHELD;go_wp2
  go_ret
  exact⟨rfl,out,HB.out,HR.out,HH.out⟩
theorem avg:av3:=by
 intro w g base cap c A bs H o s h hb hcap hc hR ho hsr;have hC:=ajV w s hsr;constructor
 · intro hs;have e:aaq s= -1:=by simp[aaq,hs]
   rw[e]at hC;dsimp only[aav];have HC:=hE0 hC;clear hC e hs h hR;go_enter Tryz.func191,Tryz.ntmps191
   go_wp2_with fail
   with_reducible refine HC.out.mono ?_
   rintro e w2 ⟨rfl,hb2⟩;have HB2:=hE0 hb2;clear hb2 HC;go_wp2
   go_ret
   exact⟨rfl,HB2.out⟩
 · intro hs;have hq:=(aab _).1 hs;obtain⟨n,rfl⟩:∃n:Nat,s=(n:Int):=⟨s.toNat,by omega⟩;rw[Int.toNat_natCast];obtain⟨k,hk,hk2⟩:=abz (x:=⟨0,n,false⟩) hs;have hk:aaq (n:Int)=(k:Int):=hk;rw[hk]at hC;have HC:=hE0 hC;have BC:=hE0 (show Became 195 g base cap A bs w w from⟨A,c,h,Tch.refl _ _, .inl rfl⟩);have HU:=hE0 (fun w1 (hB:Below w.heap.size w w1)=>asi w1 g base cap c A bs H o (h.below hB) hb hcap hc hR ho)
   cases hi:aa3 H.blks o with
   | none=>
    have e:H.trimO o n=none:=by unfold Hp.trimO;rw[hi]
    rw[e];rw[hi]at HU;dsimp only[aaE,bkV,Bk.val,Option.isSome,aav,Option.map]at HU;dsimp only[ac1,aav];clear hC hi e h hR hk;go_enter Tryz.func191,Tryz.ntmps191
    go_wp2_with fail
    with_reducible refine HC.out.mono ?_
    rintro e w1 ⟨rfl,hb1⟩;have HU1:=hE0 (HU.out w1 hb1);have HB1:=hE0 hb1;clear hb1 HC HU;go_wp2_with fail
    with_reducible refine HU1.out.mono ?_
    rintro e w2 ⟨rfl,hb2⟩;have hb2':=HB1.out.trans (hb2.mono HB1.out.size);have HB2:=hE0 (hb2'.alloc hb2'.size (.cells #[.int .i64 0, .int .i64 0, .bool false] 112));clear hb2 hb2' HU1;go_wp2
    go_ret
    exact⟨rfl,HB2.out⟩
   | some i=>
    obtain⟨h1,h2,h3⟩:=aeP hi;rw[hi]at HU;obtain⟨m1,m2⟩:=aff h1;obtain⟨x,hx⟩:=nmE (aal H.blks i);rw[hx]at m1 h2 h3;have hm:Option.map (aal H.blks) (some i)=some x:=by rw[<-hx];rfl
    rw[hm]at HU;have hxb:=(hR.bound (by omega)).2 x (by rw[m1];simp);have hbl:=(hR.bound (by omega)).1;obtain⟨xo,xs,xu⟩:=x;dsimp only at h2 h3 hxb;subst h3;dsimp only[aaE,bkV,Bk.val,Option.isSome,aav]at HU;by_cases hlt:xs<n
    · have e:H.trimO o n=none:=by unfold Hp.trimO;rw[hi];dsimp only;rw[hx];dsimp only;rw[if_pos hlt]
      rw[e];dsimp only[ac1,aav];have e2:decide ((xs:Int)<(n:Int))=true:=decide_eq_true (by omega);clear hC hi e h hR hk m1 m2 hm hx h2;go_enter Tryz.func191,Tryz.ntmps191
      go_wp2_with fail
      with_reducible refine HC.out.mono ?_
      rintro e w1 ⟨rfl,hb1⟩;have HU1:=hE0 (HU.out w1 hb1);have HB1:=hE0 hb1;clear hb1 HC HU;go_wp2_with fail
      with_reducible refine HU1.out.mono ?_
      rintro e w2 ⟨rfl,hb2⟩;have hb2':=HB1.out.trans (hb2.mono HB1.out.size);have HB2:=hE0 (hb2'.alloc hb2'.size (.cells #[.int .i64 (xo:Int), .int .i64 (xs:Int), .bool true] 112));clear hb2 hb2' HU1;go_wp2
      go_ret
      exact⟨rfl,HB2.out⟩
    · have e:H.trimO o n=some (H.cut i n):=by unfold Hp.trimO;rw[hi];dsimp only;rw[hx];dsimp only;rw[if_neg hlt]
      rw[e];dsimp only[ac1,aav];have HG:=hE0 (fun w2 (hB:Became 195 g base cap A bs w w2)=>aqj hB hb hcap hc hR m1 hs (Nat.le_of_not_lt hlt));rw[m2]at HG;have e2:decide ((xs:Int)<(n:Int))=false:=decide_eq_false (by omega);clear hC hi e h hR hk m1 m2 hm hx h2;go_enter Tryz.func191,Tryz.ntmps191
      go_wp2_with fail
      with_reducible refine HC.out.mono ?_
      rintro e w1 ⟨rfl,hb1⟩;have HU1:=hE0 (HU.out w1 hb1);have HB1:=hE0 hb1;clear hb1 HC HU;go_wp2_with fail
      with_reducible refine HU1.out.mono ?_
      rintro e w2 ⟨rfl,hb2⟩;have hb2':=HB1.out.trans (hb2.mono HB1.out.size);obtain⟨w3,hw3⟩:=nmE (w2.alloc (.cells #[.int .i64 (xo:Int), .int .i64 (xs:Int), .bool true] 112));have n3:=anE hw3;have hb3:Below w.heap.size w w3:=by rw[<-hw3];exact hb2'.alloc hb2'.size _
      have HG3:=hE0 (HG.out w3 (aaB BC.out hb3));obtain⟨⟨d0,d1,d2⟩,_⟩:=aad n3;have hlt3:=aac n3;have HW3:=hE0 hw3;clear hb2 hb2' HU1 HG BC hw3 n3 hb3;go_wp2_with (first | (rw[HW3.out]) | fail)
      refine HG3.out.mono ?_;clear d0 d1 d2 hlt3;rintro e w4 ⟨rfl,out,hB,hR,hH,_⟩;have HB:=hE0 hB;have HR:=hE0 hR;have HH:=hE0 hH;clear hB hR hH HG3;go_wp2
      go_ret
      exact⟨rfl,out,HB.out,HR.out,HH.out⟩
end
section
variable {w w1:World} {g base cap c:Nat} {A:Option Addr} {bs:List UInt8} {H:Hp}
theorem akw (h:Became 195 g base cap A bs w w1) (hbase:base<=4611686018427387904) (hcap:cap<=16384) (hc:H.cap=cap) (hR:Rt bs H){A0 B0:List Bk}{xo xs s:Nat}(hb:H.blks=A0++⟨xo,xs,false⟩::B0) (hs:aaG (s:Int)=true) (hle:s<=xs):
 Calls Tryz.prog 235 #[.pointer (some ⟨g,0,none⟩), .int .i64 (xo:Int), .int .i64 (s:Int)] w1 fun e w2=>e= .returned .nilIface/\∃out,Became 195 g base cap A out w w2/\Rt out ((H.out A0.length).cut A0.length s)/\Held H bs ((H.out A0.length).cut A0.length s) out:=by
 obtain⟨b1,e1,e2,l1,l2,hblk,hR2,hP⟩:=hR.uses (by omega) hb rfl;dsimp only at e1 e2 l2 hblk hR2 hP;obtain⟨b2,hb2⟩:=nmE (aaY b1 ⟨xo,xs,true⟩);rw[hb2]at e2 l2 hR2 hP;have hM:=hR.md (by omega);obtain⟨hl,hbd⟩:=hR.bound (by omega);have hxm:(⟨xo,xs,false⟩:Bk)∈H.blks:=by rw[hb];simp
 have hx:=hbd _ hxm;dsimp only at hx;have hat:frO (aa8 bs (xo:Int))=some ⟨xo,xs,false⟩:=by
  have:=hM.ls.st.at_ _ hxm;dsimp only at this;rw[this];rfl
 have hcut:((H.out A0.length).use A0.length true).cut A0.length s=(H.out A0.length).cut A0.length s:=atV (by show A0.length<H.blks.length;rw[hb];simp);have h1:=avd h hbase hl (xo:Int) (by omega) _ hat;dsimp only[frV]at h1;have H1:=hE0 h1;have HSZ:=hE0 (show w.heap.size<=w1.heap.size by obtain⟨_,_,_,ht,_⟩:=h;exact ht.size);have HO:=hE0 (fun w2 (hB:Became 195 g base cap A bs w w2)=>amT hB hbase hl (xo:Int) (some ⟨xo,xs,false⟩) (fun z hz=>by cases hz;dsimp only;omega) (b2:=b1) e1);have HS:=hE0 (fun w2 (hB:Became 195 g base cap A b1 w w2)=>aie hB hbase (by omega) xo xs true (by omega) (by omega) e2);have HC:=hE0 (fun w2 (hB:Became 195 g base cap A b2 w w2)=>aqj hB hbase hcap (H:=(H.out A0.length).use A0.length true) hc hR2 hblk hs hle);rw[hcut]at HC;have HH:=hE0 (fun out=>hR.usedHeld (by omega) hb (out:=out) (H3:=(H.out A0.length).cut A0.length s) hblk hP);dsimp only[frV]at HO;clear h1 hcut hat hx hxm hbd hM hb2 e1 e2 hblk hR2 hP hR hb h;go_enter Tryz.func235,Tryz.ntmps235
 go_wp2_with fail
 with_reducible refine H1.out.mono ?_
 rintro e w2 ⟨rfl,hB2,hb2⟩;obtain⟨w3,hw3⟩:=nmE (w2.alloc (.cells #[.int .i64 (xo:Int), .int .i64 (xs:Int), .bool false] 112));have n3:=anE hw3;have B3:=aa7 hB2 (.cells #[.int .i64 (xo:Int), .int .i64 (xs:Int), .bool false] 112);rw[hw3]at B3;have HO3:=hE0 (HO.out w3 B3);have HLE:=hE0 (Nat.le_trans HSZ.out hb2.size);obtain⟨⟨d0,d1,d2⟩,_⟩:=aad n3;have hlt3:=aac n3;have N3:=hE0 n3;have HW3:=hE0 hw3;clear hB2 hb2 H1 HO hw3 n3 B3 HSZ;go_wp2_with (first | (rw[HW3.out]) | fail)
 refine HO3.out.mono ?_;clear d0 d1 d2 hlt3;rintro e w4 ⟨rfl,hB4,hL4⟩;have n4:=hL4 _ _ N3.out;obtain⟨w5,hw5⟩:=nmE (w4.setCell ⟨w2.heap.size,2,none⟩ (.bool true));have n5:=heap_setCell_same w4 w2.heap.size 2 _ _ (.bool true) n4;have B5:=aid hB4 n4 HLE.out 2 (.bool true);rw[hw5]at n5 B5;have n5:w5.heap[w2.heap.size]?=some (.cells #[.int .i64 (xo:Int), .int .i64 (xs:Int), .bool true] 112 (0,0)):=n5;have HS5:=hE0 (HS.out w5 B5);obtain⟨⟨c0,c1,c2⟩,f0,f1,f2⟩:=aad n4;have hlt4:=aac n4;obtain⟨⟨d0,d1,d2⟩,_⟩:=aad n5;have hlt5:=aac n5;have N5:=hE0 n5;have HW5:=hE0 hw5;clear hB4 hL4 HO3 HS hw5 n4 n5 B5 N3;go_wp2_with (first | (rw[HW5.out]) | fail)
 refine HS5.out.mono ?_;clear c0 c1 c2 f0 f1 f2 hlt4 d0 d1 d2 hlt5;rintro e w6 ⟨rfl,hB6,hL6⟩;have n6:=hL6 _ _ N5.out;have HC6:=hE0 (HC.out w6 hB6);obtain⟨⟨d0,d1,d2⟩,_⟩:=aad n6;have hlt6:=aac n6;clear hB6 hL6 HS5 HC n6 N5;go_wp2_with fail
 refine HC6.out.mono ?_;clear d0 d1 d2 hlt6;rintro e w7 ⟨rfl,out,hB,hR,_,hP⟩;have HB:=hE0 hB;have HR:=hE0 hR;have HHH:=hE0 (HH.out out hP);clear hB hR hP HC6 HH;go_wp2
 go_ret
 exact⟨rfl,out,HB.out,HR.out,HHH.out⟩
theorem akx (h:Ar w 195 g base cap A c bs) (hbase:base<=4611686018427387904) (hcap:cap<=16384) (hl:bs.length<=cap) (p:Option Bk) (hp:frO (abK bs (bs.length:Int))=p) (s z:Nat) (hz:(p.map Bk.size).getD 0=z) (hzs:z<=s) (hs:s<=16384) (hlt:cap<bs.length+(s-z)):
 Calls Tryz.prog 234 #[.pointer (some ⟨g,0,none⟩), .int .i64 (s:Int)] w fun e w'=>e= .returned (.tuple #[.int .i64 0,aav false 5])/\Below w.heap.size w w':=by
 have HL:=hE0 (abO h);have h1:=adC h hbase (by omega) (bs.length:Int) (by omega) p hp;rw[afN,hz]at h1;obtain⟨fo,hfo⟩:∃fo:Int,(p.map fun z=>(z.off:Int)).getD (bs.length:Int)=fo:=⟨_,rfl⟩;rw[hfo]at h1;have H1:=hE0 h1;have HG:=hE0 (fun w2 (hB:Below w.heap.size w w2)=>ajB (h.below hB) (s-z) hl hcap hlt);have e1:((s-z:Nat):Int)=(s:Int)-(z:Int):=Int.ofNat_sub hzs;rw[e1]at HG;have hfz:z<=16384:=by omega
 dsimp only[aav];clear h1 hfo hz h hp hlt e1;go_enter Tryz.func234,Tryz.ntmps234
 go_wp2_with fail
 with_reducible refine HL.out.mono ?_
 rintro e w1 ⟨rfl,rfl⟩;go_wp2_with fail
 with_reducible refine H1.out.mono ?_
 rintro e w2 ⟨rfl,hb2⟩;obtain⟨w3,hw3⟩:=nmE (w2.alloc (.cells #[.int .i64 fo, .int .i64 (z:Int), .bool false] 112));have n3:=anE hw3;have hb3:Below w.heap.size w w3:=by rw[<-hw3];exact hb2.alloc hb2.size _
 have HG3:=hE0 (HG.out w3 hb3);obtain⟨⟨d0,d1,d2⟩,_⟩:=aad n3;have hlt3:=aac n3;have HW3:=hE0 hw3;have HB3:=hE0 hb3;clear hb2 H1 HG HL hw3 n3 hb3;go_wp2_with (first | (rw[HW3.out]) | fail)
 refine HG3.out.mono ?_;clear d0 d1 d2 hlt3;rintro e w4 ⟨rfl,k,rfl⟩;have HB4:Hid (Below w.heap.size w (w3.drewN k)):=⟨HB3.out.os,HB3.out.tape,HB3.out.output,HB3.out.size,HB3.out.block⟩;clear HG3;go_wp2
 go_ret2
 exact⟨rfl,HB4.out⟩
theorem aky (h:Ar w 195 g base cap A c bs) (hbase:base<=4611686018427387904) (hcap:cap<=16384) (hl:bs.length<=cap) (s z o:Nat) (hzs:z<=s) (hs:s<=16384) (ho:o<=16384) (hlt:bs.length+(s-z)<=cap) (b1 b2:List UInt8) (hl1:b1.length=bs.length+(s-z)) (e2:aek b1 (o:Int) (s:Int) true=some b2)
 (h1:Calls Tryz.prog 237 #[.pointer (some ⟨g,0,none⟩), .int .i64 (bs.length:Int)] w fun e w'=>e= .returned (.agg #[.int .i64 (o:Int), .int .i64 (z:Int), .bool false])/\Below w.heap.size w w')
 (hO:∀w2,Became 195 g base cap A (bs++List.replicate (s-z) 0) w w2->Calls Tryz.prog 238 #[.pointer (some ⟨g,0,none⟩), .agg #[.int .i64 (o:Int), .int .i64 (z:Int), .bool false]] w2 fun e w3=>e= .returned (.tuple #[])/\Became 195 g base cap A b1 w w3/\Loc w2 w3):
 Calls Tryz.prog 234 #[.pointer (some ⟨g,0,none⟩), .int .i64 (s:Int)] w fun e w'=>e= .returned (.tuple #[.int .i64 (o:Int),aav true 5])/\Became 195 g base cap A b2 w w':=by
 have HL:=hE0 (abO h);have H1:=hE0 h1;have BC:=hE0 (show Became 195 g base cap A bs w w from⟨A,c,h,Tch.refl _ _, .inl rfl⟩);have HG:=hE0 (fun w2 (hB:Became 195 g base cap A bs w w2)=>at9 hB (s-z) hl hcap hlt);have HO:=hE0 hO;have hl1':b1.length<=16384:=by omega
 have HS:=hE0 (fun w2 c' A' (a:Ar w2 195 g base cap A' c' b1)=>avW w2 g base cap c' A' b1 (o:Int) (s:Int) true _ a hbase hl1' (by omega) (by omega) e2);dsimp only[apD,aav]at HS;obtain⟨bz,hbz⟩:=nmE (bs++List.replicate (s-z) 0);have e3:((s-z:Nat):Int)=(s:Int)-(z:Int):=Int.ofNat_sub hzs;rw[hbz,e3]at HG;rw[hbz]at HO;have hfz:z<=16384:=by omega
 dsimp only[aav];clear h1 hO h hlt e3 e2 hl1 hl1' hbz;go_enter Tryz.func234,Tryz.ntmps234
 go_wp2_with fail
 with_reducible refine HL.out.mono ?_
 rintro e w1 ⟨rfl,rfl⟩;go_wp2_with fail
 with_reducible refine H1.out.mono ?_
 rintro e w2 ⟨rfl,hb2⟩;obtain⟨w3,hw3⟩:=nmE (w2.alloc (.cells #[.int .i64 (o:Int), .int .i64 (z:Int), .bool false] 112));have n3:=anE hw3;have hb3:Below w.heap.size w w3:=by rw[<-hw3];exact hb2.alloc hb2.size _
 have HG3:=hE0 (HG.out w3 (aaB BC.out hb3));obtain⟨⟨d0,d1,d2⟩,_⟩:=aad n3;have hlt3:=aac n3;have HW3:=hE0 hw3;have N3:=hE0 n3;clear hb2 H1 HG HL hw3 n3 hb3 BC;go_wp2_with (first | (rw[HW3.out]) | fail)
 refine HG3.out.mono ?_;clear d0 d1 d2 hlt3;rintro e w4 ⟨rfl,hB4,hL4⟩;have n4:=hL4 _ _ N3.out;have HO4:=hE0 (HO.out w4 hB4);obtain⟨⟨d0,d1,d2⟩,_⟩:=aad n4;have hlt4:=aac n4;have N4:=hE0 n4;clear hB4 hL4 HG3 HO n4 N3;go_wp2_with fail
 refine HO4.out.mono ?_;clear d0 d1 d2 hlt4;rintro e w5 ⟨rfl,hB5,hL5⟩;have n5:=hL5 _ _ N4.out;obtain⟨w6,hw6⟩:=nmE w5.drew;have n6:w6.heap[w2.heap.size]?=some (.cells #[.int .i64 (o:Int), .int .i64 (z:Int), .bool false] 112 (0,0)):=by rw[<-hw6];exact n5
 have B6:Became 195 g base cap A b1 w w6:=by rw[<-hw6];exact aaB hB5 (Below.refl _ _).drew
 obtain⟨A6,c6,a6,t6,k6⟩:=B6;have hnf:=ajf a6 n6;obtain⟨⟨d0,d1,d2⟩,_⟩:=aad n6;have HS6:=hE0 (HS.out w6 c6 A6 a6);have HFIN:=hE0 (fun w7 (hB:Became 195 g base cap A6 b2 w6 w7)=>Became.trans a6 t6 k6 hB);have HNF:=hE0 hnf;have HW6:=hE0 hw6;clear hB5 hL5 HO4 HS n5 N4 n6 a6 t6 k6 hw6 hnf;go_wp2_with fail
 refine abk (foot g A6) [([0,1,2,3,4,5,6],7)] [8,9] [] (by kernel_rfl) (by kernel_rfl) (by kernel_rfl) (fun _ _ _ _ _ h=>h) ?_;rw[HW6.out];clear HW6;have z0:∀z:LaterS (foot g A6) w6,z.val.cell? ⟨w2.heap.size,0,none⟩=some (.int .i64 (o:Int)):=fun z=>z.ext.cell d0 HNF.out;clear d0 d1 d2;refine ab4 (l:= ?seg1) ?hseg1 ?_
 case hseg1=>simp only[pick,lE1,lE2,lE3];rfl
 repeat (go_big_quiet_step (fail))
 refine wpQuiet_nil ?_;clear z0;refine ack (vs:= #[.pointer (some ⟨g,0,none⟩), .agg #[.int .i64 (o:Int), .int .i64 (s:Int), .bool true]]) Tryz.call217 rfl rfl rfl (R:=fun r w'=>r= .nilIface/\Became 195 g base cap A6 b2 w6 w') (HS6.out.mono ?_) ?_
 · rintro e w' ⟨rfl,hB⟩;have hB':=hB;obtain⟨_,_,_,ht,_⟩:=hB';exact⟨_,rfl,ht,rfl,hB⟩
 rintro r w7 _ ⟨rfl,hB7⟩;refine⟨foot g A6,fun _ _ h=>h,?_⟩;refine ado (l:= ?la4) (t:= []) ?hla4 ?htl4 ?_
 case hla4=>simp only[pick,lE1,lE2,lE3];rfl
 case htl4=>rfl
 simp only[Act.put,lE4,lE5,lE6];repeat (go_big_quiet_step (fail))
 refine wpQuiet_nil ?_;have HB7:=hE0 (HFIN.out w7 hB7);clear hB7 HFIN HS6;go_wp2
 go_ret2
 exact⟨rfl,HB7.out⟩
theorem aji (h:Ar w 195 g base cap A c bs) (hbase:base<=4611686018427387904) (hcap:cap<=16384) (hl:bs.length<=cap) (p:Option Bk) (hp:frO (abK bs (bs.length:Int))=p) (s z o:Nat) (hz:(p.map Bk.size).getD 0=z) (hzs:z<=s) (hs:s<=16384) (ho:o<=16384)
 (hfo:(p.map fun z=>(z.off:Int)).getD (bs.length:Int)=(o:Int)) (hpz:∀y,p=some y->0<y.size/\y.off<=16384) (hlt:bs.length+(s-z)<=cap) (b1 b2:List UInt8) (e1:ap7 (bs++List.replicate (s-z) 0) p=some b1) (hl1:b1.length=bs.length+(s-z)) (e2:aek b1 (o:Int) (s:Int) true=some b2):
 Calls Tryz.prog 234 #[.pointer (some ⟨g,0,none⟩), .int .i64 (s:Int)] w fun e w'=>e= .returned (.tuple #[.int .i64 (o:Int),aav true 5])/\Became 195 g base cap A b2 w w':=by
 have ef:=afN (bs.length:Int) p;rw[hz,hfo]at ef;refine aky h hbase hcap hl s z o hzs hs ho hlt b1 b2 hl1 e2 ?_ fun w2 hB=> ?_
 · rw[<-ef];exact adC h hbase (by omega) (bs.length:Int) (by omega) p hp
 · rw[<-ef];exact amT hB hbase (by rw[List.length_append,List.length_replicate];omega) (bs.length:Int) p hpz e1
end
theorem an0 (w:World) (g base cap c:Nat) (A:Option Addr) (bs:List UInt8) (H:Hp) (n:Nat) (h:Ar w 195 g base cap A c bs) (hb:base<=4611686018427387904) (hcap:cap<=16384) (hc:H.cap=cap) (hR:Rt bs H) (hs:aaG (n:Int)=true) (hi:H.find n=none):
 Calls Tryz.prog 188 #[.pointer (some ⟨g,0,none⟩), .int .i64 (n:Int)] w fun e w'=>aca g base cap A bs H (H.take n) w e w':=by
 obtain⟨hbl,hbd⟩:=hR.bound (by omega);have hq:=(aab _).1 hs;have hF:=findC w g base cap c A bs (n:Int) h hb hbl ⟨by omega,by omega⟩;unfold ake at hF;rw[if_pos hs]at hF;have hfi:=hR.finds hs;rw[hfi]at hF;dsimp only[Option.getD,Option.isSome,aav]at hF;have BC:=hE0 (show Became 195 g base cap A bs w w from⟨A,c,h,Tch.refl _ _, .inl rfl⟩);obtain⟨A0,p,b1,hpu,hfr,htl⟩:=hR.tail (by omega);have hlo:=hR.lost hs hi;have hlen:=hR.lenE;have hle:=hR.len;have hM:=hR.md (by omega);have ht:=hM.tl;rw[b1,aaF]at ht;obtain⟨t1,t2⟩:=ht;obtain⟨o,ho⟩:=nmE (184+abd A0);have hlen2:bs.length=o+abd p.toList:=by
  rw[<-hlen,b1,<-ho];unfold lenB;rw[aeY];omega
 obtain⟨z,hz⟩:=nmE (abd p.toList);have hpz:(p.map Bk.size).getD 0=z:=by rw[<-hz];cases p<;>simp[abd]
 have hpo:∀y,p=some y->y.off=184+abd A0/\0<y.size:=fun y hy=>by
  have hyb:=hbd y (by rw[b1,hy];simp);rw[hy]at t2;obtain⟨t3,_⟩:=t2;exact⟨t3,by omega⟩
 have hfo:(p.map fun z=>(z.off:Int)).getD (bs.length:Int)=(o:Int):=by
  cases p with
  | none=>
   show(bs.length:Int)=(o:Int);rw[hlen2];simp[abd]
  | some y=>
   show(y.off:Int)=(o:Int);rw[(hpo y rfl).1,ho]
 have hzn:z<=n:=by
  rw[<-hz]
  cases p with
  | none=>simp[abd]
  | some y=>
   have:=hlo y (by rw[b1];simp) (hpu y rfl);simp[abd];omega
 rw[hi]at hF;dsimp only[Option.map]at hF;have htz:acq H.blks=z:=htl.trans hz;by_cases hroom:cap<bs.length+(n-z)
 · have et:=ap8 hi (by rw[htz,hlen,hc];omega);rw[et];dsimp only[aca];have HT:=hE0 (fun w2 (hB:Below w.heap.size w w2)=>akx (h.below hB) hb hcap (by omega) p hfr n z hpz hzn (by omega) hroom);dsimp only[aav]at HT ⊢;have HF:=hE0 hF;clear hF hfi hi et hR h hbd hs b1 hpu hfr htl htz hlo hlen hle hM t1 t2 ho hlen2 hz hpz hpo hfo hroom;go_enter Tryz.func188,Tryz.ntmps188
   go_wp2_with fail
   with_reducible refine HF.out.mono ?_
   rintro e w2 ⟨rfl,hb2⟩;have HT2:=hE0 (HT.out w2 hb2);have HB2:=hE0 hb2;clear hb2 HF HT BC;go_wp2_with fail
   refine HT2.out.mono ?_;rintro e w4 ⟨rfl,hb4⟩;have HB4:=hE0 (HB2.out.trans (hb4.mono HB2.out.size));clear hb4 HT2 HB2;go_wp2
   go_ret2
   exact⟨rfl,HB4.out⟩
 · obtain⟨H',et,hb',hl',hc'⟩:=ase hi (by rw[htz,hlen,hc];omega) b1 htl hpo;rw[et];dsimp only[aca];obtain⟨q1,e1,e2,l1,l2,hRt,hP⟩:=hR.adds (by omega) b1 hpu (o:=o) (s:=n) (n:=n-z) ho.symm hs (by omega) (by omega);have hRR:=hRt H' (by rw[hb',ho]) hl' hc';have hHD:Held H bs H' (aaY q1 ⟨o,n,true⟩):=fun z hz hzu y _ _ _ i i1 i2 _=>hP z hz hzu i ⟨i1,i2⟩;rw[ho];obtain⟨b2,hb2⟩:=nmE (aaY q1 ⟨o,n,true⟩);rw[hb2]at e2 hRR hHD;have HT:=hE0 (fun w2 (hB:Below w.heap.size w w2)=>aji (h.below hB) hb hcap (by omega) p hfr n z o hpz hzn (by omega) (by omega) hfo (fun y hy=>⟨(hpo y hy).2,by have:=(hpo y hy).1;omega⟩) (by omega) q1 b2 e1 l1 e2);dsimp only[aav]at HT ⊢;have HF:=hE0 hF;have HRR:=hE0 hRR;have HHD:=hE0 hHD;clear hF hfi hi et hR h hbd hs b1 hpu hfr htl htz hlo hlen hle hM t1 t2 ho hlen2 hz hpz hpo hfo hroom hb' hl' hc' e1 e2 l1 l2 hRt hP hRR hHD hb2;go_enter Tryz.func188,Tryz.ntmps188
   go_wp2_with fail
   with_reducible refine HF.out.mono ?_
   rintro e w2 ⟨rfl,hb2⟩;have HT2:=hE0 (HT.out w2 hb2);have HB2:=hE0 hb2;clear hb2 HF HT BC;go_wp2_with fail
   refine HT2.out.mono ?_;rintro e w4 ⟨rfl,hb4⟩;have HB4:=hE0 (hb4.after HB2.out);clear hb4 HT2 HB2;go_wp2
   go_ret2
   exact⟨rfl,b2,HB4.out,HRR.out,HHD.out⟩
theorem aub:av1:=by
 intro w g base cap c A bs H s h hb hcap hc hR hsr;obtain⟨hbl,hbd⟩:=hR.bound (by omega);have hF:=findC w g base cap c A bs s h hb hbl hsr;constructor
 · intro hs;unfold ake at hF;rw[if_neg (by rw[hs];simp)]at hF;dsimp only[aav]at hF ⊢;have HF:=hE0 hF;clear hF hs h hR hbd;go_enter Tryz.func188,Tryz.ntmps188
   go_wp2_with fail
   with_reducible refine HF.out.mono ?_
   rintro e w2 ⟨rfl,hb2⟩;have HB2:=hE0 hb2;clear hb2 HF;go_wp2
   go_ret2
   exact⟨rfl,HB2.out⟩
 · intro hs;have hq:=(aab _).1 hs;unfold ake at hF;rw[if_pos hs]at hF;obtain⟨n,rfl⟩:∃n:Nat,s=(n:Int):=⟨s.toNat,by omega⟩;rw[Int.toNat_natCast];have hfi:=hR.finds hs;rw[hfi]at hF;dsimp only[Option.getD,Option.isSome,aav]at hF;have BC:=hE0 (show Became 195 g base cap A bs w w from⟨A,c,h,Tch.refl _ _, .inl rfl⟩)
   cases hi:H.find n with
   | some i=>
    obtain⟨i1,i2,i3⟩:=hR.found hs hi;obtain⟨m1,m2⟩:=aff i1;have et:=asd hi;obtain⟨x,hx⟩:=nmE (aal H.blks i);rw[hi]at hF;dsimp only[Option.map]at hF;rw[hx]at m1 i2 i3 et hF;have hxb:=hbd x (by rw[m1];simp);obtain⟨xo,xs,xu⟩:=x;dsimp only at i2 i3 hxb et hF;subst i3;rw[et];dsimp only[aca,aav];have HT:=hE0 (fun w2 (hB:Became 195 g base cap A bs w w2)=>akw hB hb hcap hc hR m1 hs i2);rw[m2]at HT;have HF:=hE0 hF;have e0:((xo:Int)==0)=false:=by rw[beq_eq_false_iff_ne];omega
    clear hF hfi hi et m1 m2 hx hR h hbd hs;go_enter Tryz.func188,Tryz.ntmps188
    go_wp2_with fail
    with_reducible refine HF.out.mono ?_
    rintro e w2 ⟨rfl,hb2⟩;have HT2:=hE0 (HT.out w2 (aaB BC.out hb2));clear hb2 HF HT BC;go_wp2_with fail
    refine HT2.out.mono ?_;rintro e w4 ⟨rfl,out,hB,hR,hH⟩;have HB:=hE0 hB;have HR:=hE0 hR;have HH:=hE0 hH;clear hB hR hH HT2;go_wp2
    go_ret2
    exact⟨rfl,out,HB.out,HR.out,HH.out⟩
   | none=>exact an0 w g base cap c A bs H n h hb hcap hc hR hs hi
open Go.RowKit Go.Extern.Stop Go.Stop Go.Extern
theorem ag2 (v:Value) (w:World):(Extern.ReflectliteType.typeOf #[.iface 130 v]).run Tryz.prog w= .ok (.iface 314 (.agg #[.pointer (some ⟨1,130,none⟩)])) w:=by kernel_rfl
def aqk:Array Value->Sem Value:=Extern.ReflectliteType.method fun t=>do Extern.Rtype.noPackHeld "Comparable" t;pure (.bool (<-typeInfo t).comparable)
theorem aed (w:World):(aqk #[.agg #[.pointer (some ⟨1,130,none⟩)]]).run Tryz.prog w= .ok (.bool true) w:=by kernel_rfl
theorem afO (v:Value) (w:World):(Go.method 476 314 v "Comparable").run Tryz.prog w= .ok (304,v) w:=by kernel_rfl
theorem aql (v:Value) (xT:TypeId) (w:World):(Instr.typeAssert (.iface 130 v) xT 336 true).run Tryz.prog w= .ok (.tuple #[.nilIface, .bool false]) w:=run_typeAssert_lacksB Tryz.underlying336 (by kernel_rfl) (by kernel_rfl) v xT w
theorem ajj (v:Value) (xT:TypeId) (w:World):(Instr.typeAssert (.iface 130 v) xT 321 true).run Tryz.prog w= .ok (.tuple #[.nilIface, .bool false]) w:=run_typeAssert_lacksB Tryz.underlying321 (by kernel_rfl) (by kernel_rfl) v xT w
theorem ahy (v:Value) (xT:TypeId) (w:World):(Instr.typeAssert (.iface 130 v) xT 322 true).run Tryz.prog w= .ok (.tuple #[.nilIface, .bool false]) w:=run_typeAssert_lacksB Tryz.underlying322 (by kernel_rfl) (by kernel_rfl) v xT w
theorem an1 (w:World):(binOp .eql 31 (.iface 130 (.int .i64 1)) (.iface 130 (.int .i64 1))).run Tryz.prog w= .ok (.bool true) w:=by kernel_rfl
theorem an2 (w:World):(binOp .eql 31 (.iface 130 (.int .i64 3)) (.iface 130 (.int .i64 1))).run Tryz.prog w= .ok (.bool false) w:=by kernel_rfl
theorem av5 (w:World):
 Calls Tryz.prog 192 #[.iface 130 (.int .i64 1), .iface 130 (.int .i64 1)] w fun e w'=>e= .returned (.bool true)/\w'=w:=by
 have h8:= @run_callFunc_extern Tryz.prog 240 _ Extern.ReflectliteType.typeOf Tryz.func240 (by kernel_rfl) (by kernel_rfl) (by kernel_rfl) (by kernel_rfl);have h32:= @run_callFunc_extern Tryz.prog 304 _ aqk Tryz.func304 (by kernel_rfl) (by kernel_rfl) (by kernel_rfl) (by kernel_rfl);have tT:=ag2;have cT:=aed;have mR:=afO;have heq:=an1;go_enter Tryz.func192,Tryz.ntmps192
 go_wp2
 refine wp_loop_rounds 1 ?_;rw[rounds_succ];go_wp2
 go_ret
 exact⟨rfl,rfl⟩
theorem avh (w:World):
 Calls Tryz.prog 192 #[.iface 130 (.int .i64 3), .iface 130 (.int .i64 1)] w fun e w'=>e= .returned (.bool false)/\w'=w:=by
 have h8:= @run_callFunc_extern Tryz.prog 240 _ Extern.ReflectliteType.typeOf Tryz.func240 (by kernel_rfl) (by kernel_rfl) (by kernel_rfl) (by kernel_rfl);have h32:= @run_callFunc_extern Tryz.prog 304 _ aqk Tryz.func304 (by kernel_rfl) (by kernel_rfl) (by kernel_rfl) (by kernel_rfl);have tT:=ag2;have cT:=aed;have mR:=afO;have nE:=aql;have uE:=ajj;have vE:=ahy;have heq:=an2;go_enter Tryz.func192,Tryz.ntmps192
 go_wp2
 refine wp_loop_rounds 1 ?_;rw[rounds_succ];go_wp2
 go_ret
 exact⟨rfl,rfl⟩
def ETV:Value:= .iface 314 (.agg #[.pointer (some ⟨1,31,none⟩)])
def ET (w:World):Prop:=w.cell? ⟨0,0,none⟩=some (.iface 314 (.agg #[.pointer (some ⟨1,31,none⟩)]))
theorem avi (t:Value) (w:World):
 Calls Tryz.prog 133 #[.nilIface,t] w fun e w'=>e= .returned (.bool false)/\w'=w:=by
 go_enter Tryz.func133,Tryz.ntmps133
 go_wp2
 go_ret
 exact⟨rfl,rfl⟩
theorem alV (t:Addr) (w:World):(ReflectliteValue.unpack (.iface 217 (.pointer (some t)))).run Tryz.prog w
 = .ok (.agg #[.pointer (some ⟨1,217,none⟩), .pointer (some ⟨w.heap.size,0,none⟩), .int .u64 150]) (w.alloc (.cells #[.pointer (some t)] 217)):=by kernel_rfl
theorem asj (a:Addr) (w:World):(ReflectliteValue.methodAny (ReflectliteValue.valueError "reflectlite.Value.Type" 0) (fun t _ _ _=>ReflectliteType.toType t) #[.agg #[.pointer (some ⟨1,217,none⟩), .pointer (some a), .int .u64 150]]).run Tryz.prog w
 = .ok (.iface 314 (.agg #[.pointer (some ⟨1,217,none⟩)])) w:=by kernel_rfl
theorem ajk (h:Value) (w:World):(Go.method 476 314 (.agg #[h]) "Kind").run Tryz.prog w= .ok (295,h) w:=by kernel_rfl
theorem ask (w:World):((ReflectliteType.abiMethod fun t=>(fun a:Nat=>Value.int IntKind.u8 (a:Int))<$>Rtype.kind t) #[.pointer (some ⟨1,217,none⟩)]).run Tryz.prog w= .ok (.int .u8 22) w:=by kernel_rfl
theorem asl (w:World):((ReflectliteType.abiMethod fun t=>(fun a:Nat=>Value.int IntKind.u8 (a:Int))<$>Rtype.kind t) #[.pointer (some ⟨1,130,none⟩)]).run Tryz.prog w= .ok (.int .u8 2) w:=by kernel_rfl
theorem as7 (z:Sem Value) (f:TypeId->Addr->Nat->Nat->Sem Value) (v:Value):
 ReflectliteValue.method z f #[v]=(do match<-ReflectliteValue.parts v with | none=>z | some (t,a,fl)=>f t a fl (fl%32)):=rfl
theorem akz (a:Addr) (w:World):(ReflectliteValue.parts (.agg #[.pointer (some ⟨1,217,none⟩), .pointer (some a), .int .u64 150])).run Tryz.prog w= .ok (some (217,a,150)) w:=by kernel_rfl
theorem aqm (a p:Addr) (W:World) (ha:W.cell? a=some (.pointer (some p))):
 (ReflectliteValue.method (ReflectliteValue.valueError "reflectlite.Value.IsNil" 0) ReflectliteValue.isNil #[.agg #[.pointer (some ⟨1,217,none⟩), .pointer (some a), .int .u64 150]]).run Tryz.prog W= .ok (.bool false) W:=by
 rw[as7];simp only[Sem.run_bind,akz,Result.andThen];simp[ReflectliteValue.isNil,loadVar,isAgg,underlying,Tryz.underlying217,ha,Result.andThen]
theorem ajl (h:Value) (w:World):(Go.method 476 314 (.agg #[h]) "Elem").run Tryz.prog w= .ok (305, .agg #[h]) w:=by kernel_rfl
theorem aeQ (h:Value) (w:World):(Go.method 476 314 (.agg #[h]) "Implements").run Tryz.prog w= .ok (306, .agg #[h]) w:=by kernel_rfl
theorem aee (h:Value) (w:World):(Go.method 476 314 (.agg #[h]) "AssignableTo").run Tryz.prog w= .ok (303, .agg #[h]) w:=by kernel_rfl
theorem asm (w:World):(ReflectliteType.method ReflectliteType.elem #[.agg #[.pointer (some ⟨1,217,none⟩)]]).run Tryz.prog w= .ok (.iface 314 (.agg #[.pointer (some ⟨1,130,none⟩)])) w:=by kernel_rfl
theorem asn (w:World):(ReflectliteType.relation "Implements" ReflectliteType.implements_ #[.agg #[.pointer (some ⟨1,130,none⟩)], .iface 314 (.agg #[.pointer (some ⟨1,31,none⟩)])]).run Tryz.prog w= .ok (.bool true) w:=by kernel_rfl
theorem an3 (v:Value) (w:World):(ReflectliteType.typeOf #[.iface 130 v]).run Tryz.prog w= .ok (.iface 314 (.agg #[.pointer (some ⟨1,130,none⟩)])) w:=by kernel_rfl
theorem an4 (w:World):(ReflectliteType.relation "AssignableTo" ReflectliteType.assignableTo #[.agg #[.pointer (some ⟨1,130,none⟩)], .iface 314 (.agg #[.pointer (some ⟨1,130,none⟩)])]).run Tryz.prog w= .ok (.bool true) w:=by kernel_rfl
theorem alW (k:Int) (w:World):(ReflectliteValue.unpack (.iface 130 (.int .i64 k))).run Tryz.prog w
 = .ok (.agg #[.pointer (some ⟨1,130,none⟩), .pointer (some ⟨w.heap.size,0,none⟩), .int .u64 130]) (w.alloc (.cells #[.int .i64 k] 130)):=by kernel_rfl
theorem an5 (w:World):(Rtype.elem? 217).run Tryz.prog w= .ok (some 130) w:=by kernel_rfl
theorem avj (p:Addr) (w:World):(ReflectliteValue.mk 130 p ReflectliteValue.flagAddr).run Tryz.prog w= .ok (.agg #[.pointer (some ⟨1,130,none⟩), .pointer (some p), .int .u64 386]) w:=by kernel_rfl
theorem aqn (a p:Addr) (W:World) (ha:W.cell? a=some (.pointer (some p))):
 (ReflectliteValue.method (ReflectliteValue.valueError "reflectlite.Value.Elem" 0) ReflectliteValue.elem #[.agg #[.pointer (some ⟨1,217,none⟩), .pointer (some a), .int .u64 150]]).run Tryz.prog W
  = .ok (.agg #[.pointer (some ⟨1,130,none⟩), .pointer (some p), .int .u64 386]) W:=by
 rw[as7];simp only[Sem.run_bind,akz,Result.andThen];simp[ReflectliteValue.elem,loadVar,isAgg,underlying,Tryz.underlying217,ha,Result.andThen,an5,avj]
theorem avk (v x:Value):ReflectliteValue.set #[v,x]=(do
 let (some (dst,a,fl),some (src,b,_)):=(<-ReflectliteValue.parts v,<-ReflectliteValue.parts x)
  | unsupported (.noEntry "extern/(internal/reflectlite.Value).Set.zeroValue")
 if fl/ReflectliteValue.flagAddr%2==0 then unsupported (.noEntry "extern/(internal/reflectlite.Value).Set.unaddressable")
 let val<-loadVar src b
 if<-Rtype.directlyAssignable dst src then storeVar dst a val
 else if<-Rtype.implements dst src then
  if (<-Rtype.kind src)==20 then
   match val with
   | .nilIface=>unsupported (.noEntry "extern/reflectlite: a nil value of one interface type handed on as a value of another")
   | _=>storeVar dst a val
  else storeVar dst a (.iface src val)
 else panicString ("reflectlite.Set: value of type " ++(<-Rtype.spelt src)++ " is not assignable to type " ++(<-Rtype.spelt dst))
 pure (.tuple #[])):=rfl
theorem an6 (a:Addr) (w:World):(ReflectliteValue.parts (.agg #[.pointer (some ⟨1,130,none⟩), .pointer (some a), .int .u64 386])).run Tryz.prog w= .ok (some (130,a,386)) w:=by kernel_rfl
theorem aqo (a:Addr) (w:World):(ReflectliteValue.parts (.agg #[.pointer (some ⟨1,130,none⟩), .pointer (some a), .int .u64 130])).run Tryz.prog w= .ok (some (130,a,130)) w:=by kernel_rfl
theorem an7 (w:World):(Rtype.directlyAssignable 130 130).run Tryz.prog w= .ok true w:=by kernel_rfl
theorem auc (ta b:Addr) (k:Int) (old:Value) (W:World) (hb:W.cell? b=some (.int .i64 k)) (ht:W.cell? ta=some old) (hf:W.frozen? ta=false):
 (ReflectliteValue.set #[.agg #[.pointer (some ⟨1,130,none⟩), .pointer (some ta), .int .u64 386], .agg #[.pointer (some ⟨1,130,none⟩), .pointer (some b), .int .u64 130]]).run Tryz.prog W
  = .ok (.tuple #[]) (W.setCell ta (.int .i64 k)):=by
 rw[avk];simp only[Sem.run_bind,an6,aqo,Result.andThen];simp[ReflectliteValue.flagAddr,loadVar,isAgg,underlying,Tryz.underlying130,hb,Result.andThen,an7,storeVar,Value.cells,storeCells,Addr.add];rw[run_store Tryz.prog W ta _ _ (by rfl)];simp[ht,hf]
theorem avl (k:Int) (t:Addr) (old:Value) (w:World) (hg:ET w) (ht0:w.cell? t=some old) (hf0:w.frozen? t=false):
 Calls Tryz.prog 133 #[.iface 130 (.int .i64 k), .iface 217 (.pointer (some t))] w fun ev w'=>ev= .returned (.bool true)/\w'=((((w.alloc (.cells #[.pointer (some t)] 217)).alloc (.cells #[.pointer (some ⟨1,217,none⟩), .pointer (some ⟨w.heap.size,0,none⟩), .int .u64 150] 267)).alloc (.cells #[.pointer (some ⟨1,217,none⟩), .pointer (some ⟨w.heap.size,0,none⟩), .int .u64 150] 267)).alloc (.cells #[.int .i64 k] 130)).setCell t (.int .i64 k):=by
 unfold ET at hg;have h6:= @run_callFunc_extern Tryz.prog 195 _ (fun args=>ReflectliteValue.unpack (args.getD 0 (.tuple #[]))) Tryz.func195 (by kernel_rfl) (by kernel_rfl) (by kernel_rfl) (by kernel_rfl);have h7:= @run_callFunc_extern Tryz.prog 196 _ (ReflectliteValue.methodAny (ReflectliteValue.valueError "reflectlite.Value.Type" 0) (fun t _ _ _=>ReflectliteType.toType t)) Tryz.func196 (by kernel_rfl) (by kernel_rfl) (by kernel_rfl) (by kernel_rfl);have h8:= @run_callFunc_extern Tryz.prog 197 _ (ReflectliteValue.method (ReflectliteValue.valueError "reflectlite.Value.IsNil" 0) ReflectliteValue.isNil) Tryz.func197 (by kernel_rfl) (by kernel_rfl) (by kernel_rfl) (by kernel_rfl);have h27:= @run_callFunc_extern Tryz.prog 295 _ (ReflectliteType.abiMethod fun t=>do pure (.int .u8 (<-Rtype.kind t))) Tryz.func295 (by kernel_rfl) (by kernel_rfl) (by kernel_rfl) (by kernel_rfl);have h37:= @run_callFunc_extern Tryz.prog 305 _ (ReflectliteType.method ReflectliteType.elem) Tryz.func305 (by kernel_rfl) (by kernel_rfl) (by kernel_rfl) (by kernel_rfl);have h38:= @run_callFunc_extern Tryz.prog 306 _ (ReflectliteType.relation "Implements" ReflectliteType.implements_) Tryz.func306 (by kernel_rfl) (by kernel_rfl) (by kernel_rfl) (by kernel_rfl);have h10:= @run_callFunc_extern Tryz.prog 240 _ ReflectliteType.typeOf Tryz.func240 (by kernel_rfl) (by kernel_rfl) (by kernel_rfl) (by kernel_rfl);have h35:= @run_callFunc_extern Tryz.prog 303 _ (ReflectliteType.relation "AssignableTo" ReflectliteType.assignableTo) Tryz.func303 (by kernel_rfl) (by kernel_rfl) (by kernel_rfl) (by kernel_rfl);have h11:= @run_callFunc_extern Tryz.prog 246 _ (ReflectliteValue.method (ReflectliteValue.valueError "reflectlite.Value.Elem" 0) ReflectliteValue.elem) Tryz.func246 (by kernel_rfl) (by kernel_rfl) (by kernel_rfl) (by kernel_rfl);have h12:= @run_callFunc_extern Tryz.prog 247 _ ReflectliteValue.set Tryz.func247 (by kernel_rfl) (by kernel_rfl) (by kernel_rfl) (by kernel_rfl);have tO:=an3;have mA:=aee;have a25:=an4;have v25:=alW;have f6:=alV;have f7:=asj;have mK:=ajk;have mE:=ajl;have mI:=aeQ;have k27:=ask;have k25:=asl;have e27:=asm;have i25:=asn;have n8:=aqm ⟨w.heap.size,0,none⟩ t ((w.alloc (.cells #[.pointer (some t)] 217)).alloc (.cells #[.pointer (some ⟨1,217,none⟩), .pointer (some ⟨w.heap.size,0,none⟩), .int .u64 150] 267)) (by simp);have hlt:0<w.heap.size:=by
  rcases Nat.eq_zero_or_pos w.heap.size with h0 | h
  · simp[World.cell?,h0]at hg
  · exact h
 have hg2:((w.alloc (.cells #[.pointer (some t)] 217)).alloc (.cells #[.pointer (some ⟨1,217,none⟩), .pointer (some ⟨w.heap.size,0,none⟩), .int .u64 150] 267)).cell? ⟨0,0,none⟩=some (.iface 314 (.agg #[.pointer (some ⟨1,31,none⟩)])):=by
  rw[World.cell?_alloc_lt _ _ ⟨0,0,none⟩ (by simp),World.cell?_alloc_lt _ _ ⟨0,0,none⟩ hlt];exact hg
 have htl:t.block<w.heap.size:=by
  rcases Nat.lt_or_ge t.block w.heap.size with h | h
  · exact h
  · simp[World.cell?,Array.getElem?_eq_none h]at ht0
 have el:=aqn ⟨w.heap.size,0,none⟩ t (((w.alloc (.cells #[.pointer (some t)] 217)).alloc (.cells #[.pointer (some ⟨1,217,none⟩), .pointer (some ⟨w.heap.size,0,none⟩), .int .u64 150] 267)).alloc (.cells #[.pointer (some ⟨1,217,none⟩), .pointer (some ⟨w.heap.size,0,none⟩), .int .u64 150] 267)) (by rw[World.cell?_alloc_lt _ _ ⟨w.heap.size,0,none⟩ (by simp;omega)];simp);have st:=auc t ⟨w.heap.size+1+1+1,0,none⟩ k old ((((w.alloc (.cells #[.pointer (some t)] 217)).alloc (.cells #[.pointer (some ⟨1,217,none⟩), .pointer (some ⟨w.heap.size,0,none⟩), .int .u64 150] 267)).alloc (.cells #[.pointer (some ⟨1,217,none⟩), .pointer (some ⟨w.heap.size,0,none⟩), .int .u64 150] 267)).alloc (.cells #[.int .i64 k] 130))
  (by rw[World.cell?_alloc_at _ _ _ _ (by simp)];rfl)
  (by rw[World.cell?_alloc_lt _ _ t (by simp;omega),World.cell?_alloc_lt _ _ t (by simp;omega),World.cell?_alloc_lt _ _ t (by simp;omega),World.cell?_alloc_lt _ _ t htl];exact ht0)
  (by rw[World.frozen?_alloc_old _ _ t (by simp;omega),World.frozen?_alloc_old _ _ t (by simp;omega),World.frozen?_alloc_old _ _ t (by simp;omega),World.frozen?_alloc_old _ _ t (Nat.ne_of_lt htl)];exact hf0)
 go_enter Tryz.func133,Tryz.ntmps133
 go_wp2
 refine wp_loop_rounds 1 ?_;rw[rounds_succ];go_wp2
 go_ret
 exact⟨rfl,rfl⟩
end Go.Proofs.YtncadccbepjekaaGreatDoor
