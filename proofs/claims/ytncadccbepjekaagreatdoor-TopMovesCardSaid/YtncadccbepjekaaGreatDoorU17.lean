/- Texts of mine, joined. -/
import Derived.Test.YtncadccbepjekaaGreatDoorU13
import Derived.Test.YtncadccbepjekaaGreatDoorU15
namespace Go.Proofs.YtncadccbepjekaaGreatDoor
theorem acB{bs:List UInt8}{x:Bk}(hs:aaB (x.size:Int)=true) (h:x.off+x.size<=bs.length) (i:Nat) (hi:(i<x.off\/x.off+8<=i)/\(i<x.off+x.size-8\/x.off+x.size<=i)):(aaU bs x)[i]?=bs[i]?:=by
 have hs:=(aab _).1 hs;have e:=aah bs x.off (aoC x) (by omega);unfold aaU;rw[ad0 _ _ _ _ (by omega) (by omega),ad0 _ _ _ _ (by omega) (by omega)]
section
variable {bs:List UInt8} {P Q:List Bk} {L:Nat->List Nat}
theorem Lists.set (h:Lists bs P L){x:Bk}(x1:184<=x.off) (x2:x.off%16=8) (x3:x.off+x.size<=bs.length) (hs:aaB (x.size:Int)=true)
 (hQ:∀y∈Q,y=x\/(y∈P/\(y.off+y.size<=x.off\/x.off+x.size<=y.off)))
 (hL:∀c,c<22->∀o∈L c,∃y∈Q,y∈P/\y.off=o/\(y.off+y.size<=x.off\/x.off+x.size<=y.off)):Lists (aaU bs x) Q L:=by
 have hl:=aa8 hs x3;have hlen:=h.len;have sz:=(aab _).1 hs;refine⟨by omega,by rw[hl];exact h.small,⟨fun y hy=> ?_,fun y hy z hz=> ?_⟩,fun c hc=> ?_,fun c hc=> ?_,fun c hc o ho=> ?_,fun c hc=> ?_,h.nodup⟩
 · rcases hQ y hy with rfl | ⟨hy,hd⟩
   · exact aoX x1 x2 x3 hs
   · exact ajP hs x3 (h.st.at_ y hy) hd
 · rcases hQ y hy with rfl | ⟨hy,hd⟩
   · rcases hQ z hz with rfl | ⟨hz,hd⟩
     · exact .inl rfl
     · exact .inr hd.symm
   · rcases hQ z hz with rfl | ⟨hz,_⟩
     · exact .inr hd
     · exact h.st.apart y hy z hz
 · rw[aaS hs x3 _ (by omega)];exact h.head c hc
 · rw[aaS hs x3 _ (by omega)];exact h.bit c hc
 · obtain⟨y,hy,hyP,e,hd⟩:=hL c hc o ho;obtain⟨z,hz,ez,hu,hcl⟩:=h.mem c hc o ho;have:=h.st.uniq hyP hz (by omega);subst this;exact⟨y,hy,e,hu,hcl⟩
 · refine abX (L c) 0 0 (fun o ho=> ?_) (h.links c hc);obtain⟨y,hy,hyP,e,hd⟩:=hL c hc o ho;have hf:=h.st.facts hyP;exact⟨aaS hs x3 _ (by omega),aaS hs x3 _ (by omega)⟩
theorem agl (bs:List UInt8) (n i:Nat) (h:i<bs.length):(bs++List.replicate n (0:UInt8))[i]?=bs[i]?:=List.getElem?_append_left h
theorem aca (bs:List UInt8) (n p:Nat) (h:p+8<=bs.length):aaf (bs++List.replicate n 0) p=aaf bs p:=aaL _ _ _ fun i _ h2=>agl bs n i (by omega)
theorem Lists.more (h:Lists bs P L) (n:Nat) (hn:bs.length+n<=16384):Lists (bs++List.replicate n 0) P L:=by
 have hlen:=h.len;have hl:(bs++List.replicate n (0:UInt8)).length=bs.length+n:=by rw[List.length_append,List.length_replicate]
 refine⟨by omega,by omega,⟨fun y hy=> ?_,h.st.apart⟩,fun c hc=> ?_,fun c hc=> ?_,h.mem,fun c hc=> ?_,h.nodup⟩
 · obtain⟨_,g1,g2,g3,g4,g5,g6⟩:=aaw (h.st.at_ y hy);have q:=(aab _).1 g4;refine alc g1 g2 (by omega) ?_ ?_
   · rw[aca _ _ _ (by omega)];exact g5
   · rw[aca _ _ _ (by omega),aca _ _ _ (by omega)];exact g6
 · rw[aca _ _ _ (by omega)];exact h.head c hc
 · rw[aca _ _ _ (by omega)];exact h.bit c hc
 · refine abX (L c) 0 0 (fun o ho=> ?_) (h.links c hc);obtain⟨_,y,hyP,e,_⟩:=h.member hc ho;have hf:=h.st.facts hyP;exact⟨aca _ _ _ (by omega),aca _ _ _ (by omega)⟩
end
theorem aif{bs:List UInt8}{p:Nat}{c:Int}(h:aap bs p c=true):184<=p/\p+32<=bs.length:=by
 unfold aap at h
 cases hg:aa6 bs (p:Int)with
 | none=>rw[hg]at h;simp at h
 | some y=>
  obtain⟨r0,r1,_,r3,r4,_⟩:=aaw hg;have q:=(aab _).1 r4;omega
theorem aig{bs out:List UInt8}{o:Int}(hl:184<=bs.length) (h:aeC bs o=some out):aaf out 0/4194304=aaf bs 0/4194304:=by
 unfold aeC at h;by_cases hf:aaX bs o<0
 · rw[if_pos hf]at h;cases h
 rw[if_neg hf]at h;have hb:aaX bs o<22:=by
  unfold aaX;split
  · rename_i x _;have:=acy (x.size:Int);split<;>omega
  · omega
 obtain⟨c,hcc⟩:=nmE ((aaX bs o).toNat);have hc22:c<22:=by omega
 rw[hcc]at h;dsimp only at h;obtain⟨n,hn⟩:=nmE (aaf bs (o.toNat+8));obtain⟨p,hp⟩:=nmE (aaf bs (o.toNat+16));rw[hn,hp]at h;split at h
 · cases h
 split at h
 · cases h
 rename_i hp2;split at h
 · cases h
 rename_i hn2;injection h with h;have hpm:p≠0->184<=p/\p+32<=bs.length:=fun e=>by
  cases hm:aap bs p (c:Int)with
  | true=>exact aif hm
  | false=>exact absurd ⟨e, .inl hm⟩ hp2
 have hnm:n≠0->184<=n/\n+32<=bs.length:=fun e=>by
  cases hm:aap bs n (c:Int)with
  | true=>exact aif hm
  | false=>exact absurd ⟨e, .inl hm⟩ hn2
 obtain⟨b1,hb1⟩:∃b1,(if p=0 then lyN bs (8+8*c) n else lyN bs (p+8) n)=b1:=⟨_,rfl⟩;have f1:b1.length=bs.length/\aaf b1 0=aaf bs 0:=by
  rw[<-hb1];by_cases e:p=0
  · rw[if_pos e];exact⟨aah _ _ _ (by omega),aax _ _ _ _ (by omega) (by omega)⟩
  · have:=hpm e;rw[if_neg e];exact⟨aah _ _ _ (by omega),aax _ _ _ _ (by omega) (by omega)⟩
 rw[hb1]at h;obtain⟨b2,hb2⟩:=nmE ((if n≠0 then lyN b1 (n+16) p else b1));have f2:b2.length=bs.length/\aaf b2 0=aaf bs 0:=by
  rw[<-hb2];by_cases e:n≠0
  · have:=hnm e;rw[if_pos e];exact⟨(aah _ _ _ (by omega)).trans f1.1,(aax _ _ _ _ (by omega) (by omega)).trans f1.2⟩
  · rw[if_neg e];exact f1
 rw[hb2]at h;obtain⟨b3,hb3⟩:∃b3,(if p≠0/\(aaf bs (8+8*c):Int)=o then lyN b2 (8+8*c) n else b2)=b3:=⟨_,rfl⟩;have f3:b3.length=bs.length/\aaf b3 0=aaf bs 0:=by
  rw[<-hb3];by_cases e:p≠0/\(aaf bs (8+8*c):Int)=o
  · rw[if_pos e];exact⟨(aah _ _ _ (by omega)).trans f2.1,(aax _ _ _ _ (by omega) (by omega)).trans f2.2⟩
  · rw[if_neg e];exact f2
 rw[hb3]at h;rw[<-h,ahX _ c hc22 (by omega),f3.2]
theorem amS:∀(l:List Bk) (o e:Nat),abA o l e->l.length*32+o<=e
 | [],o,e,h=>by have:o=e:=h;simp;omega
 | x::r,o,e,⟨_,b,c⟩=>by
  have q:=(aab _).1 b;have:=amS r _ e c;rw[List.length_cons];omega
theorem alC{l:List Bk}{o e:Nat}(ht:abA o l e) (c:Nat):(aa2 l c).Nodup:=by
 unfold aa2;have h:=aeD l o e ht;refine List.pairwise_map.2 (List.Pairwise.filter _ (List.pairwise_reverse.2 (h.imp fun h=>h.symm)))
theorem aer{bs:List UInt8}{c:Nat}:∀(k last p:Nat) (l:List Nat),ael bs c k last p=some l->aoW bs last l 0/\l.headD 0=p
 | k,last,p,l,h=>by
  unfold ael at h;by_cases hp:p=0
  · rw[if_pos hp]at h;injection h with h;subst h;exact⟨trivial,hp.symm⟩
  · rw[if_neg hp]at h
    cases k with
    | zero=>cases h
    | succ k=>
     dsimp only at h;split at h
     · rename_i hc
       cases hr:ael bs c k p (aaf bs (p+8))with
       | none=>rw[hr]at h;cases h
       | some r=>
        rw[hr]at h;injection h with h;subst h;obtain⟨i1,i2⟩:=aer k _ _ r hr;exact⟨⟨hc.2,i2.symm,i1⟩,rfl⟩
     · cases h
structure Md (bs:List UInt8) (H:Hp):Prop where
 tl:abA 184 H.blks bs.length
 ls:Lists bs H.blks H.lists
 hi:aaf bs 0<4194304
 len:bs.length<=H.cap
theorem Rt.md{bs:List UInt8}{H:Hp}(h:Rt bs H) (hc:H.cap<=16384):Md bs H:=by
 obtain⟨w1,w2,w3⟩:=aaj h.walk;obtain⟨n1,_,_⟩:=h.nfree;have hl:=h.len;have hk:=h.chk;unfold abY at hk;rw[h.walk]at hk;simp only[Bool.and_eq_true]at hk;have h0:aaf bs 0<4194304:=by
  have e0:ans bs 0=aaf bs 0:=by unfold ans word?;rw[if_pos (by omega)];rfl
  rw[<-e0];exact of_decide_eq_true hk.1
 refine⟨w2,⟨w1,by omega,⟨w3,aaG _ _ _ w2⟩,fun c hc=> ?_,fun c hc=> ?_,fun c hc o ho=>abC ((n1 c hc).2 o ho),fun c hc=> ?_,fun c hc=>(n1 c hc).1⟩,h0,hl⟩
 · exact(aer _ _ _ _ (adw (h.all_ c hc)).2).2.symm
 · obtain⟨b1,b2⟩:=adw (h.all_ c hc);have e:=(aer _ _ _ _ b2).2;rw[b1,<-e]
   cases hL:H.lists c with
   | nil=>rfl
   | cons o r=>
    obtain⟨x,hx,ex,_⟩:=abC ((n1 c hc).2 o (by rw[hL];simp));have:=((aak _ _ _ w2).2 x hx).1;have:o≠0:=by omega
    simp[this]
 · exact(aer _ _ _ _ (adw (h.all_ c hc)).2).1
theorem akm{bs:List UInt8}{l:List Bk}{L:Nat->List Nat}(h:Lists bs l L) (hl:∀c,c<22->(L c).length<=1024) (hn:∀c,c<22->(L c).length=(aa2 l c).length):∀(k c:Nat) (fr:Int),c+k=22->agb bs l k c fr=(fr-afu l k c==0)
 | 0,c,fr,_=>by unfold agb afu;simp
 | k+1,c,fr,hc=>by
  have ha:=h.all (c:=c) (by omega) (hl c (by omega));have hok:(L c).all (okO l (L c))=true:=by
   rw[List.all_eq_true];intro o ho;unfold okO acx;rw[Bool.and_eq_true];constructor
   · rw[List.any_eq_true];obtain⟨x,hx,e,hu,_⟩:=h.mem c (by omega) o ho;exact⟨x,hx,by simp[e,hu]⟩
   · rw[List.Nodup.count (h.nodup c (by omega)),if_pos ho];rfl
  unfold agb;rw[ha];dsimp only;rw[hok,Bool.true_and,akm h hl hn k (c+1) _ (by omega)];have e:fr-(afu l (k+1) c:Nat)=fr-((L c).length:Int)-(afu l k (c+1):Nat):=by
   have:afu l (k+1) c=(aa2 l c).length+afu l k (c+1):=rfl;have:=hn c (by omega);omega
  rw[e]
theorem Md.sub{bs:List UInt8}{H:Hp}(h:Md bs H){c:Nat}(hc:c<22):∀o∈H.lists c,o∈aa2 H.blks c:=fun o ho=>by
 obtain⟨x,hx,e,hu,hcl⟩:=h.ls.mem c hc o ho;rw[<-e];exact abe hx hu hcl
theorem Md.small{bs:List UInt8}{H:Hp}(h:Md bs H){c:Nat}(hc:c<22):(H.lists c).length<=1024:=by
 have h1:=afe (h.ls.nodup c hc) (h.sub hc);have h2:=aeY H.blks c;have h3:=amS _ _ _ h.tl;have h4:=h.ls.small;omega
theorem Md.rt{bs:List UInt8}{H:Hp}(h:Md bs H) (hF:∀c,c<22->∀o∈aa2 H.blks c,o∈H.lists c) (hn:aex H.blks=true):Rt bs H:=by
 have hw:abG bs=some H.blks:=adb h.tl h.ls.st.at_;have hlen:=h.ls.len;refine⟨hw,fun c hc=>h.ls.all hc (h.small hc),?_,h.len⟩;have e0:ans bs 0=aaf bs 0:=by unfold ans word?;rw[if_pos (by omega)];rfl
 have hnn:∀c,c<22->(H.lists c).length=(aa2 H.blks c).length:=fun c hc=>Nat.le_antisymm (afe (h.ls.nodup c hc) (h.sub hc)) (afe (alC h.tl c) (hF c hc));have hm:=(aak _ _ _ h.tl).2;unfold abY;rw[hw];dsimp only;rw[e0,decide_eq_true h.hi,hn,Bool.true_and,Bool.true_and,akm h.ls (fun c hc=>h.small hc) hnn 22 0 _ rfl,aiL H.blks (fun x hx=>(hm x hx).2.2.1),Int.sub_self];rfl
def af5:Bool->List Bk->Bool
 | _,[]=>true
 | u,x::r=>(u || x.used)&&af5 x.used r
def akn:Bool->List Bk->Bool
 | u,[]=>u
 | _,x::r=>akn x.used r
theorem abJ:∀(a b:List Bk) (u:Bool),af5 u (a++b)=(af5 u a&&af5 (akn u a) b)
 | [],b,u=>by simp[af5,akn]
 | x::r,b,u=>by simp only[List.cons_append,af5,akn];rw[abJ r b x.used,Bool.and_assoc]
theorem ag0:∀(a b:List Bk) (u:Bool),akn u (a++b)=akn (akn u a) b
 | [],_,_=>rfl
 | x::r,b,_=>ag0 r b x.used
theorem afg{l:List Bk}{j:Nat}{y:Bk}(h:l[j]?=some y):adP l j=y.used:=by unfold adP;rw[h]
theorem amT:∀(l:List Bk) (u:Bool),af5 u l=true ↔ (∀y,l[0]?=some y->u=true\/y.used=true)/\∀j,j+1<l.length->adP l (j+1)=true\/adP l j=true
 | [],u=>by simp[af5]
 | x::r,u=>by
  unfold af5;rw[Bool.and_eq_true,Bool.or_eq_true,amT r x.used];constructor
  · rintro⟨h1,h2,h3⟩;refine⟨fun y hy=> ?_,fun j hj=> ?_⟩
    · injection hy with hy;subst hy;exact h1
    · rw[List.length_cons]at hj
      cases j with
      | zero=>
       obtain⟨y,hy⟩:∃y,r[0]?=some y:=⟨_,List.getElem?_eq_getElem (by omega)⟩;rw[afg (y:=y) (by simpa using hy),afg (y:=x) rfl];exact(h2 y hy).symm
      | succ j=>exact h3 j (by omega)
  · rintro⟨h1,h2⟩;refine⟨h1 x rfl,fun y hy=> ?_,fun j hj=> ?_⟩
    · have hl:=abi hy;have:=h2 0 (by rw[List.length_cons];omega);rw[afg (y:=y) (by simpa using hy),afg (y:=x) rfl]at this;exact this.symm
    · exact h2 (j+1) (by rw[List.length_cons];omega)
theorem abf (l:List Bk):aex l=af5 true l:=by
 rw[Bool.eq_iff_iff,amT];unfold aex;rw[List.all_eq_true];constructor
 · intro h;refine⟨fun _ _=> .inl rfl,fun j hj=> ?_⟩;have:=h (j+1) (List.mem_range.2 hj);unfold adQ at this;rw[Bool.or_eq_true,Bool.or_eq_true,Nat.add_sub_cancel]at this;rcases this with h1 | h1
   · simp at h1
   · exact h1
 · rintro⟨_,h⟩ j hj;have hj:=List.mem_range.1 hj;unfold adQ
   cases j with
   | zero=>rfl
   | succ j=>
    rw[Bool.or_eq_true,Bool.or_eq_true,Nat.add_sub_cancel];exact .inr (h j hj)
def Pay (z:Bk) (i:Nat):Prop:=z.off+8<=i/\i+8<z.off+z.size
theorem Kept.pay{P:List Bk}{bs out:List UInt8}(h:Kept P bs out) (h1:∀y∈P,184<=y.off/\32<=y.size) (ha:∀x∈P,∀y∈P,x=y\/x.off+x.size<=y.off\/y.off+y.size<=x.off){z:Bk}(hz:z∈P) (hu:z.used=true){i:Nat}(hi:Pay z i):out[i]?=bs[i]?:=by
 have hz1:=h1 z hz;obtain⟨p1,p2⟩:=hi;refine h i (by omega) fun y hy hyu=> ?_;have hy1:=h1 y hy;rcases ha z hz y hy with rfl | hd | hd
 · rw[hu]at hyu;cases hyu
 · omega
 · omega
theorem adi{y:Bk}(h:aaB (y.size:Int)=true):aaq (y.size:Int)=(ae0 y:Int)/\ae0 y<22:=by
 obtain⟨c,h1,h2⟩:=abq h;unfold ae0;rw[h1];exact⟨rfl,h2⟩
theorem alD{L:Nat->List Nat}{y:Bk}{c o:Nat}:o∈tkL L y c ↔ o∈L c/\(c=ae0 y->o≠y.off):=by
 unfold tkL aga;by_cases h:c=ae0 y
 · subst h;rw[if_pos rfl,List.mem_filter];simp
 · rw[if_neg h];simp[h]
theorem adF{L:Nat->List Nat}{p:Option Bk}{c o:Nat}:o∈tkO L p c ↔ o∈L c/\∀y,p=some y->c=ae0 y->o≠y.off:=by
 cases p with
 | none=>simp[tkO]
 | some y=>simp[tkO,alD]
theorem atH{L:Nat->List Nat}{y:Bk}{c o:Nat}:o∈ptL L y c ↔ (c=ae0 y/\o=y.off)\/o∈L c:=by
 unfold ptL aga;by_cases h:c=ae0 y
 · subst h;rw[if_pos rfl,List.mem_cons];simp
 · rw[if_neg h];simp[h]
theorem aaK (u:Bool) (x:Bk) (r:List Bk):af5 u (x::r)=((u || x.used)&&af5 x.used r):=rfl
def apU (bs:List UInt8):Option Bk->Option (List UInt8)
 | none=>some bs
 | some y=>aeC bs (y.off:Int)
section
variable {bs:List UInt8} {H:Hp}
theorem Md.congr{H':Hp}(h:Md bs H) (e1:H'.blks=H.blks) (e2:H'.lists=H.lists) (e3:H'.cap=H.cap):Md bs H':=⟨by rw[e1];exact h.tl,by rw[e1,e2];exact h.ls,h.hi,by rw[e3];exact h.len⟩
theorem Md.facts (h:Md bs H):∀y∈H.blks,184<=y.off/\32<=y.size:=fun y hy=>by
 have:=h.ls.st.facts hy;omega
theorem Md.takeO (h:Md bs H) (n:Option Bk) (hn:∀y,n=some y->y∈H.blks/\y.off∈H.lists (ae0 y)):∃out,apU bs n=some out/\Md out {H with lists:=tkO H.lists n}/\out.length=bs.length/\Kept H.blks bs out:=by
 cases n with
 | none=>exact⟨bs,rfl,h,rfl,Kept.refl _ _⟩
 | some y=>
  obtain⟨hy,hm⟩:=hn y rfl;have hf:=h.ls.st.facts hy;obtain⟨_,hc22⟩:=adi hf.2.2.2.2.2;obtain⟨out,h1,h2,h3,h4⟩:=h.ls.take hy hc22 hm;have e:(fun q:Nat=>decide (q≠y.off))=(fun o=>o !=y.off):=by funext q;simp[bne];rfl
  rw[e]at h2;have h5:=aig h.ls.len h1;have h6:=h.hi;exact⟨out,h1,⟨by rw[h3];exact h.tl,h2,by omega,by rw[h3];exact h.len⟩,h3,h4⟩
theorem Md.put (h:Md bs H){y:Bk}(hy:y∈H.blks) (hu:y.used=false) (hm:y.off∉H.lists (ae0 y)):∃out,ahS bs (y.off:Int)=some out/\Md out {H with lists:=ptL H.lists y}/\out.length=bs.length/\Kept H.blks bs out:=by
 have hf:=h.ls.st.facts hy;obtain⟨hc,hc22⟩:=adi hf.2.2.2.2.2;obtain⟨out,h1,h2,h3,h4⟩:=h.ls.put hy hu hc hc22 hm;have h5:=(agG h.ls.len h1).2;have h6:=h.hi;exact⟨out,h1,⟨by rw[h3];exact h.tl,h2,by omega,by rw[h3];exact h.len⟩,h3,h4⟩
def frO:Option Bk->Option Bk
 | none=>none
 | some y=>if y.used=true then none else some y
theorem arY (bs:List UInt8):aa6 bs (bs.length:Int)=none:=by
 cases h:aa6 bs (bs.length:Int)with
 | none=>rfl
 | some x=>
  obtain⟨h1,_,_,h2,h3,_⟩:=aaw h;have:=(aab _).1 h3;omega
theorem anW (bs:List UInt8):abN bs 184=none:=by
 unfold abN;split
 · rfl
 · split
   · rfl
   · split
     · rfl
     · rename_i s u _ x hg;obtain⟨h1,h2,_,_,h3,_⟩:=aaw hg;have:=(aab _).1 h3;rw[if_neg (by omega)]
theorem Md.behind (h:Md bs H){A1 B1:List Bk}{p n:Option Bk}{x:Bk}(hb:H.blks=(A1++p.toList)++x::(n.toList++B1)) (hN:alu A1 p n B1):frO (aa6 bs ((x.off:Int)+(x.size:Int)))=n:=by
 have ht:=h.tl;rw[hb,aaC]at ht;obtain⟨_,h1,_,h3⟩:=ht;have e:(x.off:Int)+(x.size:Int)=((184+abc (A1++p.toList)+x.size:Nat):Int):=by omega
 rw[e];obtain⟨q,hq⟩:=nmE (184+abc (A1++p.toList)+x.size);rw[hq]at h3 ⊢
 cases n with
 | some m=>
  obtain⟨a,_,_⟩:=h3;rw[<-a,h.ls.st.at_ m (by rw[hb];simp)];show(if m.used=true then none else some m)=some m;rw[hN.nf m rfl,if_neg (by simp)]
 | none=>
  cases B1 with
  | nil=>
   have e:q=bs.length:=h3;rw[e,arY];rfl
  | cons y r=>
   obtain⟨a,_,_⟩:=h3;rw[<-a,h.ls.st.at_ y (by rw[hb];simp)];show(if y.used=true then none else some y)=none;rw[hN.nu rfl y r rfl,if_pos rfl]
theorem Md.ends (h:Md bs H){A B:List Bk}(hb:H.blks=A++B){o:Nat}(ho:o=184+abc A):(A= []/\abN bs (o:Int)=none)\/∃r y,A=r++ [y]/\abN bs (o:Int)=some y:=by
 rcases List.eq_nil_or_concat A with e | ⟨r,y,e⟩
 · left;subst e;subst ho;exact⟨rfl,anW bs⟩
 · right;rw[List.concat_eq_append]at e;refine⟨r,y,e,?_⟩;have ht:=h.tl;rw[hb,e,List.append_assoc,aaC]at ht;obtain⟨_,h1,_,_⟩:=ht;have hy:=aoY (h.ls.st.at_ y (by rw[hb,e];simp));have e2:(o:Int)=(y.off:Int)+(y.size:Int):=by
    rw[ho,e,ae2];show((184+(abc r+(y.size+0)):Nat):Int)=_;omega
   rw[e2];exact hy
theorem Md.ahead (h:Md bs H){A1 B1:List Bk}{p n:Option Bk}{x:Bk}(hb:H.blks=(A1++p.toList)++x::(n.toList++B1)) (hN:alu A1 p n B1):frO (abN bs (x.off:Int))=p:=by
 have ht:=h.tl;rw[hb,aaC]at ht;obtain⟨_,h1,_,_⟩:=ht;rcases h.ends hb h1 with⟨e,e2⟩ | ⟨r,y,e,e2⟩
 · rw[e2]
   cases p with
   | none=>rfl
   | some q=>simp at e
 · rw[e2]
   cases p with
   | none=>
    show(if y.used=true then none else some y)=none;rw[hN.pu rfl y r (by simpa using e),if_pos rfl]
   | some q=>
    have h1:q=y:=by
     have:=congrArg List.getLast? e;simpa using this
    have hq:=hN.pf q rfl;rw[h1]at hq ⊢;unfold frO;dsimp only;rw[hq,if_neg (by simp)]
theorem Rt.gives (h:Rt bs H) (hc:H.cap<=16384){A1 B1:List Bk}{p n:Option Bk}{x:Bk}(hb:H.blks=(A1++p.toList)++x::(n.toList++B1)) (hN:alu A1 p n B1) (hu:x.used=true):
 ∃b1 b2 out,apU bs n=some b1/\apU b1 p=some b2/\aeo b2 ((aea p x n).off:Int) ((aea p x n).size:Int) false=some (aaU b2 (aea p x n))/\ahS (aaU b2 (aea p x n)) ((aea p x n).off:Int)=some out/\
  b1.length=bs.length/\b2.length=bs.length/\(aaU b2 (aea p x n)).length=bs.length/\out.length=bs.length/\Rt out (H.give (A1++p.toList).length)/\∀z∈H.blks,z.used=true->z≠x->∀i,Pay z i->out[i]?=bs[i]?:=by
 obtain⟨gb,gl⟩:=alw hb hN;have gc:(H.give (A1++p.toList).length).cap=H.cap:=agc;obtain⟨w,hw⟩:=nmE (aea p x n);have hwu:w.used=false:=by rw[<-hw];rfl
 rw[hw]at gb gl ⊢;have hM:=h.md hc;have hF:=h.complete;have hadj:af5 true H.blks=true:=by rw[<-abf];exact h.nfree.2.1
 have hsm:=hM.ls.small;have ht:=hM.tl;rw[hb,aaC,aaC,ae2]at ht;obtain⟨⟨t1,t2⟩,t3,t4,t5⟩:=ht;obtain⟨o1,ho1⟩:=nmE (184+abc A1);obtain⟨e,he⟩:=nmE bs.length;rw[he]at t5;have hp:(p=none/\w.off=o1/\x.off=o1/\w.size=x.size+(n.map Bk.size).getD 0)\/∃q,p=some q/\q.off=o1/\aaB (q.size:Int)=true/\x.off=o1+q.size/\w.off=o1/\w.size=q.size+x.size+(n.map Bk.size).getD 0:=by
  cases p with
  | none=>
   left;have e1:x.off=o1:=by rw[t3,<-ho1];simp[abc]
   refine⟨rfl,?_,e1,?_⟩
   · rw[<-hw];exact e1
   · rw[<-hw];show 0+x.size+_=_;omega
  | some q=>
   right;obtain⟨a,b,_⟩:=t2;refine⟨q,rfl,by rw[a,ho1],b,?_,?_,?_⟩
   · rw[t3,<-ho1];simp[abc];omega
   · rw[<-hw];show q.off=_;rw[a,ho1]
   · rw[<-hw];rfl
 have hxo:184+(abc A1+abc p.toList)=x.off:=t3.symm;have t1':abA 184 A1 o1:=by rw[<-ho1];exact t1
 rw[hxo]at t5;rw[aaC]at t5;obtain⟨t6,t7⟩:=t5;have hn:(n=none/\(n.map Bk.size).getD 0=0/\abc n.toList=0)\/∃m,n=some m/\m.off=x.off+x.size/\aaB (m.size:Int)=true/\(n.map Bk.size).getD 0=m.size/\abc n.toList=m.size:=by
  cases n with
  | none=>exact .inl ⟨rfl,rfl,rfl⟩
  | some m=>
   obtain⟨a,b,_⟩:=t6;exact .inr ⟨m,rfl,a,b,rfl,by simp[abc]⟩
 obtain⟨mA1,mA⟩:=aak A1 _ _ t1';obtain⟨mB1,mB⟩:=aak B1 _ _ t7;have sx:=(aab _).1 t4;have hwe:w.off+w.size=x.off+x.size+abc n.toList/\w.off=o1/\o1<=x.off/\w.size%16=0/\32<=w.size:=by
  rcases hp with⟨_,p1,p2,p3⟩ | ⟨q,_,p1,p4,p2,p5,p3⟩
  · rcases hn with⟨_,n1,n2⟩ | ⟨m,_,n0,n3,n1,n2⟩
    · omega
    · have:=(aab _).1 n3;omega
  · have:=(aab _).1 p4;rcases hn with⟨_,n1,n2⟩ | ⟨m,_,n0,n3,n1,n2⟩
    · omega
    · have:=(aab _).1 n3;omega
 obtain⟨w1,w2,w3,w4,w5⟩:=hwe;have ho1e:o1%16=8/\184<=o1:=by
  refine⟨?_,by omega⟩;have hxm:=((aak _ _ _ hM.tl).2 x (by rw[hb];simp)).2.2.2;rcases hp with⟨_,p1,p2,p3⟩ | ⟨q,_,p1,p4,p2,p5,p3⟩
  · omega
  · have:=(aab _).1 p4;omega
 have hws:aaB (w.size:Int)=true:=(aab _).2 (by omega);have inA:∀y∈A1,y.off+y.size<=w.off:=fun y hy=>by have:=mA y hy;omega
 have inB:∀y∈B1,w.off+w.size<=y.off:=fun y hy=>by have:=mB y hy;omega
 have hn0:∀y,n=some y->y∈H.blks/\y.off∈H.lists (ae0 y):=fun y hy=>by
  have hm:y∈H.blks:=by rw[hb,hy];simp
  obtain⟨c1,c2⟩:=adi (hM.ls.st.facts hm).2.2.2.2.2;exact⟨hm,hF _ c2 _ (abe hm (hN.nf y hy) c1)⟩
 obtain⟨b1,e1,M1,l1,k1⟩:=hM.takeO n hn0;have hp0:∀y,p=some y->y∈H.blks/\y.off∈tkO H.lists n (ae0 y):=fun y hy=>by
  have hm:y∈H.blks:=by rw[hb,hy];simp
  obtain⟨c1,c2⟩:=adi (hM.ls.st.facts hm).2.2.2.2.2;refine⟨hm,adF.2 ⟨hF _ c2 _ (abe hm (hN.pf y hy) c1),fun z hz _=> ?_⟩⟩;rcases hp with⟨p0,_⟩ | ⟨q,p0,p1,p4,p2,_⟩
  · rw[p0]at hy;cases hy
  · rw[p0]at hy;injection hy with hy;subst hy;rcases hn with⟨n0,_⟩ | ⟨m,n0,n1,_⟩
    · rw[n0]at hz;cases hz
    · rw[n0]at hz;injection hz with hz;subst hz;omega
 obtain⟨b2,e2,M2,l2,k2⟩:=M1.takeO p hp0;have k2:Kept H.blks b1 b2:=k2;have M2L:Lists b2 H.blks (tkO (tkO H.lists n) p):=M2.ls;have hwl:w.off+w.size<=b2.length:=by
  rcases B1 with _ | ⟨y,r⟩
  · have:x.off+x.size+abc n.toList=e:=t7;omega
  · have:=mB1;omega
 have hL:∀c,c<22->∀o∈tkO (tkO H.lists n) p c,∃y∈A1++w::B1,y∈H.blks/\y.off=o/\(y.off+y.size<=w.off\/w.off+w.size<=y.off):=fun c hc o ho=>by
  rw[adF,adF]at ho;obtain⟨⟨ho,hno⟩,hpo⟩:=ho;obtain⟨y,hy,ey,hyu,hyc⟩:=hM.ls.mem c hc o ho;obtain⟨c1,_⟩:=adi (hM.ls.st.facts hy).2.2.2.2.2;have hcc:c=ae0 y:=by omega
  have hy':=hy;rw[hb]at hy;rcases List.mem_append.1 hy with hy | hy
  · rcases List.mem_append.1 hy with hy | hy
    · exact⟨y,by simp[hy],hy',ey, .inl (inA y hy)⟩
    · exact absurd ey.symm (hpo y (by simpa using hy) hcc)
  · rcases List.mem_cons.1 hy with rfl | hy
    · rw[hu]at hyu;cases hyu
    · rcases List.mem_append.1 hy with hy | hy
      · exact absurd ey.symm (hno y (by simpa using hy) hcc)
      · exact⟨y,by simp[hy],hy',ey, .inr (inB y hy)⟩
 have hQ:∀y∈A1++w::B1,y=w\/(y∈H.blks/\(y.off+y.size<=w.off\/w.off+w.size<=y.off)):=fun y hy=>by
  rcases List.mem_append.1 hy with hy | hy
  · exact .inr ⟨by rw[hb];simp[hy], .inl (inA y hy)⟩
  · rcases List.mem_cons.1 hy with rfl | hy
    · exact .inl rfl
    · exact .inr ⟨by rw[hb];simp[hy], .inr (inB y hy)⟩
 have w184:184<=w.off:=by omega
 have w16:w.off%16=8:=by omega
 have LS:=M2L.set w184 w16 hwl hws hQ hL;have l3:=aa8 hws hwl;have M3:Md (aaU b2 w) {H with blks:=A1++w::B1,lists:=tkO (tkO H.lists n) p}:=by
  refine⟨?_,LS,?_,by rw[l3,l2,l1];exact hM.len⟩
  · show abA 184 (A1++w::B1) _;rw[l3,l2,l1,aaC,ho1,he];refine⟨t1',w2,hws,?_⟩;rw[show o1+w.size=x.off+x.size+abc n.toList by omega];exact t7
  · rw[aaS hws hwl _ (by omega)];exact M2.hi
 have hwm:w.off∉tkO (tkO H.lists n) p (ae0 w):=fun hm=>by
  obtain⟨_,c2⟩:=adi hws;obtain⟨y,_,hyP,ey,hd⟩:=hL _ c2 _ hm;have:=hM.facts y hyP;omega
 obtain⟨out,e4,M4,l4,k4⟩:=M3.put (y:=w) (by simp) hwu hwm;refine⟨b1,b2,out,e1,e2,?_,e4,l1,by rw[l2,l1],by rw[l3,l2,l1],by rw[l4,l3,l2,l1],?_,fun z hz hzu hzx i hi=> ?_⟩
 · have:=aeL b2 w w184 w16 hwl hws;rw[hwu]at this;exact this
 ·
  refine Md.rt (M4.congr gb gl gc) (fun c hc o ho=> ?_) ?_
  · rw[gb]at ho;rw[gl,atH];obtain⟨y,hy,ey,hyu,hyc⟩:=abC ho;rcases hQ y hy with rfl | ⟨hyP,hd⟩
    · left;obtain⟨c1,_⟩:=adi hws;exact⟨by omega,ey.symm⟩
    · right;rw[adF,adF];refine⟨⟨by rw[<-ey];exact hF c hc _ (abe hyP hyu hyc),fun z hz _=> ?_⟩,fun z hz _=> ?_⟩
      · have hz0:z.off=x.off+x.size/\z.off+z.size<=w.off+w.size:=by
         rcases hn with⟨n0,_⟩ | ⟨m,n0,n1,_,_,n4⟩
         · rw[n0]at hz;cases hz
         · rw[n0]at hz;injection hz with hz;subst hz;omega
        have:=hM.facts y hyP;have:=hM.facts z (hn0 z hz).1;omega
      · have hz0:z.off=o1/\z.off+z.size<=w.off+w.size:=by
         rcases hp with⟨p0,_⟩ | ⟨q,p0,p1,p4,p2,_⟩
         · rw[p0]at hz;cases hz
         · rw[p0]at hz;injection hz with hz;subst hz;omega
        have:=hM.facts y hyP;have:=hM.facts z (hp0 z hz).1;omega
  · rw[gb,abf,abJ];rw[hb,abJ,abJ,aaK]at hadj;rw[aaK];simp only[Bool.and_eq_true,Bool.or_eq_true]at hadj ⊢;obtain⟨⟨a1,a2⟩,_,a3⟩:=hadj;rw[hwu];refine⟨a1, .inl ?_,?_⟩
    · cases p with
      | none=>
       rcases List.eq_nil_or_concat A1 with e | ⟨r,y,e⟩
       · rw[e];rfl
       · rw[List.concat_eq_append]at e;rw[e,ag0];exact hN.pu rfl y r e
      | some q=>
       have hq:=hN.pf q rfl;have a2:af5 (akn true A1) [q]=true:=a2;rw[aaK,hq,Bool.or_false,Bool.and_eq_true]at a2;exact a2.1
    · rw[hu]at a3
      cases n with
      | none=>
       cases B1 with
       | nil=>rfl
       | cons y r=>
        have hy:=hN.nu rfl y r rfl;have a3:af5 true (y::r)=true:=a3;rw[aaK,hy,Bool.and_eq_true]at a3;rw[aaK,hy,Bool.and_eq_true];exact⟨rfl,a3.2⟩
      | some m=>
       have hm:=hN.nf m rfl;have a3:af5 true (m::B1)=true:=a3;rw[aaK,hm,Bool.and_eq_true]at a3;exact a3.2
 ·
  have hz2:z∈A1\/z∈B1:=by
   rw[hb]at hz;rcases List.mem_append.1 hz with hz | hz
   · rcases List.mem_append.1 hz with hz | hz
     · exact .inl hz
     · have:=hN.pf z (by simpa using hz);rw[hzu]at this;cases this
   · rcases List.mem_cons.1 hz with hz | hz
     · exact absurd hz hzx
     · rcases List.mem_append.1 hz with hz | hz
       · have:=hN.nf z (by simpa using hz);rw[hzu]at this;cases this
       · exact .inr hz
  have hzf:=hM.facts z hz;have ap:=hM.ls.st.apart;have zw:z.off+z.size<=w.off\/w.off+w.size<=z.off:=by
   rcases hz2 with h2 | h2
   · exact .inl (inA z h2)
   · exact .inr (inB z h2)
  have zQ:z∈A1++w::B1:=by rcases hz2 with h2 | h2<;>simp[h2]
  have s4:=k4.pay M3.facts M3.ls.st.apart (z:=z) zQ hzu hi;obtain⟨i1,i2⟩:=hi;have s3:=acB hws hwl i (by omega);rw[s4,s3,k2.pay hM.facts ap hz hzu ⟨i1,i2⟩,k1.pay hM.facts ap hz hzu ⟨i1,i2⟩]
end
section
variable {bs:List UInt8} {H:Hp}
theorem Rt.congr{H':Hp}(h:Rt bs H) (e1:H'.blks=H.blks) (e2:H'.lists=H.lists) (e3:H'.cap=H.cap):Rt bs H':=⟨by rw[e1];exact h.walk,by rw[e2];exact h.all_,h.chk,by rw[e3];exact h.len⟩
theorem Lists.takeO{P:List Bk}{L:Nat->List Nat}(h:Lists bs P L) (n:Option Bk) (hn:∀y,n=some y->y∈P/\y.off∈L (ae0 y)):∃out,apU bs n=some out/\Lists out P (tkO L n)/\out.length=bs.length/\Kept P bs out/\aaf out 0/4194304=aaf bs 0/4194304:=by
 cases n with
 | none=>exact⟨bs,rfl,h,rfl,Kept.refl _ _,rfl⟩
 | some y=>
  obtain⟨hy,hm⟩:=hn y rfl;have hf:=h.st.facts hy;obtain⟨_,hc22⟩:=adi hf.2.2.2.2.2;obtain⟨out,h1,h2,h3,h4⟩:=h.take hy hc22 hm;have e:(fun q:Nat=>decide (q≠y.off))=(fun o=>o !=y.off):=by funext q;simp[bne];rfl
  rw[e]at h2;exact⟨out,h1,h2,h3,h4,aig h.len h1⟩
theorem agm{A B:List Bk}{x:Bk}{e:Nat}(ht:abA 184 (A++x::B) e):abA 184 A x.off/\aaB (x.size:Int)=true/\abA (x.off+x.size) B e/\x.off%16=8/\184<=x.off/\x.off+x.size<=e/\(∀y∈A,y.off+y.size<=x.off)/\∀y∈B,x.off+x.size<=y.off:=by
 have hx:=(aak _ _ _ ht).2 x (by simp);rw[aaC]at ht;obtain⟨t1,t2,t3,t4⟩:=ht;rw[<-t2]at t1 t4;exact⟨t1,t3,t4,by omega,by omega,by omega,fun y hy=>((aak _ _ _ t1).2 y hy).2.1,fun y hy=>((aak _ _ _ t4).2 y hy).1⟩
theorem Rt.cuts (h:Rt bs H) (hc:H.cap<=16384){A B:List Bk}{x:Bk}(hb:H.blks=A++x::B) (hu:x.used=true){s:Nat}(hs:aaB (s:Int)=true) (hle:s+32<=x.size):
 aeo bs (x.off:Int) (s:Int) true=some (aaU bs ⟨x.off,s,true⟩)/\
 aeo (aaU bs ⟨x.off,s,true⟩) ((x.off+s:Nat):Int) ((x.size-s:Nat):Int) true=some (aaU (aaU bs ⟨x.off,s,true⟩) ⟨x.off+s,x.size-s,true⟩)/\
 (aaU bs ⟨x.off,s,true⟩).length=bs.length/\(aaU (aaU bs ⟨x.off,s,true⟩) ⟨x.off+s,x.size-s,true⟩).length=bs.length/\
 (((H.use A.length true).size A.length s).put (A.length+1) ⟨x.off+s,x.size-s,true⟩).blks=(A++ [⟨x.off,s,true⟩])++⟨x.off+s,x.size-s,true⟩::B/\
 Rt (aaU (aaU bs ⟨x.off,s,true⟩) ⟨x.off+s,x.size-s,true⟩) (((H.use A.length true).size A.length s).put (A.length+1) ⟨x.off+s,x.size-s,true⟩)/\
 (∀z∈H.blks,z≠x->∀i,Pay z i->(aaU (aaU bs ⟨x.off,s,true⟩) ⟨x.off+s,x.size-s,true⟩)[i]?=bs[i]?)/\(∀i,Pay ⟨x.off,s,true⟩ i->(aaU (aaU bs ⟨x.off,s,true⟩) ⟨x.off+s,x.size-s,true⟩)[i]?=bs[i]?):=by
 have hM:=h.md hc;have hF:=h.complete;have hadj:af5 true H.blks=true:=by rw[<-abf];exact h.nfree.2.1
 have ht:=hM.tl;rw[hb]at ht;obtain⟨t1,t2,t3,t4,t5,t6,tA,tB⟩:=agm ht;have sx:=(aab _).1 t2;have ss:=(aab _).1 hs;have hs2:aaB ((x.size-s:Nat):Int)=true:=(aab _).2 (by omega);obtain⟨y1,hy1⟩:∃y1:Bk,y1=⟨x.off,s,true⟩:=⟨_,rfl⟩;obtain⟨y2,hy2⟩:∃y2:Bk,y2=⟨x.off+s,x.size-s,true⟩:=⟨_,rfl⟩;have o1:y1.off=x.off:=by rw[hy1]
 have z1:y1.size=s:=by rw[hy1]
 have u1:y1.used=true:=by rw[hy1]
 have o2:y2.off=x.off+s:=by rw[hy2]
 have z2:y2.size=x.size-s:=by rw[hy2]
 have u2:y2.used=true:=by rw[hy2]
 have s1:aeo bs (y1.off:Int) (y1.size:Int) y1.used=some (aaU bs y1):=aeL bs y1 (by omega) (by omega) (by omega) (by rw[z1];exact hs);have l1:(aaU bs y1).length=bs.length:=aa8 (by rw[z1];exact hs) (by omega);have s2:aeo (aaU bs y1) (y2.off:Int) (y2.size:Int) y2.used=some (aaU (aaU bs y1) y2):=aeL _ y2 (by omega) (by omega) (by omega) (by rw[z2];exact hs2);have l2:(aaU (aaU bs y1) y2).length=bs.length:=(aa8 (by rw[z2];exact hs2) (by omega)).trans l1;rw[o1,z1,u1]at s1;rw[o2,z2,u2]at s2;rw[<-hy2,<-hy1];have hblk:(((H.use A.length true).size A.length s).put (A.length+1) y2).blks=(A++ [y1])++y2::B:=by
  have e:((H.use A.length true).size A.length s).blks=(A++ [y1])++B:=by
   rw[amL (agS hb true) s,hy1];simp
  show((H.use A.length true).size A.length s).blks.take (A.length+1)++y2::((H.use A.length true).size A.length s).blks.drop (A.length+1)=_;rw[e,List.take_left' (by simp),List.drop_left' (by simp)]
 have hL:∀c,c<22->∀o∈H.lists c,∃y,(y∈A\/y∈B)/\y∈H.blks/\y.off=o/\(y.off+y.size<=x.off\/x.off+x.size<=y.off):=fun c hc o ho=>by
  obtain⟨y,hy,ey,hyu,_⟩:=hM.ls.mem c hc o ho;have hy':=hy;rw[hb]at hy;rcases List.mem_append.1 hy with hy | hy
  · exact⟨y, .inl hy,hy',ey, .inl (tA y hy)⟩
  · rcases List.mem_cons.1 hy with rfl | hy
    · rw[hu]at hyu;cases hyu
    · exact⟨y, .inr hy,hy',ey, .inr (tB y hy)⟩
 have L1:Lists (aaU bs y1) (A++y1::B) H.lists:=by
  refine hM.ls.set (by omega) (by omega) (by omega) (by rw[z1];exact hs) (fun y hy=> ?_) fun c hc o ho=> ?_
  · rcases List.mem_append.1 hy with hy | hy
    · exact .inr ⟨by rw[hb];simp[hy], .inl (by have:=tA y hy;omega)⟩
    · rcases List.mem_cons.1 hy with rfl | hy
      · exact .inl rfl
      · exact .inr ⟨by rw[hb];simp[hy], .inr (by have:=tB y hy;omega)⟩
  · obtain⟨y,hy,hyP,ey,hd⟩:=hL c hc o ho;exact⟨y,by rcases hy with hy | hy<;>simp[hy],hyP,ey,by omega⟩
 have L2:Lists (aaU (aaU bs y1) y2) ((A++ [y1])++y2::B) H.lists:=by
  refine L1.set (by omega) (by omega) (by omega) (by rw[z2];exact hs2) (fun y hy=> ?_) fun c hc o ho=> ?_
  · rcases List.mem_append.1 hy with hy | hy
    · rcases List.mem_append.1 hy with hy | hy
      · exact .inr ⟨by simp[hy], .inl (by have:=tA y hy;omega)⟩
      · rw[List.mem_singleton]at hy;exact .inr ⟨by simp[hy], .inl (by rw[hy];omega)⟩
    · rcases List.mem_cons.1 hy with rfl | hy
      · exact .inl rfl
      · exact .inr ⟨by simp[hy], .inr (by have:=tB y hy;omega)⟩
  · obtain⟨y,hy,hyP,ey,hd⟩:=hL c hc o ho;exact⟨y,by rcases hy with hy | hy<;>simp[hy],by rcases hy with hy | hy<;>simp[hy],ey,by omega⟩
 refine⟨s1,s2,l1,l2,hblk,?_,fun z hz hzx i hi=> ?_,fun i hi=> ?_⟩
 · have M:Md (aaU (aaU bs y1) y2) (((H.use A.length true).size A.length s).put (A.length+1) y2):=by
    refine⟨?_,by rw[hblk];exact L2,?_,by rw[l2];exact hM.len⟩
    · rw[hblk,l2,List.append_assoc,aaC];rw[aaC]at ht;obtain⟨q1,q2,_⟩:=ht;refine⟨q1,by omega,by rw[z1];exact hs,by omega,by rw[z2];exact hs2,?_⟩;rw[<-q2,show x.off+y1.size+y2.size=x.off+x.size by omega];exact t3
    · rw[aaS (by rw[z2];exact hs2) (by omega) _ (by omega),aaS (by rw[z1];exact hs) (by omega) _ (by omega)];exact hM.hi
   refine M.rt (fun c hc o ho=> ?_) ?_
   · rw[hblk]at ho;obtain⟨y,hy,ey,hyu,hyc⟩:=abC ho;have hyP:y∈H.blks:=by
      rw[hb];rcases List.mem_append.1 hy with hy | hy
      · rcases List.mem_append.1 hy with hy | hy
        · simp[hy]
        · rw[List.mem_singleton]at hy;rw[hy,u1]at hyu;cases hyu
      · rcases List.mem_cons.1 hy with rfl | hy
        · rw[u2]at hyu;cases hyu
        · simp[hy]
     rw[<-ey];exact hF c hc _ (abe hyP hyu hyc)
   · rw[hblk,abf,abJ,abJ,aaK,aaK,ag0,u1,u2];rw[hb,abJ,aaK,hu]at hadj;simp only[Bool.and_eq_true,Bool.or_true]at hadj ⊢;exact⟨⟨hadj.1,trivial,rfl⟩,trivial,hadj.2.2⟩
 · obtain⟨i1,i2⟩:=hi;have hd:z.off+z.size<=x.off\/x.off+x.size<=z.off:=by
    rw[hb]at hz;rcases List.mem_append.1 hz with hz | hz
    · exact .inl (tA z hz)
    · rcases List.mem_cons.1 hz with hz | hz
      · exact absurd hz hzx
      · exact .inr (tB z hz)
   rw[acB (by rw[z2];exact hs2) (by omega) i (by omega),acB (by rw[z1];exact hs) (by omega) i (by omega)]
 · obtain⟨i1,i2⟩:=hi;rw[acB (by rw[z2];exact hs2) (by omega) i (by omega),acB (by rw[z1];exact hs) (by omega) i (by omega)]
theorem Rt.uses (h:Rt bs H) (hc:H.cap<=16384){A B:List Bk}{x:Bk}(hb:H.blks=A++x::B) (hu:x.used=false):
 ∃b1,aeC bs (x.off:Int)=some b1/\aeo b1 (x.off:Int) (x.size:Int) true=some (aaU b1 ⟨x.off,x.size,true⟩)/\b1.length=bs.length/\(aaU b1 ⟨x.off,x.size,true⟩).length=bs.length/\
  ((H.out A.length).use A.length true).blks=A++⟨x.off,x.size,true⟩::B/\Rt (aaU b1 ⟨x.off,x.size,true⟩) ((H.out A.length).use A.length true)/\
  ∀z∈H.blks,z.used=true->∀i,Pay z i->(aaU b1 ⟨x.off,x.size,true⟩)[i]?=bs[i]?:=by
 have hM:=h.md hc;have hF:=h.complete;have hadj:af5 true H.blks=true:=by rw[<-abf];exact h.nfree.2.1
 have ht:=hM.tl;rw[hb]at ht;obtain⟨t1,t2,t3,t4,t5,t6,tA,tB⟩:=agm ht;have sx:=(aab _).1 t2;have hxP:x∈H.blks:=by rw[hb];simp
 obtain⟨c1,c2⟩:=adi t2;obtain⟨b1,e1,L1,l1,k1,w1⟩:=hM.ls.takeO (some x) (fun y hy=>by
  injection hy with hy;subst hy;exact⟨hxP,hF _ c2 _ (abe hxP hu c1)⟩)
 obtain⟨y1,hy1⟩:∃y1:Bk,y1=⟨x.off,x.size,true⟩:=⟨_,rfl⟩;have o1:y1.off=x.off:=by rw[hy1]
 have z1:y1.size=x.size:=by rw[hy1]
 have u1:y1.used=true:=by rw[hy1]
 have s1:aeo b1 (y1.off:Int) (y1.size:Int) y1.used=some (aaU b1 y1):=aeL b1 y1 (by omega) (by omega) (by omega) (by rw[z1];exact t2);have l2:(aaU b1 y1).length=b1.length:=aa8 (by rw[z1];exact t2) (by omega);rw[o1,z1,u1]at s1;rw[<-hy1];have hblk:((H.out A.length).use A.length true).blks=A++y1::B:=by
  rw[agS (H:=H.out A.length) (A:=A) (y:=x) (B:=B) hb true,hy1]
 have hlst:((H.out A.length).use A.length true).lists=tkL H.lists x:=agT hb;have hdA:∀y∈A++y1::B,y=y1\/(y∈H.blks/\(y.off+y.size<=y1.off\/y1.off+y1.size<=y.off)):=fun y hy=>by
  rcases List.mem_append.1 hy with hy | hy
  · exact .inr ⟨by rw[hb];simp[hy], .inl (by have:=tA y hy;omega)⟩
  · rcases List.mem_cons.1 hy with rfl | hy
    · exact .inl rfl
    · exact .inr ⟨by rw[hb];simp[hy], .inr (by have:=tB y hy;omega)⟩
 have L2:Lists (aaU b1 y1) (A++y1::B) (tkL H.lists x):=by
  refine L1.set (by omega) (by omega) (by omega) (by rw[z1];exact t2) hdA fun c hc o ho=> ?_;have ho:o∈tkL H.lists x c:=ho;rw[alD]at ho;obtain⟨y,hy,ey,hyu,hyc⟩:=hM.ls.mem c hc o ho.1;have hy':=hy;rw[hb]at hy;rcases List.mem_append.1 hy with hy | hy
  · exact⟨y,by simp[hy],hy',ey, .inl (by have:=tA y hy;omega)⟩
  · rcases List.mem_cons.1 hy with rfl | hy
    · exact absurd ey.symm (ho.2 (by omega))
    · exact⟨y,by simp[hy],hy',ey, .inr (by have:=tB y hy;omega)⟩
 refine⟨b1,e1,s1,l1,l2.trans l1,hblk,?_,fun z hz hzu i hi=> ?_⟩
 · have hi:=hM.hi;have M:Md (aaU b1 y1) ((H.out A.length).use A.length true):=by
    refine⟨?_,by rw[hblk,hlst];exact L2,?_,by rw[l2,l1];exact hM.len⟩
    · rw[hblk,l2,l1,aaC];rw[aaC]at ht;obtain⟨q1,q2,q3,q4⟩:=ht;refine⟨q1,by omega,by rw[z1];exact t2,?_⟩;rw[z1];exact q4
    · rw[aaS (by rw[z1];exact t2) (by omega) _ (by omega)];omega
   refine M.rt (fun c hc o ho=> ?_) ?_
   · rw[hblk]at ho;rw[hlst,alD];obtain⟨y,hy,ey,hyu,hyc⟩:=abC ho;rcases hdA y hy with rfl | ⟨hyP,hd⟩
     · rw[u1]at hyu;cases hyu
     · have:=hM.facts y hyP;exact⟨by rw[<-ey];exact hF c hc _ (abe hyP hyu hyc),fun _=>by omega⟩
   · rw[hblk,abf,abJ,aaK,u1];rw[hb,abJ,aaK,hu]at hadj;simp only[Bool.and_eq_true,Bool.or_true]at hadj ⊢;refine⟨hadj.1,trivial,?_⟩;have h2:=hadj.2.2
     cases B with
     | nil=>rfl
     | cons y r=>
      rw[aaK]at h2 ⊢;simp only[Bool.and_eq_true,Bool.or_eq_true,Bool.true_or,true_and]at h2 ⊢;exact h2.2
 · have hd:z.off+z.size<=x.off\/x.off+x.size<=z.off:=by
    rcases hM.ls.st.apart z hz x hxP with rfl | hd
    · rw[hu]at hzu;cases hzu
    · exact hd
   have k:=k1.pay hM.facts hM.ls.st.apart hz hzu hi;obtain⟨i1,i2⟩:=hi;rw[acB (by rw[z1];exact t2) (by omega) i (by omega),k]
theorem Rt.adds (h:Rt bs H) (hc:H.cap<=16384){A:List Bk}{p:Option Bk}{o s n:Nat}(hb:H.blks=A++p.toList) (hp:∀y,p=some y->y.used=false) (ho:o=184+abc A) (hs:aaB (s:Int)=true) (hn:n+abc p.toList=s) (hcap:bs.length+n<=H.cap):
 ∃b1,apU (bs++List.replicate n 0) p=some b1/\aeo b1 (o:Int) (s:Int) true=some (aaU b1 ⟨o,s,true⟩)/\b1.length=bs.length+n/\(aaU b1 ⟨o,s,true⟩).length=bs.length+n/\
  (∀H':Hp,H'.blks=A++ [⟨o,s,true⟩]->H'.lists=tkO H.lists p->H'.cap=H.cap->Rt (aaU b1 ⟨o,s,true⟩) H')/\
  ∀z∈H.blks,z.used=true->∀i,Pay z i->(aaU b1 ⟨o,s,true⟩)[i]?=bs[i]?:=by
 have hM:=h.md hc;have hF:=h.complete;have hadj:af5 true H.blks=true:=by rw[<-abf];exact h.nfree.2.1
 have ht:=hM.tl;rw[hb,aaC,<-ho]at ht;obtain⟨t1,t2⟩:=ht;have hlen:bs.length=o+abc p.toList:=ae1 _ _ _ t2;have ss:=(aab _).1 hs;have hA:=(aak _ _ _ t1).2;have hpf:∀y,p=some y->y∈H.blks/\y.off=o:=fun y hy=>by
  rw[hy]at t2;exact⟨by rw[hb,hy];simp,t2.1⟩
 have hlm:(bs++List.replicate n (0:UInt8)).length=bs.length+n:=by rw[List.length_append,List.length_replicate]
 have hl0:=hM.ls.len;obtain⟨b1,e1,L1,l1,k1,w1⟩:=(hM.ls.more n (by omega)).takeO p (fun y hy=>by
  have hyP:=(hpf y hy).1;obtain⟨c1,c2⟩:=adi (hM.ls.st.facts hyP).2.2.2.2.2;exact⟨hyP,hF _ c2 _ (abe hyP (hp y hy) c1)⟩)
 have o16:o%16=8:=by
  cases p with
  | none=>
   have e:abA 184 A o:=t1;rcases List.eq_nil_or_concat A with e1 | ⟨r,y,e1⟩
   · rw[e1]at ho;have:o=184:=ho;omega
   · rw[List.concat_eq_append]at e1;have hy:=(aak _ _ _ e).2 y (by rw[e1];simp);rw[e1,aaC]at e;obtain⟨_,q1,q2,q3⟩:=e;have q3:184+abc r+y.size=o:=q3;have:=(aab _).1 q2;omega
  | some y=>
   have:=hM.ls.st.facts (hpf y rfl).1;have:=(hpf y rfl).2;omega
 have o184:184<=o:=by omega
 obtain⟨y1,hy1⟩:∃y1:Bk,y1=⟨o,s,true⟩:=⟨_,rfl⟩;have o1:y1.off=o:=by rw[hy1]
 have z1:y1.size=s:=by rw[hy1]
 have u1:y1.used=true:=by rw[hy1]
 have hs1:aaB (y1.size:Int)=true:=by rw[z1];exact hs
 have hle:y1.off+y1.size<=b1.length:=by omega
 have s1:aeo b1 (y1.off:Int) (y1.size:Int) y1.used=some (aaU b1 y1):=aeL b1 y1 (by omega) (by omega) hle hs1;have l2:(aaU b1 y1).length=b1.length:=aa8 hs1 hle;rw[o1,z1,u1]at s1;rw[<-hy1];have hdA:∀y∈A++ [y1],y=y1\/(y∈H.blks/\y∈A/\(y.off+y.size<=y1.off\/y1.off+y1.size<=y.off)):=fun y hy=>by
  rcases List.mem_append.1 hy with hy | hy
  · exact .inr ⟨by rw[hb];simp[hy],hy, .inl (by have:=hA y hy;omega)⟩
  · exact .inl (by simpa using hy)
 have L2:Lists (aaU b1 y1) (A++ [y1]) (tkO H.lists p):=by
  refine L1.set (by omega) (by omega) hle hs1 (fun y hy=>(hdA y hy).imp id fun h=>⟨h.1,h.2.2⟩) fun c hc q hq=> ?_;rw[adF]at hq;obtain⟨y,hy,ey,hyu,hyc⟩:=hM.ls.mem c hc q hq.1;have hy':=hy;rw[hb]at hy;rcases List.mem_append.1 hy with hy | hy
  · exact⟨y,by simp[hy],hy',ey, .inl (by have:=hA y hy;omega)⟩
  · obtain⟨c1,_⟩:=adi (hM.ls.st.facts hy').2.2.2.2.2;exact absurd ey.symm (hq.2 y (by simpa using hy) (by omega))
 refine⟨b1,e1,s1,by omega,by omega,fun H' g1 g2 g3=> ?_,fun z hz hzu i hi=> ?_⟩
 · have hi:=hM.hi;have hi2:aaf (bs++List.replicate n (0:UInt8)) 0=aaf bs 0:=aca _ _ _ (by omega);have M:Md (aaU b1 y1) H':=by
    refine⟨?_,by rw[g1,g2];exact L2,?_,by rw[g3];omega⟩
    · rw[g1,aaC,<-ho];exact⟨t1,o1,hs1,by show o+y1.size=_;omega⟩
    · rw[aaS hs1 hle _ (by omega)];omega
   refine M.rt (fun c hc q hq=> ?_) ?_
   · rw[g1]at hq;rw[g2,adF];obtain⟨y,hy,ey,hyu,hyc⟩:=abC hq;rcases hdA y hy with rfl | ⟨hyP,hyA,hd⟩
     · rw[u1]at hyu;cases hyu
     · have:=hM.facts y hyP;refine⟨by rw[<-ey];exact hF c hc _ (abe hyP hyu hyc),fun z hz _=> ?_⟩;have:=(hpf z hz).2;have:=hA y hyA;omega
   · rw[g1,abf,abJ,aaK,u1];rw[hb,abJ]at hadj;simp only[Bool.and_eq_true,Bool.or_true]at hadj ⊢;exact⟨hadj.1,trivial,rfl⟩
 · have hzf:=hM.facts z hz;have hzA:z∈A:=by
    rw[hb]at hz;rcases List.mem_append.1 hz with hz | hz
    · exact hz
    · have:=hp z (by simpa using hz);rw[hzu]at this;cases this
   have hd:=hA z hzA;have k:=k1.pay hM.facts hM.ls.st.apart hz hzu hi;obtain⟨i1,i2⟩:=hi;rw[acB hs1 hle i (by omega),k,agl _ _ _ (by omega)]
theorem aih (hg:∀x∈H.blks,aa6 bs (x.off:Int)=some x) (s:Nat):∀L:List Nat,(∀o∈L,∃i,atB (o:Int) H.blks=some i)->L.find? (fun o=>decide ((s:Int)<=(szB bs o:Int)))=(af4 H.blks s L).map fun i=>(aam H.blks i).off
 | [],_=>rfl
 | o::r,hL=>by
  obtain⟨i,hi⟩:=hL o (by simp);obtain⟨h1,h2⟩:=afQ hi;have h2:(aam H.blks i).off=o:=by omega
  have hz:szB bs o=(aam H.blks i).size:=by
   rw[<-h2];exact asE (hg _ (List.mem_of_getElem? (aas h1)))
  have ih:=aih hg s r fun q hq=>hL q (by simp[hq]);unfold af4;rw[hi];dsimp only;by_cases hle:s<=(aam H.blks i).size
  · rw[List.find?_cons_of_pos (by rw[hz];exact decide_eq_true (by omega)),if_pos hle,Option.map_some,h2]
  · rw[List.find?_cons_of_neg (by rw[hz];simp;omega),if_neg hle];exact ih
theorem Rt.findsC (h:Rt bs H) (s:Nat):∀k c,c+k=22->ahC bs (s:Int) k c=some (((H.findC s k c).map fun i=>(aam H.blks i).off).getD 0)
 | 0,_,_=>rfl
 | k+1,c,hc=>by
  unfold ahC Hp.findC;rw[h.all_ c (by omega)];dsimp only;rw[aih (aaj h.walk).2.2 s (H.lists c) (h.listed c (by omega))]
  cases af4 H.blks s (H.lists c)with
  | none=>exact h.findsC s k (c+1) (by omega)
  | some i=>rfl
theorem Rt.finds (h:Rt bs H){s:Nat}(hs:aaB (s:Int)=true):aoZ bs (s:Int)=some (((H.find s).map fun i=>(aam H.blks i).off).getD 0):=by
 unfold aoZ Hp.find;refine h.findsC s _ _ ?_;obtain⟨c,h1,h2⟩:=abq (x:=⟨0,s,false⟩) hs;have h1:aaq (s:Int)=(c:Int):=h1;omega
end
end Go.Proofs.YtncadccbepjekaaGreatDoor
