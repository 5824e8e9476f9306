/- Texts of mine, joined. -/
import Derived.Test.YtncadccbepjekaaGreatDoorP42
import Derived.Test.YtncadccbepjekaaGreatDoorP44
namespace Go.Proofs.YtncadccbepjekaaGreatDoor
open Go.RowKit Go.ChangeShapes Go.WideShapes Go.Deep
theorem aq3{α:Type}{p:Nat->α->Prop}:∀(n:Nat),(∀i,i<n->∃x,p i x)->∃l:List α,l.length=n/\∀i x,l[i]?=some x->p i x
 | 0,_=>⟨[],rfl,fun i x h=>by simp at h⟩
 | n+1,h=>by
  obtain⟨l,hl,hp⟩:=aq3 n (fun i hi=>h i (by omega));obtain⟨x,hx⟩:=h n (by omega);refine⟨l++ [x],by simp[hl],fun i y hy=> ?_⟩;rcases Nat.lt_or_ge i l.length with h1 | h1
  · rw[List.getElem?_append_left h1]at hy;exact hp i y hy
  · rw[List.getElem?_append_right h1]at hy;have e:i-l.length=0:=by
     rcases Nat.eq_zero_or_pos (i-l.length)with h2 | h2
     · exact h2
     · rw[List.getElem?_eq_none (by simp;omega)]at hy;cases hy
    rw[e]at hy;obtain rfl:x=y:=by simpa using hy
    obtain rfl:i=n:=by omega
    exact hx
theorem aq4{w:World}{a:Addr}{v:Value}(h:w.cell? (a.add 0)=some v):∃b o,a=⟨b,o,none⟩/\b<w.heap.size/\∀j,a.add j=⟨b,o+j,none⟩:=by
 obtain⟨b,o,sp⟩:=a;obtain rfl:sp=none:=by simpa[Addr.add]using World.cell?_spot h
 have e:∀j,(⟨b,o,none⟩:Addr).add j=⟨b,o+j,none⟩:=fun j=>by unfold Addr.add;split<;>simp_all
 refine⟨b,o,rfl,?_,e⟩;rw[e]at h;exact ak4 h
section
variable {H:Type} {enc:TypeId × Value->H} {w:World} {base:Nat} {held:Bool} {fuel:Nat} {A:Option Addr} {len cap:Nat} {x:DataW H × List MemPlace}
theorem asO{fuel:Nat}{A:Option Addr}{len cap:Nat}{x:DataW H × List MemPlace}(h:DataW.trod enc Tryz.prog w base (fun _=>true) held fuel 37 [.slice A len cap]=some x):∃bs:List UInt8,Rd w w.heap.size A len bs/\len<=cap/\cap<=maxLen/\(A=none->cap=0):=by
 rcases open_ints Tryz.underlying37 Tryz.underlying5 (by kernel_rfl) h with⟨hcs,_⟩ | ⟨y,l,c,zs,hcs,_,hl,hm,hz,_,hcell,hwz⟩
 · simp at hcs;obtain⟨rfl,rfl,rfl⟩:=hcs;exact ajD (zs:= []) (.inl ⟨rfl,rfl,rfl,rfl⟩)
 · simp at hcs;obtain⟨rfl,rfl,rfl⟩:=hcs;exact ajD (zs:=zs) (.inr ⟨_,rfl,hl,hm,by simpa using hz,hcell,hwz⟩)
end
open Go.RowKit
section
variable {w w':World} {q g base cap c:Nat} {A:Option Addr} {bs out:List UInt8} {H H':Hp}
theorem auz (h:PH w q g base cap A c bs H) (hE:ET w) (h0:¬foot g A 0) (op:Nat) (hop:op<9) (p n m a bl k:Nat) (B:Option Addr) (b:List UInt8) (hp:p<18446744073709551616) (hn:n<18446744073709551616) (hm:m<18446744073709551616) (ha:a<18446744073709551616) (hbl:b.length=bl) (hr:Rd w w.heap.size B b.length b) (hb6:bl<=1000000):
 Calls Tryz.prog 20 #[.pointer (some ⟨q,0,none⟩),abp (op:Int) p n m a B bl k] w fun e w'=>adj (H.doC (op:Int) p n m a b).1 w e w'/\PTurn g base cap A (H.doC (op:Int) p n m a b).2 w w':=by
 have ho:op=0\/op=1\/op=2\/op=3\/op=4\/op=5\/op=6\/op=7\/op=8:=by omega
 rcases ho with rfl | rfl | rfl | rfl | rfl | rfl | rfl | rfl | rfl
 · exact av7 h hE h0 p n m a bl k B b
 · exact av8 h hE h0 p n m a bl k B b hn
 · exact av9 h hE h0 p n m a bl k B b hn hm
 · exact awa h hE h0 p n m a bl k B b hp
 · exact awb h hE h0 p n m a bl k B b hp hn
 · exact awc h hE h0 p n m a bl k B b hp
 · exact(aux h hE h0 p n m a bl k B b hp ha hn).mono fun e w' h=>⟨h.1,h.2.1⟩
 · exact awd h hE h0 p n m a bl k B b hp ha hbl hr hb6
 · exact awe h hE h0 p n m a bl k B b
theorem auA{op:Nat}(hop:op<9){p n m a:Nat}{b:List UInt8}:(H.doC (op:Int) p n m a b).2.cap=H.cap:=by
 have ho:op=0\/op=1\/op=2\/op=3\/op=4\/op=5\/op=6\/op=7\/op=8:=by omega
 rcases ho with rfl | rfl | rfl | rfl | rfl | rfl | rfl | rfl | rfl
 · have e:H.doC ((0:Nat):Int) p n m a b=_:=asH (H:=H) p n m a b;rw[e]
 · have e:H.doC ((1:Nat):Int) p n m a b=_:=aoo (H:=H) p n m a b;rw[e];exact aqH
 · have e:H.doC ((2:Nat):Int) p n m a b=_:=asI (H:=H) p n m a b;rw[e];exact aoh
 · have e:H.doC ((3:Nat):Int) p n m a b=_:=aqY (H:=H) p n m a b;rw[e];exact aqI
 · have e:H.doC ((4:Nat):Int) p n m a b=_:=asJ (H:=H) p n m a b;rw[e];exact ama
 · have e:H.doC ((5:Nat):Int) p n m a b=_:=asK (H:=H) p n m a b;rw[e]
 · have e:H.doC ((6:Nat):Int) p n m a b=_:=aop (H:=H) p n m a b;rw[e]
 · have e:H.doC ((7:Nat):Int) p n m a b=_:=aqZ (H:=H) p n m a b;rw[e];exact aoi
 · have e:H.doC ((8:Nat):Int) p n m a b=_:=asL (H:=H) p n m a b;rw[e]
theorem atf (h:RtD bs H) (hc:H.cap<=16384){op:Nat}(hop:op<9) (p n m a:Nat) (b:List UInt8):(H.doC (op:Int) p n m a b).1.hd<18446744073709551616:=by
 have ho:op=0\/op=1\/op=2\/op=3\/op=4\/op=5\/op=6\/op=7\/op=8:=by omega
 rcases ho with rfl | rfl | rfl | rfl | rfl | rfl | rfl | rfl | rfl
 · have e:H.doC ((0:Nat):Int) p n m a b=_:=asH (H:=H) p n m a b;rw[e];exact Nat.zero_lt_succ _
 · have e:H.doC ((1:Nat):Int) p n m a b=_:=aoo (H:=H) p n m a b;rw[e];exact atc h hc n 165
 · have e:H.doC ((2:Nat):Int) p n m a b=_:=asI (H:=H) p n m a b;rw[e];exact aqJ h hc n m
 · have e:H.doC ((3:Nat):Int) p n m a b=_:=aqY (H:=H) p n m a b;rw[e];exact Nat.zero_lt_succ _
 · have e:H.doC ((4:Nat):Int) p n m a b=_:=asJ (H:=H) p n m a b;rw[e];exact aoj h hc p n
 · have e:H.doC ((5:Nat):Int) p n m a b=_:=asK (H:=H) p n m a b;rw[e];exact Nat.zero_lt_succ _
 · have e:H.doC ((6:Nat):Int) p n m a b=_:=aop (H:=H) p n m a b;rw[e];exact Nat.zero_lt_succ _
 · have e:H.doC ((7:Nat):Int) p n m a b=_:=aqZ (H:=H) p n m a b;rw[e];exact Nat.zero_lt_succ _
 · have e:H.doC ((8:Nat):Int) p n m a b=_:=asL (H:=H) p n m a b;rw[e];exact Nat.zero_lt_succ _
end
theorem amf{n:Int}{l:List Rk}{d:List (List UInt8)}{out:List UInt8}(h:aew n l d=true) (ho:amd n l d=some out):∃N:Nat,n=(N:Int)/\184<=N/\N<=16384/\ace out=true/\abI out=some (l.map toB)/\out.length=N/\ofD out (l.map toB)=d/\l=(l.map toB).map toR:=by
 have hlo:ab0 n=true:=by unfold aew at h;rw[Bool.and_eq_true]at h;exact h.1
 have hlB:=(aaV n).1 hlo;obtain⟨N,rfl⟩:∃N:Nat,n=(N:Int):=⟨n.toNat,by omega⟩;have hrow:abh (N:Int) 184 false l=true:=by unfold aew at h;simp only[Bool.and_eq_true]at h;exact h.2.1
 obtain⟨out',_,_,hre,h1,h2,h3,h4⟩:=aia h;unfold amd at ho;rw[Int.toNat_natCast,hre]at ho;injection ho with ho;subst ho;exact⟨N,rfl,by omega,by omega,h1,h2,h3,h4,(age (o:=184) hrow).2.1⟩
theorem awf (x:Bk):toB (toR x)=x:=by
 unfold toB toR;simp
theorem avt (l:List Bk):(l.map toR).map toB=l:=by
 rw[List.map_map];exact(List.map_congr_left fun x _=>awf x).trans (List.map_id l)
theorem aq5{out:List UInt8}{H:Hp}(h:RtD out H){s:Nat}(hb:H.blks= [⟨184,s,true⟩]) (hc:H.cap<=16384):out.length=184+s/\aew ((184+s:Nat):Int) (H.blks.map toR) (ofD out H.blks)=true/\(aaZ out.length (H.blks.map toR) (ofD out H.blks)).length<=48+s:=by
 have hl:=h.rt.lenE;have hle:=h.rt.bound hc;rw[hb]at hl;have hl:out.length=184+s:=by
  rw[<-hl];unfold lenB;simp[abd]
 have hm:=aku h.rt.walk hle.1 h.rt.nfree.2.1;refine⟨hl,by rw[<-hl];exact hm,?_⟩;unfold aew at hm;simp only[Bool.and_eq_true]at hm;have hf:=af6 hm.2.1 hm.2.2;rw[ah3,List.length_map,hb];rw[hb]at hf;simp only[List.length_cons,List.length_nil];omega
theorem avu{bs:List UInt8}{H:Hp}(h:RtD bs H){n s:Nat}(x:UInt8) (hs:acn n=some s) (hz:aaG (s:Int)=true) (hr:s+anz H.blks<=H.cap):(H.get n x).1.2=0:=by
 have hr':=h.rt.room (s:=s) hz;rw[decide_eq_true hr,Bool.or_true]at hr'
 cases hq:(H.take s).1 with
 | none=>rw[hq]at hr';cases hr'
 | some o=>unfold Hp.get;rw[hs];dsimp only;rw[hq]
theorem atg{H:Hp}{s:Nat}(hb:H.blks= [⟨184,s,true⟩]):H.handleB 192=some 0:=by
 unfold Hp.handleB aa3;rw[hb];rfl
theorem avv{out:List UInt8}{H:Hp}(h:RtD out H){s:Nat}(hb:H.blks= [⟨184,s,true⟩]):∃d,H.ds= [d]/\ofD out H.blks= [d.2]:=by
 have hl:=h.dl;unfold Hp.Dl at hl;rw[hb]at hl;obtain⟨d,hd⟩:=List.length_eq_one_iff.1 hl;refine⟨d,hd,?_⟩;rw[amU h,hb,hd];rfl
theorem asP{H:Hp}{s:Nat}(hb:H.blks= [⟨184,s,true⟩]):(H.give 0).blks= [⟨184,s,false⟩]/\(H.give 0).cap=H.cap:=by
 obtain⟨cap,blks,ds,lists⟩:=H;dsimp only at hb;subst hb;exact⟨rfl,rfl⟩
def up19A:Hp:=((aez 1024).get 100 165).2
def up19B:Hp:=(up19A.writeP 192 0 [1,2,3]).2
theorem up19_1:((aez 1024).doC 1 0 100 0 0 [])=(⟨0,192,0,[],St5.none⟩,up19A):=by
 rw[aoo];exact Prod.ext (by kernel_rfl) rfl
theorem avw:(up19A.doC 7 192 0 0 0 [1,2,3])=(Rp.err 0,up19B):=by
 rw[aqZ];exact Prod.ext (by kernel_rfl) rfl
theorem avx:up19B.blks= [⟨184,128,true⟩]/\up19B.cap=1024:=by
 constructor<;>kernel_rfl
theorem avy{out:List UInt8}(h:RtD out up19B):ofD out up19B.blks= [1::2::3::List.replicate 109 165]:=by
 rw[amU h];kernel_rfl
theorem avz{out:List UInt8}{H:Hp}(h:RtD out H) (hb:H.blks= [⟨184,128,true⟩]) (hd:ofD out H.blks= [1::2::3::List.replicate 109 165]):H.doC 6 192 4 0 0 []=(⟨0,0,0,[1,2,3,165],St5.none⟩,H):=by
 obtain⟨d,e1,e2⟩:=avv h hb;rw[hd]at e2;have e3:1::2::3::List.replicate 109 165=d.2:=(List.cons.inj e2).1;rw[aop];unfold Hp.readP;rw[atg hb,e1];dsimp only;rw[show([d].getD 0 acc)=d from rfl,<-e3];rfl
section
variable {B:Nat} {w w':World} {q g base cap c:Nat} {A:Option Addr} {bs:List UInt8} {H:Hp}
theorem Hv.do4_ (h:Hv B w q g base cap A c bs H) (hB:B<=w.heap.size) (hE:ET w) (h0:0<B) (op:Nat) (hop:op<9) (p n m a bl k:Nat) (V:Option Addr) (b:List UInt8) (hp:p<18446744073709551616) (hn:n<18446744073709551616) (hm:m<18446744073709551616) (ha:a<18446744073709551616) (hbl:b.length=bl) (hr:Rd w w.heap.size V b.length b) (hb6:bl<=1000000) (r:Rp × Hp) (hd:H.doC (op:Int) p n m a b=r):
 Calls Tryz.prog 20 #[.pointer (some ⟨q,0,none⟩),abp (op:Int) p n m a V bl k] w fun e w'=>adj r.1 w e w'/\∃A' c' bs',Hv B w' q g base cap A' c' bs' r.2/\Tch (foot g A) w w'/\Below B w w'/\(A'=A\/∀a,A'=some a->w.heap.size<=a.block):=by
 have hc:r.2.cap=cap:=by rw[<-hd];exact(auA hop).trans h.ph.cp
 refine(auz h.ph hE (fun hf=>absurd (h.fB hf) (by omega)) op hop p n m a bl k V b hp hn hm ha hbl hr hb6).mono ?_;rintro e w' ⟨h1,h2⟩;rw[hd]at h1 h2;obtain⟨A',c',bs',hv,t,h3⟩:=h.turn hB h2 hc;exact⟨h1,A',c',bs',hv,t,h.low hB t,h3⟩
theorem Hv.do_ (h:Hv B w q g base cap A c bs H) (hB:B<=w.heap.size) (hE:ET w) (h0:0<B) (op:Nat) (hop:op<9) (p n m a bl k:Nat) (V:Option Addr) (b:List UInt8) (hp:p<18446744073709551616) (hn:n<18446744073709551616) (hm:m<18446744073709551616) (ha:a<18446744073709551616) (hbl:b.length=bl) (hr:Rd w w.heap.size V b.length b) (hb6:bl<=1000000) (r:Rp × Hp) (hd:H.doC (op:Int) p n m a b=r):
 Calls Tryz.prog 20 #[.pointer (some ⟨q,0,none⟩),abp (op:Int) p n m a V bl k] w fun e w'=>adj r.1 w e w'/\∃A' c' bs',Hv B w' q g base cap A' c' bs' r.2/\Tch (foot g A) w w'/\Below B w w':=
 (h.do4_ hB hE h0 op hop p n m a bl k V b hp hn hm ha hbl hr hb6 r hd).mono fun _ _ ⟨h1,A',c',bs',h2,h3,h4,_⟩=>⟨h1,A',c',bs',h2,h3,h4⟩
end
end Go.Proofs.YtncadccbepjekaaGreatDoor
