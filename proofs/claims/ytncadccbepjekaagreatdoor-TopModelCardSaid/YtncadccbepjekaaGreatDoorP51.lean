/- Texts of mine, joined. -/
import Derived.Deep.CutRange
import Derived.Test.YtncadccbepjekaaGreatDoorP45
import Derived.Test.YtncadccbepjekaaGreatDoorP48
import Derived.Test.YtncadccbepjekaaGreatDoorP49
set_option maxRecDepth 100000
set_option maxHeartbeats 4000000
namespace Go.Proofs.YtncadccbepjekaaGreatDoor
open Go.RowKit
def avA (B:Nat) (A:Option Addr) (H':Hp) (w:World) (e:Ending) (w':World):Prop:=
 ∃A' c' l',e= .returned (.tuple #[.slice A' l'.length c', .int .i64 1])/\Hs B w' A' c' l'/\Mp H' (l'.map Hq.two)/\Tch (am7 A) w w'
theorem MdT.told{B:Nat}{A:Option Addr}{L:List (Nat × List UInt8)}{H':Hp}{w w':World}{e:Ending}(h:MdT B A L w e w') (hm:Mp H' L):avA B A H' w e w':=by
 obtain⟨A',c',l',e1,h1,h2,h3⟩:=h;exact⟨A',c',l',e1,h1,by rw[h2];exact hm,h3⟩
section
variable {B:Nat} {w:World} {q g base cap ch:Nat} {Ah:Option Addr} {bs bs0:List UInt8} {H H':Hp} {A:Option Addr} {c:Nat} {l:List Hq}
theorem auC (l:List Hq):(l.map Hq.two).map Prod.fst=l.map Hq.p:=by
 rw[List.map_map];rfl
theorem auD (l:List Hq) (i:Nat):(l.take i++l.drop (i+1)).map Hq.two=(l.map Hq.two).take i++(l.map Hq.two).drop (i+1):=by
 rw[List.map_append,List.map_take,List.map_drop]
theorem aiv (h:RtD bs H') (hc:H'.cap<=16384){p:Nat}{b:List UInt8}(hb:H'.Has p b):H'.usableP p=(b.length,0):=by
 obtain⟨i,h1,h2⟩:=hb.handle h hc;unfold Hp.usableP;rw[h1];dsimp only;rw[h2]
theorem aq9 (hv:PH w q g base cap Ah ch bs H') (h:Hs B w A c l) (hBw:B<=w.heap.size) (hb:RtD bs0 H) (hcap:H.cap=cap) (hmp:Mp H (l.map Hq.two)) (hp16:cap<=16384) (op:Nat) (hop:op<9) (p n m a:Nat) (_hp:p<18446744073709551616) (hn:n<18446744073709551616) (_hm:m<18446744073709551616) (ha:a<18446744073709551616)
 (xA:Option Addr) (bl xc:Nat) (xb:List UInt8) (hxbl:xb.length=bl) (hbd:Rd w w.heap.size xA bl xb) (hbl:bl<=1000000) (r:Rp) (hd:H.doC (op:Int) p n m a xb=(r,H')) (rA:Option Addr) (rc:Nat) (hrd:Rd w w.heap.size rA r.b.length r.b):
 Calls Tryz.prog 107 #[.pointer (some ⟨q,0,none⟩), .slice A l.length c,abp (op:Int) p n m a xA bl xc,rpV r rA rc, .int .i64 (cap:Int)] w fun e w'=>avA B A H' w e w':=by
 have hlen:=hmp.len hb (by rw[hcap];exact hp16);rw[List.length_map]at hlen;have hmem:∀x∈l,H.Has x.p x.b:=fun x hx=>(hmp.all _ _).1 (List.mem_map.2 ⟨x,hx,rfl⟩);have hlm:Lm l:=fun x hx=>by
  have:=(hmem x hx).sz hb;have h2:=hb.rt.len;rw[hcap]at h2;omega
 have hnd:(l.map Hq.p).Nodup:=by rw[<-auC];exact hmp.nd
 have hp162:H.cap<=16384:=by rw[hcap];exact hp16
 have hp163:H'.cap<=16384:=by rw[hv.cp];exact hp16
 have hfind:(H.handleB p=none/\∀x∈l,x.p≠p)\/∃(i0 i:Nat) (x:Hq),H.handleB p=some i0/\l[i]?=some x/\x.p=p/\x.b=(H.ds.getD i0 acc).2:=by
  cases hh:H.handleB p with
  | none=>exact .inl ⟨rfl,fun x hx e=>aqf hb hp162 hh (e▸hmem x hx)⟩
  | some i0=>
   right;obtain⟨x,hx,e⟩:=List.mem_map.1 ((hmp.all _ _).2 (anY hb.dl hh));obtain⟨i,hi⟩:=List.mem_iff_getElem?.1 hx;exact⟨i0,i,x,rfl,hi,congrArg Prod.fst e,congrArg Prod.snd e⟩
 have hcut:∀{i:Nat} {x:Hq},l[i]?=some x->(((l.take i++l.drop (i+1)).map Hq.two).map Prod.fst).Nodup/\(∀y∈(l.take i++l.drop (i+1)).map Hq.two,y.1≠x.p)/\∀p b,(p,b)∈(l.take i++l.drop (i+1)).map Hq.two ↔ H.Has p b/\p≠x.p:=fun {i x} hx=>by
  rw[auD];exact hmp.cut (x:=x.two) (by rw[List.getElem?_map,hx];rfl)
 have hcases:op=0\/op=1\/op=2\/op=3\/op=4\/op=5\/op=6\/op=7\/op=8:=by omega
 have hget:∀(N:Nat) (v:UInt8),aov (H.get N v)=(r,H')->(r.code=5/\H'=H/\r=⟨5,0,0,[],St5.none⟩)\/∃k,r=⟨0,r.hd,0,[],St5.none⟩/\N<=k/\k<=16384/\r.hd%16=0/\r.hd+k<=cap/\H'.usableP r.hd=(k,0)/\(∀x∈l,x.p+x.b.length<=r.hd\/r.hd+k<=x.p)/\Mp H' (l.map Hq.two++ [(r.hd,List.replicate k v)]):=fun N v e=>by
  have e1:(H.get N v).2=H':=congrArg Prod.snd e;have e2:(⟨(H.get N v).1.2,(H.get N v).1.1,0,[],St5.none⟩:Rp)=r:=congrArg Prod.fst e;rcases at7 hb hp162 N v (out:=bs) (by rw[e1];exact hv.rd) (by rw[e1];exact hp163)with⟨g1,g2⟩ | ⟨P,k,g1,k1,_,_,k4,k5,k6⟩
  · left;rw[g1]at e2;exact⟨by rw[<-e2],by rw[<-e1,g2],e2.symm⟩
  · right;rw[g1]at e2;rw[e1]at k5 k6;subst e2;dsimp only;have hs:=k5.sz hv.rd;have hl2:=hv.rd.rt.len;rw[hv.cp]at hl2;rw[List.length_replicate]at hs;refine⟨k,rfl,k1,by omega,hs.1,by omega,?_,fun x hx=> ?_,?_⟩
    · have:=aiv hv.rd hp163 k5;rw[List.length_replicate]at this;exact this
    · have hx2:H'.Has x.p x.b:=(k6 _ _).2 (.inr (hmem x hx));have:=hx2.apart hv.rd k5 (fun e=>k4 x.b (e▸hmem x hx));rw[List.length_replicate]at this;exact this
    · refine Mp.snoc (H':=H') hmp.nd (P,List.replicate k v) (fun y hy e=> ?_) fun p' b'=> ?_
      · obtain⟨x,hx,rfl⟩:=List.mem_map.1 hy;exact k4 x.b (by have:=hmem x hx;rw[show x.p=P from e]at this;exact this)
      · rw[k6,hmp.all]
 unfold rpV ahB abp;rcases hcases with rfl | rfl | rfl | rfl | rfl | rfl | rfl | rfl | rfl
 · have e:H.doC ((0:Nat):Int) p n m a xb=(Rp.err 1,H):=asH (H:=H) p n m a xb;rw[e]at hd;obtain⟨rfl,rfl⟩:=Prod.mk.inj hd;exact(aqM h (by omega) _ _ p n m a xA bl xc 0 0 rA 0 rc 0 0 0 0 0 1).mono fun e w' h=>h.told hmp
 · have e:H.doC ((1:Nat):Int) p n m a xb=aov (H.get n 165):=aoo (H:=H) p n m a xb;rw[e]at hd;rcases hget n 165 hd with⟨_,rfl,rfl⟩ | ⟨k,k0,k1,k2,k3,k4,k5,k6,k7⟩
   · exact(aqL h (by omega) _ _ p n m a xA bl xc 0 0 rA 0 rc 0 0 0 0 0).mono fun e w' h=>h.told hmp
   · rw[k0];exact(auw h (by omega) p n m a xA bl xc r.hd k 0 rA 0 rc 0 0 0 0 0 hv k5 hlm k1 k2 k3 k4 hp16 k6 hBw).mono fun e w' h=>h.told k7
 · have e:H.doC ((2:Nat):Int) p n m a xb=aov (H.calloc n m):=asI (H:=H) p n m a xb;rw[e]at hd;unfold Hp.calloc at hd;by_cases hov:18446744073709551615<n*m
   · rw[if_pos hov]at hd;obtain⟨rfl,rfl⟩:=Prod.mk.inj hd;exact(akN h (by omega) _ _ p n m a xA bl xc 0 0 rA 0 rc 0 0 0 0 0).mono fun e w' h=>h.told hmp
   · rw[if_neg hov]at hd;rcases hget (n*m) 0 hd with⟨_,rfl,rfl⟩ | ⟨k,k0,k1,k2,k3,k4,k5,k6,k7⟩
     · exact(akN h (by omega) _ _ p n m a xA bl xc 0 0 rA 0 rc 0 0 0 0 0).mono fun e w' h=>h.told hmp
     · rw[k0];by_cases hn0:n=0
       · exact(asF h (by omega) p n m a xA bl xc r.hd k 0 rA 0 rc 0 0 0 0 0 hv k5 hlm k1 k2 k3 k4 hp16 k6 hBw hn0).mono fun e w' h=>h.told k7
       · exact(asG h (by omega) p n m a xA bl xc r.hd k 0 rA 0 rc 0 0 0 0 0 hv k5 hlm k1 k2 k3 k4 hp16 k6 hBw (by omega)).mono fun e w' h=>h.told k7
 · have e:H.doC ((3:Nat):Int) p n m a xb=(Rp.err (H.freeP p).1,(H.freeP p).2):=aqY (H:=H) p n m a xb;rw[e]at hd;unfold Hp.freeP at hd;rcases hfind with⟨h1,h2⟩ | ⟨i0,i,x,h1,h2,rfl,h4⟩
   · rw[h1]at hd;obtain⟨rfl,rfl⟩:=Prod.mk.inj hd;exact(ahe h (by omega) _ _ p n m a xA bl xc 0 0 rA 0 rc 0 0 0 0 0 3 (by omega) (by omega) h2).mono fun e w' h=>h.told hmp
   · rw[h1]at hd;obtain⟨rfl,rfl⟩:=Prod.mk.inj hd;refine(aus hBw h (by omega) _ _ x.p n m a xA bl xc 0 0 rA 0 rc 0 0 0 0 0 h2 hnd rfl).mono fun e w' h=>h.told ?_;obtain⟨c1,c2,c3⟩:=hcut h2;exact⟨c1,fun p' b'=>by rw[c3,asi hb h1]⟩
 · have e:H.doC ((4:Nat):Int) p n m a xb=aov (H.realloc p n):=asJ (H:=H) p n m a xb;rw[e]at hd;rcases hfind with⟨h1,h2⟩ | ⟨i0,i,x,h1,h2,rfl,h4⟩
   · unfold Hp.realloc at hd;rw[h1]at hd;obtain⟨rfl,rfl⟩:=Prod.mk.inj hd;exact(ahe h (by omega) _ _ p n m a xA bl xc 0 0 rA 0 rc 0 0 0 0 0 4 (by omega) (by omega) h2).mono fun e w' h=>h.told hmp
   · have e1:(H.realloc x.p n).2=H':=congrArg Prod.snd hd;have e2:(⟨(H.realloc x.p n).1.2,(H.realloc x.p n).1.1,0,[],St5.none⟩:Rp)=r:=congrArg Prod.fst hd;rcases alO hb hp162 n h1 (out:=bs) (by rw[e1];exact hv.rd)with⟨g1,g2⟩ | ⟨P,k,g1,k1,_,k4,k5,k6⟩
     · rw[g1]at e2;subst e2;obtain rfl:H=H':=by rw[<-e1,g2]
       exact(aok h (by omega) _ _ x.p n m a xA bl xc 0 0 rA 0 rc 0 0 0 0 0 h2 hnd rfl).mono fun e w' h=>h.told hmp
     · rw[g1]at e2;rw[e1]at k5 k6;subst e2;dsimp only;obtain⟨c1,c2,c3⟩:=hcut h2;have hs:=k5.sz hv.rd;have hl2:=hv.rd.rt.len;rw[hv.cp]at hl2;rw[adc]at hs;have hu:=aiv hv.rd hp163 k5;rw[adc]at hu;rw[<-h4]at k5 k6;have hne:∀y∈(l.take i++l.drop (i+1)).map Hq.two,y.1≠P:=fun y hy e=>by
        obtain⟨y1,y2⟩:=(c3 y.1 y.2).1 hy;rw[e]at y1 y2;exact k4 _ y2 y1
       refine(awh h (by omega) x.p n m a xA bl xc P k 0 rA 0 rc 0 0 0 0 0 hv hu hlm h2 hnd rfl x.b.length rfl k1 (by omega) hs.1 (by omega) hp16 (fun y hy=> ?_) hBw).mono fun e w' h=>h.told (Mp.snoc c1 (P,acP x.b k 165) hne fun p' b'=> ?_)
       · have hy2:y.two∈(l.take i++l.drop (i+1)).map Hq.two:=List.mem_map.2 ⟨y,hy,rfl⟩;have hy3:H'.Has y.p y.b:=(k6 _ _).2 (.inr ((c3 y.p y.b).1 hy2));have:=hy3.apart hv.rd k5 (hne _ hy2);rw[adc]at this;exact this
       · rw[k6,c3]
 · have e:H.doC ((5:Nat):Int) p n m a xb=(⟨(H.usableP p).2,0,(H.usableP p).1,[],St5.none⟩,H):=asK (H:=H) p n m a xb;rw[e]at hd;unfold Hp.usableP at hd;rcases hfind with⟨h1,h2⟩ | ⟨i0,i,x,h1,h2,rfl,h4⟩
   · rw[h1]at hd;obtain⟨rfl,rfl⟩:=Prod.mk.inj hd;exact(ahe h (by omega) _ _ p n m a xA bl xc 0 0 rA 0 rc 0 0 0 0 0 5 (by omega) (by omega) h2).mono fun e w' h=>h.told hmp
   · rw[h1]at hd;dsimp only at hd;rw[<-h4]at hd;obtain⟨rfl,rfl⟩:=Prod.mk.inj hd;exact(avp h (by omega) _ _ x.p n m a xA bl xc 0 x.b.length rA 0 rc 0 0 0 0 0 h2 hnd rfl rfl (hlm x (List.mem_of_getElem? h2)).2).mono fun e w' h=>h.told hmp
 · have e:H.doC ((6:Nat):Int) p n m a xb=(⟨(H.readP p a n).2,0,0,(H.readP p a n).1,St5.none⟩,H):=aop (H:=H) p n m a xb;rw[e]at hd;unfold Hp.readP at hd;rcases hfind with⟨h1,h2⟩ | ⟨i0,i,x,h1,h2,rfl,h4⟩
   · rw[h1]at hd;obtain⟨rfl,rfl⟩:=Prod.mk.inj hd;exact(ahe h (by omega) _ _ p n m a xA bl xc 0 0 rA 0 rc 0 0 0 0 0 6 (by omega) (by omega) h2).mono fun e w' h=>h.told hmp
   · rw[h1]at hd;dsimp only at hd;rw[<-h4]at hd;have hx16:=(hlm x (List.mem_of_getElem? h2)).2;by_cases hr:x.b.length<a+n
     · rw[if_pos hr]at hd;obtain⟨rfl,rfl⟩:=Prod.mk.inj hd;exact(aq1 h (by omega) _ _ x.p n m a xA bl xc 0 0 rA 0 rc 0 0 0 0 0 h2 hnd rfl _ rfl hx16 ha hn hr).mono fun e w' h=>h.told hmp
     · rw[if_neg hr]at hd;obtain⟨rfl,rfl⟩:=Prod.mk.inj hd;dsimp only at hrd ⊢;have hl:((x.b.drop a).take n).length=n:=by rw[List.length_take,List.length_drop];omega
       rw[hl]at hrd ⊢;have hx0:=((hmem x (List.mem_of_getElem? h2)).sz hb).2.2.2;obtain⟨c1,c2,c3⟩:=hcut h2;refine(auy h (by omega) _ _ x.p n m a xA bl xc 0 0 rA n rc 0 0 0 0 0 h2 hnd rfl _ rfl (by omega) hx16 (by omega) hBw _ rfl hrd).mono fun e w' h=>h.told (Mp.snoc c1 (x.p,x.b) c2 fun p' b'=> ?_);rw[c3];constructor
       · intro h7;by_cases e7:p'=x.p
         · left;refine⟨e7,?_⟩;subst e7;exact Hp.Has.uniq hb.rt.one h7 (hmem x (List.mem_of_getElem? h2))
         · exact .inr ⟨h7,e7⟩
       · rintro(⟨rfl,rfl⟩ | ⟨h7,_⟩)
         · exact hmem x (List.mem_of_getElem? h2)
         · exact h7
 · have e:H.doC ((7:Nat):Int) p n m a xb=(Rp.err (H.writeP p a xb).1,(H.writeP p a xb).2):=aqZ (H:=H) p n m a xb;rw[e]at hd;unfold Hp.writeP at hd;rcases hfind with⟨h1,h2⟩ | ⟨i0,i,x,h1,h2,rfl,h4⟩
   · rw[h1]at hd;obtain⟨rfl,rfl⟩:=Prod.mk.inj hd;exact(ahe h (by omega) _ _ p n m a xA bl xc 0 0 rA 0 rc 0 0 0 0 0 7 (by omega) (by omega) h2).mono fun e w' h=>h.told hmp
   · rw[h1]at hd;dsimp only at hd;rw[<-h4,hxbl]at hd;have hx16:=(hlm x (List.mem_of_getElem? h2)).2;by_cases hr:x.b.length<a+bl
     · rw[if_pos hr]at hd;obtain⟨rfl,rfl⟩:=Prod.mk.inj hd;exact(aq2 h (by omega) _ _ x.p n m a xA bl xc 0 0 rA 0 rc 0 0 0 0 0 h2 hnd rfl _ rfl hx16 ha (by omega) hr hbl).mono fun e w' h=>h.told hmp
     · rw[if_neg hr]at hd;obtain⟨rfl,rfl⟩:=Prod.mk.inj hd;have hx0:=((hmem x (List.mem_of_getElem? h2)).sz hb).2.2.2;obtain⟨c1,c2,c3⟩:=hcut h2;refine(asN h (by omega) _ _ x.p n m a xA bl xc 0 0 rA 0 rc 0 0 0 0 0 h2 hnd rfl _ rfl (by omega) hx16 (by omega) hBw xb hxbl hbd).mono fun e w' h=>h.told (Mp.snoc c1 (x.p,lay x.b a xb) c2 fun p' b'=> ?_);rw[c3,asj hb h1]
 · have e:H.doC ((8:Nat):Int) p n m a xb=(⟨0,0,0,[],H.stats⟩,H):=asL (H:=H) p n m a xb;rw[e]at hd;obtain⟨rfl,rfl⟩:=Prod.mk.inj hd;exact(aqN h (by omega) _ _ p n m a xA bl xc 0 0 rA 0 rc _ _ _ _ _ 0).mono fun e w' h=>h.told hmp
end
section
variable {B:Nat} {w w':World} {A:Option Addr} {c:Nat} {l:List Hq}
theorem Hs.typA (h:Hs B w A c l){k:Nat}(hk:am7 A k):B<=k/\∃cs,w.heap[k]?=some (.cells cs 114 (0,0)):=by
 obtain⟨a,rfl,rfl⟩:=hk;rcases h.own.2 with⟨h',_⟩ | ⟨g,cap,cur,hv,hg,hh,_⟩
 · injection h' with e1
   cases e1
 · injection hv with e1;injection e1 with e1;subst e1;exact⟨hg,cur,hh⟩
theorem Hs.othA (h:Hs B w A c l){k:Nat}(hk:am7 A k):Oth w k:=by
 obtain⟨_,cs,hc⟩:=h.typA hk;exact⟨cs,_,hc,by decide,by decide,by decide⟩
theorem Hs.keepRow (h:Hs B w A c l) (ht:Tch (am7 A) w w'){B' n size:Nat}{ty:TypeId}{v:Value}{xs:List Value}(ho:w.ownsRow B' ty size v n xs) (hty:ty≠114):w'.ownsRow B' ty size v n xs:=by
 refine⟨ho.1,?_⟩;rcases ho.2 with h2 | ⟨g',cap',cur,hv,hg,hh,r⟩
 · exact .inl h2
 · refine .inr ⟨g',cap',cur,hv,hg,(ht.block g' (aae hh) fun hs=> ?_).trans hh,r⟩;obtain⟨_,cs,hc⟩:=h.typA hs;rw[hh]at hc;injection hc with e1;injection e1 with _ e2 _;exact hty e2
theorem Hs.keepT (h:Hs B w A c l){B' n ct:Nat}{At:Option Addr}{xs:List Value}(ho:w.ownsRow B' 25 1 (.slice At n ct) n xs) (ht:Tch (fun k=>(Value.slice At n ct).ownBlock=some k) w w'):Hs B w' A c l:=by
 refine h.keep fun k cs ty hk hty=>ht.block k (aae hk) fun hs=> ?_;rcases ho.2 with⟨h',_⟩ | ⟨g',cap',cur,hv,hg,hh,r⟩
 · injection h' with e _ _;subst e
   cases hs
 · injection hv with e _ _;subst e;injection hs with hs;subst hs;rw[hh]at hk;injection hk with e1;injection e1 with _ e2 _;rcases hty with rfl | rfl<;>exact absurd e2 (by decide)
theorem Hs.lowA (h:Hs B w A c l) (hB:B<=w.heap.size) (ht:Tch (am7 A) w w'):Below B w w':=ht.below (fun _ hk=>(h.typA hk).1) hB
end
theorem ara{w w7:World}{g B n c:Nat}{A':Option Addr}{xs:List Value}{cs:Array Value}{t:TypeId}(ho:w.ownsRow B 5 1 (.slice A' n c) n xs) (hg:w.heap[g]?=some (.cells cs t (0,0))) (ht:5≠t) (hk:∀k,k≠g->w7.heap[k]?=w.heap[k]?):w7.ownsRow B 5 1 (.slice A' n c) n xs:=by
 refine⟨ho.1,?_⟩;rcases ho.2 with h2 | ⟨g',cap',cur,hv,hg',hh,r⟩
 · exact .inl h2
 · refine .inr ⟨g',cap',cur,hv,hg',(hk g' fun e=> ?_).trans hh,r⟩;subst e;rw[hh]at hg;injection hg with e1;injection e1 with _ e2 _;exact ht e2
theorem ane (ρ:Operand->Value) (o:Oper) (ho:o.op= .alloc 50) (w:World):
 (execOp ρ o).run Tryz.prog w= .ok (.value (.pointer (some ⟨w.heap.size,0,none⟩))) (w.alloc (.cells #[.int .i64 0, .int .u64 0, .int .u64 0, .slice none 0 0, .int .i64 0, .int .i64 0, .int .i64 0, .int .i64 0, .int .i64 0] 50)):=by
 unfold execOp;simp only[ho];simp[go_sem]
def awv (B q g base cap:Nat) (w:World) (e:Ending) (w':World):Prop:=
 e= .returned (.bool true)/\Below B w w'/\∃A' c' bs' H',Hv B w' q g base cap A' c' bs' H'
theorem asS{B:Nat}(w:World) (hE:∀W,Below B w W->ET W) (h0:0<B) (hB:B<=w.heap.size){q g base cap c1:Nat}{A1:Option Addr}{b1:List UInt8}{H:Hp}(hv:Hv B w q g base cap A1 c1 b1 H){A:Option Addr}{c:Nat}{l:List Hq}(hs:Hs B w A c l) (hmp:Mp H (l.map Hq.two)) (Ac:Option Addr) (k:Nat) (cl:List Cl) (hL:ClRd w B Ac cl) (hcl:cl.length<=100) (hsb:∀x∈cl,x.b.length<=2000) (At:Option Addr) (ct:Nat) (told:List Nat) (hown:w.ownsRow B 25 1 (.slice At told.length ct) told.length (told.map uV)) (htl:told.length<=100) (h64:∀v∈told,v<18446744073709551616):
 Calls Tryz.prog 48 #[.pointer (some ⟨q,0,none⟩), .slice A l.length c, .slice Ac cl.length k, .slice At told.length ct, .int .i64 (cap:Int)] w fun e w'=>awv B q g base cap w e w':=by
 have HSB:Hid (∀x∈cl,x.b.length<=2000):=hsb;have HL:=hE0 hL;have HE:Hid (∀W,Below B w W->ET W):=hE;have HBW:Hid (B<=w.heap.size):=hB;have HC16:=hE0 hv.ph.c16;obtain⟨n,hn⟩:=nmE cl.length;have HNL:=hE0 hn;rw[hn]at hcl ⊢;have hT:∃x1 x2,x1=Value.slice A l.length c/\x2=Value.slice At told.length ct:=⟨_,_,rfl,rfl⟩;obtain⟨x1,x2,hx1,hx2⟩:=hT;rw[<-hx1,<-hx2];have HS0:Hid (∃(l:List Hq) (A:Option Addr) (c:Nat) (told:List Nat) (At:Option Addr) (ct:Nat) (H:Hp) (A1:Option Addr) (c1:Nat) (b1:List UInt8),x1= .slice A l.length c/\x2= .slice At told.length ct/\told.length<=100/\(∀v∈told,v<18446744073709551616)/\w.ownsRow B 25 1 (.slice At told.length ct) told.length (told.map uV)/\Hv B w q g base cap A1 c1 b1 H/\Hs B w A c l/\Mp H (l.map Hq.two)):=⟨l,A,c,told,At,ct,H,A1,c1,b1,hx1,hx2,htl,h64,hown,hv,hs,hmp⟩;clear hsb hL hE hn hB hv hs hmp hown htl h64 hx1 hx2;go_enter Tryz.func48,Tryz.ntmps48
 go_wp2_with fail
 go_loopw [1,3,11] (fun x1 x2 i wr=>∃(j:Nat) (l:List Hq) (A:Option Addr) (c:Nat) (told:List Nat) (At:Option Addr) (ct:Nat) (H:Hp) (A1:Option Addr) (c1:Nat) (b1:List UInt8),x1= .slice A l.length c/\x2= .slice At told.length ct/\i= .int .i64 (j:Int)/\j<=n/\told.length<=100+j/\(∀v∈told,v<18446744073709551616)/\wr.ownsRow B 25 1 (.slice At told.length ct) told.length (told.map uV)/\Hv B wr q g base cap A1 c1 b1 H/\Hs B wr A c l/\Mp H (l.map Hq.two)/\Below B w wr) (fun _ _ i _=>n-(intOf i).toNat)
 case atStart=>
  obtain⟨l,A,c,told,At,ct,H,A1,c1,b1,h1,h2,h3,h4,h5,h6,h7,h8⟩:=HS0.out;exact⟨0,l,A,c,told,At,ct,H,A1,c1,b1,h1,h2,rfl,Nat.zero_le _,h3,h4,h5,h6,h7,h8,Below.refl _ _⟩
 case round=>
  clear HS0;obtain⟨j,l,A,c,told,At,ct,H,A1,c1,b1,rfl,rfl,rfl,hj,htl,h64,hown,hv,hs,hmp,hb⟩:=hrel;have hln512:=hmp.len hv.ph.rd (by rw[hv.ph.cp];exact HC16.out);rw[List.length_map]at hln512;have HBWR:Hid (B<=wr.heap.size):=hE0 (Nat.le_trans HBW.out hb.size);by_cases hlt:j<n
  · obtain⟨x,hx⟩:∃x,cl[j]?=some x:=⟨cl[j]'(by rw[HNL.out];exact hlt),List.getElem?_eq_getElem _⟩;obtain⟨b,o,hA,hbB,hcx⟩:=(HL.out.below hb) (by rw[HNL.out];omega);subst hA;obtain⟨⟨i0,i1,i2,i3,i4,i5,i6⟩,hxr,hok⟩:=hcx j x hx;have HXR:=hE0 hxr;have HXB:=hE0 (hxr.more HBWR.out);clear hcx hxr;have hbl2:=HSB.out x (List.mem_of_getElem? hx);obtain⟨o9,ho9⟩:=nmE (ahj x);obtain⟨p9,hp⟩:=nmE (ahi x told);have hp64:p9<18446744073709551616:=by rw[<-hp];exact akS x told hok.2.2.1
    have ho9l:o9<9:=by rw[<-ho9];exact ahk x
    have hM:=akT wr x hok At ct told B (Tl.own hown) (by omega) h64;rw[ho9,hp]at hM;obtain⟨_,_,hh,hn,hm,ha,_⟩:=hok;obtain⟨wh,xo,xh,xn,xm,xa,xA,xc,xb⟩:=x;dsimp only at i0 i1 i2 i3 i4 i5 i6 hM hbl2 hh hn hm ha HXB HXR;obtain⟨bl,hbl⟩:=nmE xb.length;rw[hbl]at i6 hM hbl2 HXB HXR;have HBLN:=hE0 hbl;have HV:=hE0 hv;have HOW:=hE0 hown;have H64:=hE0 h64;have HBB:=hE0 hb;have HS:=hE0 hs;have HMP:=hE0 hmp;unfold abp at hM;have HM:=hE0 hM;clear hx hb hv hown h64 hbl ho9 hp hh hs hmp hM;go_wp2_with fail
    refine HM.out.mono ?_;rintro e w3 ⟨rfl,hb3⟩;have hv3:=HV.out.below hb3;obtain⟨w4,hw4,n4,b4⟩:=acv w3 43 (.int .i64 (o9:Int)) (.int .u64 (p9:Int)) (.int .u64 (xn:Int)) (.int .u64 (xm:Int)) (.int .u64 (xa:Int)) (.slice xA bl xc);obtain⟨⟨y0,y1,y2,y3,y4,y5⟩,_,hy6⟩:=aa4 n4.out;have hb4:Below wr.heap.size wr w4:=hb3.trans (b4.out.mono hb3.size);have HB34:=hE0 hb4;have HBB4:=hE0 (HBB.out.trans (hb4.mono HBWR.out));have HV4:=hE0 (HV.out.below hb4);have HO4:=hE0 (aaw HOW.out hb4);have HS4:=hE0 (HS.out.below hb4);have HXB4:=hE0 ((HXB.out.below hb4).more hb4.size);have HB4:Hid (B<=w4.heap.size):=hE0 (Nat.le_trans HBWR.out hb4.size);obtain⟨dc,hdc⟩:=nmE (H.doC (o9:Int) p9 xn xm xa xb);have hch:=atf HV4.out.ph.rd (by rw[HV4.out.ph.cp];exact HC16.out) ho9l p9 xn xm xa xb;rw[hdc]at hch;have hd:=HV4.out.do_ HB4.out (HE.out _ HBB4.out) h0 o9 ho9l p9 xn xm xa bl xc xA xb hp64 hn hm ha HBLN.out (by rw[HBLN.out];exact HXB4.out) (by omega) dc hdc;obtain⟨⟨ck,ch,cn,cb,⟨s0,s1,s2,s3,s4⟩⟩,H1⟩:=dc;unfold abp at hd;dsimp only at hd hch;obtain⟨cbl,hcbl⟩:=nmE cb.length;have HDO:=hE0 hd;have HCH:=hE0 hch;have HCBL:=hE0 hcbl;have HDC:=hE0 hdc;clear hb3 hv3 hb4 hd hch hdc hcbl HM i0 i1 i2 i3 i4 i5 i6 HV HOW HS HXB;go_wp2_with (first | (rw[hw4.out]) | fail)
    refine HDO.out.mono ?_;rintro e w5 ⟨⟨A',c',rfl,hob⟩,A1',c1',b1',hv5,t5,bb5⟩;unfold rpV ahB;dsimp only at hob hv5 ⊢;rw[HCBL.out];rw[HCBL.out]at hob;have HO5:=hE0 (HV4.out.ph.ownO t5 HO4.out (by decide) (by decide) (by decide));have HS5:=hE0 (HS4.out.heapO HV4.out.ph t5);have HBB5:=hE0 (HBB4.out.trans bb5);have HXR5:=hE0 (HXR.out.below ((HB34.out.mono HBWR.out).trans bb5));have n5:Hid (w5.heap[w3.heap.size]?=some (.cells #[.int .i64 (o9:Int), .int .u64 (p9:Int), .int .u64 (xn:Int), .int .u64 (xm:Int), .int .u64 (xa:Int), .slice xA bl xc] 43 (0,0))):=hE0 (HV4.out.ph.locO t5 n4.out (by decide) (by decide) (by decide));have hE5:=HE.out _ HBB5.out;obtain⟨w6,hw6,n6,b6⟩:=abx w5 50 (.int .i64 ck) (.int .u64 (ch:Int)) (.int .u64 (cn:Int)) (.slice A' cbl c') (.int .i64 (s0:Int)) (.int .i64 (s1:Int)) (.int .i64 (s2:Int)) (.int .i64 (s3:Int)) (.int .i64 (s4:Int));obtain⟨⟨z0,z1,z2,z3,z4,z5,z6,z7,z8⟩,_,hz8⟩:=aaS n6.out;have m5:=hE0 ((b6.out.block _ (aaa n5.out)).trans n5.out);obtain⟨⟨y0,y1,y2,y3,y4,y5⟩,_,hy6⟩:=aa4 m5.out;have hB5:B<=w5.heap.size:=Nat.le_trans HB4.out t5.size;have HB6:Hid (B<=w6.heap.size):=hE0 (Nat.le_trans hB5 b6.out.size);have HV6:=hE0 (hv5.below b6.out);have HO6:=hE0 (aaw HO5.out b6.out);have HS6:=hE0 (HS5.out.below b6.out);have HBB6:=hE0 (HBB5.out.trans (b6.out.mono hB5));have hrd6:Rd w6 w6.heap.size A' cb.length cb:=by
     refine⟨rfl,fun hn=> ?_⟩;have:=ahD hob (by rw[<-HCBL.out];exact hn);obtain⟨g0,cap0,e0,_,h4⟩:=this;injection e0 with e1 _ _;subst e1;have h5:=(h4.below b6.out).more b6.out.size;rw[<-HCBL.out]at h5;exact h5.2 hn
    have hxb6:Rd w6 w6.heap.size xA bl xb:=(HXR5.out.below (b6.out.mono hB5)).more HB6.out;have HMD:=aq9 HV6.out.ph HS6.out HB6.out HV4.out.ph.rd HV4.out.ph.cp HMP.out HC16.out o9 ho9l p9 xn xm xa hp64 hn hm ha xA bl xc xb HBLN.out hxb6 (by omega) ⟨ck,ch,cn,cb,⟨s0,s1,s2,s3,s4⟩⟩ HDC.out A' c' hrd6;unfold abp rpV ahB at HMD;dsimp only at HMD;rw[HCBL.out]at HMD;obtain⟨ln,hln⟩:=nmE l.length;rw[hln]at HMD;have HMO:=hE0 HMD;clear HMD hrd6 hxb6 hob hv5 t5 bb5 hE5 HDO HV4 HO4 HS4 HBB4 HXB4 HB4 HO5 HS5 HBB5 HXR5 HXR HB34 hB5 HMP;go_wp2_with (first | (rw[hw6.out]) | fail)
    refine HMO.out.mono ?_;rintro e w7 ⟨A7,c7,l7,rfl,hs7,hmp7,t7⟩;have HB7:=hE0 (HS6.out.lowA HB6.out t7);have HB7S:Hid (B<=w7.heap.size):=hE0 (Nat.le_trans HB6.out t7.size);have HV7:=hE0 (HV6.out.keepO t7 (fun k hk hf=>HV6.out.ph.oth (HS6.out.othA hf) hk));have HO7:=hE0 (HS6.out.keepRow t7 HO6.out (by decide));have HBB7:=hE0 (HBB6.out.trans HB7.out);have HS7:=hE0 hs7;have HMP7:=hE0 hmp7;have hl7:=hmp7.len HV7.out.ph.rd (by rw[HV7.out.ph.cp];exact HC16.out);rw[List.length_map]at hl7;obtain⟨ln7,hln7⟩:=nmE l7.length;have HLN7:=hE0 hln7;rw[hln7]at hl7 ⊢;have z1':w7.cell? ⟨w5.heap.size,1,none⟩=some (.int .u64 (ch:Int)):=by
     have e1:=t7.block w5.heap.size (aaa n6.out) fun hs=>by
      obtain⟨_,cs,hc⟩:=HS6.out.typA hs;rw[n6.out]at hc;injection hc with e1;injection e1 with _ e2 _;exact absurd e2 (by decide)
     exact(World.cell?_of_block (a:=⟨w5.heap.size,1,none⟩) e1).trans z1
    have hz7:w5.heap.size<w7.heap.size:=Nat.lt_of_lt_of_le (aaa n6.out) t7.size;clear hs7 hmp7 t7 hln7 HMO HV6 HO6 HS6 HBB6 HB7 y0 y1 y2 y3 y4 y5 hy6 z0 z1 z2 z3 z4 z5 z6 z7 z8 hz8 m5;have g6:decide (600<(ln7:Int))=false:=decide_eq_false (by omega);have g6n:decide (600<ln7)=false:=decide_eq_false (by omega);by_cases hch0:ch=0
    · have gz:((ch:Int) !=0)=false:=by rw[bne_eq_false_iff_eq];omega
      clear hch0;go_wp2_with fail
      go_roundw
      case rel=>exact⟨j+1,l7,A7,c7,told,At,ct,H1,A1',c1',b1',by rw[HLN7.out],rfl,by go_num,by omega,by omega,H64.out,HO7.out,HV7.out,HS7.out,HMP7.out,HBB7.out⟩
      case measure=>simp only[intOf];omega
    · have gz:((ch:Int) !=0)=true:=by rw[bne_iff_ne];omega
      obtain⟨w9,hw9⟩:=nmE (w7.alloc (.cells #[.int .u64 (ch:Int)] 25));have b9:=abE hw9;have n9:=anE hw9;have c9:w9.cell? ⟨w7.heap.size,0,none⟩=some (uV ch):=by rw[cell_of_row w9 _ 0 _ _ (0,0) n9];rfl
      have HO9:=hE0 (aaw HO7.out b9);have HV9:=hE0 (HV7.out.below b9);have HS9:=hE0 (HS7.out.below b9);have HBB9:=hE0 (HBB7.out.trans (b9.mono HB7S.out));have HB9:Hid (B<=w9.heap.size):=hE0 (Nat.le_trans HB7S.out b9.size);have HC9:=hE0 c9;have HW9:=hE0 hw9;have H641:Hid (∀v∈told++ [ch],v<18446744073709551616):=fun v hv=>by
       rcases List.mem_append.1 hv with h | h
       · exact H64.out v h
       · simp at h;rw[h];exact HCH.out
      clear hch0 hw9 b9 n9 c9;go_wp2_with (first
       | (rw[HW9.out])
       | (at_builtin;go_must (refine aeA rfl _ _ rfl B _ told.length told rfl HO9.out ⟨w7.heap.size,0,none⟩ 1 ch rfl HC9.out (by omega) HB9.out ?_);intro x12 w12 own12 gr12 lie12
          have HX12:Hid (w12.ownsRow B 25 1 x12 (told.length+1) ((told++ [ch]).map uV)/\w9.grownBy w12 (Value.slice At told.length ct).ownBlock):=⟨own12,gr12⟩;clear own12 gr12 lie12)
       | fail)
      go_roundw
      case rel=>
       obtain⟨own12,gr12⟩:=HX12.out;obtain⟨A12,c12,rfl⟩:=adZ own12;have tg:Tch (fun k=>(Value.slice At told.length ct).ownBlock=some k) w9 w12:=Tch.grown gr12 (fun k e=>e);refine⟨j+1,l7,A7,c7,told++ [ch],A12,c12,H1,A1',c1',b1',by rw[HLN7.out],by rw[List.length_append,List.length_singleton],by go_num,by omega,by rw[List.length_append,List.length_singleton];omega,H641.out,by rw[List.length_append,List.length_singleton];exact own12,HV9.out.keepO tg (fun k hk hf=>HV9.out.ph.oth (aqK HO9.out hf) hk),HS9.out.keepT HO9.out tg,HMP7.out,HBB9.out.trans (tg.below (fun k hk=>(HO9.out.lt k hk).1) HB9.out)⟩
      case measure=>simp only[intOf];omega
  · have HV:=hE0 hv;have HS:=hE0 hs;have HMP:=hE0 hmp;have HBB:=hE0 hb;obtain⟨m,hm⟩:=nmE l.length;have HMN:=hE0 hm;rw[hm]at hln512 ⊢;clear hv hs hmp hb hown h64 htl hm HL HSB;go_wp2_with fail
    go_loopw [16] (fun i wq=>∃(j:Nat) (A1:Option Addr) (c1:Nat) (b1:List UInt8),i= .int .i64 (j:Int)/\j<=m/\Hv B wq q g base cap A1 c1 b1 H/\Hs B wq A c l/\Below B w wq) (fun i _=>m-(intOf i).toNat)
    case atStart=>exact⟨0,A1,c1,b1,rfl,Nat.zero_le _,HV.out,HS.out,HBB.out⟩
    case round=>
     clear HV HS;obtain⟨i,A1,c1,b1,rfl,hi,hv,hs,hb⟩:=hrel;have HBQ:Hid (B<=wr.heap.size):=hE0 (Nat.le_trans HBW.out hb.size);by_cases hlt2:i<m
     · obtain⟨x,hx⟩:∃x,l[i]?=some x:=⟨l[i]'(by rw[HMN.out];exact hlt2),List.getElem?_eq_getElem _⟩;have hHas:H.Has x.p x.b:=(HMP.out.all _ _).1 (List.mem_map.2 ⟨x,List.mem_of_getElem? hx,rfl⟩);have hsz:=hHas.sz hv.ph.rd;have hbl:=hv.ph.len;obtain⟨i0,hh,hb0⟩:=hHas.handle hv.ph.rd (by rw[hv.ph.cp];exact HC16.out);have hdc:H.doC 6 x.p x.b.length 0 0 []=(⟨0,0,0,x.b,St5.none⟩,H):=by
        rw[aop];unfold Hp.readP;rw[hh];dsimp only;rw[hb0,if_neg (by omega),List.drop_zero,List.take_length]
       obtain⟨gA,rfl,_,hgs,_,d0,d1⟩:=hs.at_ hx;have hq:=hs.row x (List.mem_of_getElem? hx);obtain⟨xp,xA,xc,xb⟩:=x;dsimp only at d0 d1 hdc hq hsz;obtain⟨xl,hxl⟩:=nmE xb.length;rw[hxl]at d1 hdc hsz;obtain⟨wd,hwd⟩:=nmE wr.drew;have hbd:=adE hwd;have hvd:=hv.below hbd;have hBd:Below B wr wd:=hbd.mono HBQ.out;have hRE:∀W,Below wd.heap.size wd W->Calls Tryz.prog 20 #[.pointer (some ⟨q,0,none⟩),abp 6 xp xl 0 0 none 0 0] W fun e w'=>∃v,e= .returned v/\Below W.heap.size W w'/\∃A' c',v= .agg #[.int .i64 0, .int .u64 0, .int .u64 0, .slice A' xl c', .int .i64 0, .int .i64 0, .int .i64 0, .int .i64 0, .int .i64 0]/\w'.ownsRow 0 5 1 (.slice A' xl c') xl (xb.map bv):=fun W hW=>by
        have hvW:=hvd.below hW;have h6:=aux hvW.ph (HE.out W (hb.trans (hBd.trans (hW.mono (Nat.le_trans HBQ.out hbd.size))))) (fun hf=>absurd (hvW.fB hf) (by omega)) xp xl 0 0 0 0 none [] (by omega) (by omega) (by omega);rw[hdc]at h6;refine h6.mono ?_;rintro e w' ⟨⟨A',c',rfl,ho⟩,_,hbl⟩;unfold rpV ahB;dsimp only[St5.none];simp only[Int.natCast_zero];dsimp only at ho;rw[hxl]at ho ⊢;exact⟨_,rfl,hbl,A',c',rfl,adx ho (Nat.zero_le _)⟩
       have hgd:gA<wd.heap.size:=Nat.lt_of_lt_of_le hgs hbd.size;have q0':=(hbd.cell (p:=⟨gA,i*2,none⟩) hgs).trans d0;have q1':=(hbd.cell (p:=⟨gA,i*2+1,none⟩) hgs).trans d1;have HQR:=hE0 hq;have HSD:=hE0 (hs.below hbd);have HVD:=hE0 hvd;have HRE:=hE0 hRE;have HWD:=hE0 hwd;have HBD:=hE0 (hb.trans hBd);have HBDS:Hid (B<=wd.heap.size):=hE0 (Nat.le_trans HBQ.out hbd.size);have HXL:=hE0 hxl;have HX:=hE0 hx;have hxl16:xl<=16384:=by have:=HC16.out;omega
       have hp16:xp<=16384:=by have:=HC16.out;omega
       clear hx hHas hsz hbl hh hb0 hdc hq hxl hwd hbd hvd hBd hRE hv hs hb d0 d1;go_upto_region 17 with(fail)
       go_cut [17] from 57 to 114 (fun v wx=>∃gr A' c',v= .pointer (some ⟨gr,0,none⟩)/\wx.heap[gr]?=some (.cells #[.int .i64 0, .int .u64 0, .int .u64 0, .slice A' xl c', .int .i64 0, .int .i64 0, .int .i64 0, .int .i64 0, .int .i64 0] 50 (0,0))/\wx.ownsRow 0 5 1 (.slice A' xl c') xl (xb.map bv)/\Below wd.heap.size wd wx)
       case first=>
        refine aaD wd.heap.size (.two [0,1,2,3,4,5,6,7,8,9,10,11,12,13] 14 (.one [] 15 (.fin [])) 15 (.one [] 14 (.fin []))) [16] (by kernel_rfl) (by kernel_rfl) (by kernel_rfl) (fun _ _ _ _ _ h=>h) ?_;rw[HWD.out];have q0:∀z:LaterB wd.heap.size wd,z.val.cell? ⟨gA,i*2,none⟩=some (.int .u64 (xp:Int)):=fun z=>(z.ext.cell (p:=⟨gA,i*2,none⟩) hgd).trans q0';have q1:∀z:LaterB wd.heap.size wd,z.val.cell? ⟨gA,i*2+1,none⟩=some (.slice xA xl xc):=fun z=>(z.ext.cell (p:=⟨gA,i*2+1,none⟩) hgd).trans q1';clear q0' q1';refine abL (l:= ?seg1) ?hseg1 ?_
        case hseg1=>simp only[pick,lE1,lE2,lE3];rfl
        repeat (go_big_quiet_step (fail))
        refine wpQuiet_nil ?_;clear q0 q1;refine⟨?wayC,?wayA⟩
        case wayC=>
         refine aar (vs:= #[.pointer (some ⟨q,0,none⟩),abp 6 xp xl 0 0 none 0 0]) Tryz.call20 rfl rfl rfl (HRE.out wd (Below.refl _ _)) wd.heap.size (Nat.le_refl _) ?_;rintro r w5 hb5 ⟨A',c',rfl,ho⟩;refine aax (l:= []) rfl (wpQuiet_nil ?_);simp only[Act.put,lE4,lE5,lE6];obtain⟨w6,hw6,n6,b6⟩:=abx w5 50 (.int .i64 0) (.int .u64 0) (.int .u64 0) (.slice none 0 0) (.int .i64 0) (.int .i64 0) (.int .i64 0) (.int .i64 0) (.int .i64 0);refine aas (some 17) (w1:=w6) (v:= .pointer (some ⟨w5.heap.size,0,none⟩)) rfl rfl rfl (by rw[<-hw6.out];exact ane _ _ rfl w5) (b6.out.mono hb5.size) ⟨wd.heap.size,Nat.le_refl _,?_⟩;simp only[Act.put,lE4,lE5,lE6];refine aaW (l:= []) (t:= ?tlc) rfl ?htlc (wpQuiet_nil ?_)
         case htlc=>simp only[pick,lE1,lE2,lE3];rfl
         obtain⟨w7,hw7,n7,b7,⟨x0,x1,x2,x3,x4,x5,x6,x7,x8⟩,⟨e0,e1,e2,e3,e4,e5,e6,e7,e8⟩,hlz⟩:=awk n6 (.int .i64 0) (.int .u64 0) (.int .u64 0) (.slice A' xl c') (.int .i64 0) (.int .i64 0) (.int .i64 0) (.int .i64 0) (.int .i64 0);have HB7:=hE0 (b7.out w5.heap.size w5 (Nat.le_refl _) b6.out);have HB5:=hE0 hb5;have HO:=hE0 (ara (w7:=w7) (aaw ho b6.out) n6.out (by decide) (fun k hk=>by rw[<-hw7.out];iterate 9 rw[Below.heap_setCell _ _ _ _ hk]));clear hb5 ho;go_wp2_with (first | (rw[hw7.out]) | fail)
         go_meet
         case rel=>exact⟨w5.heap.size,A',c',rfl,n7.out,HO.out,HB5.out.trans (HB7.out.mono HB5.out.size)⟩
        case wayA=>
         obtain⟨w4,hw4,n4,b4⟩:=abx wd 50 (.int .i64 0) (.int .u64 0) (.int .u64 0) (.slice none 0 0) (.int .i64 0) (.int .i64 0) (.int .i64 0) (.int .i64 0) (.int .i64 0);refine aas (some 17) (w1:=w4) (v:= .pointer (some ⟨wd.heap.size,0,none⟩)) rfl rfl rfl (by rw[<-hw4.out];exact ane _ _ rfl wd) b4.out ⟨wd.heap.size,Nat.le_refl _,?_⟩;simp only[Act.put,lE4,lE5,lE6];refine aax (l:= []) rfl (wpQuiet_nil ?_);have hl4:=aae n4.out;refine aar (vs:= #[.pointer (some ⟨q,0,none⟩),abp 6 xp xl 0 0 none 0 0]) Tryz.call20 rfl rfl rfl (R:=fun r w'=>Below w4.heap.size w4 w'/\∃A' c',r= .agg #[.int .i64 0, .int .u64 0, .int .u64 0, .slice A' xl c', .int .i64 0, .int .i64 0, .int .i64 0, .int .i64 0, .int .i64 0]/\w'.ownsRow 0 5 1 (.slice A' xl c') xl (xb.map bv)) ((HRE.out w4 b4.out).mono ?_) wd.heap.size (Nat.le_refl _) ?_
         · rintro e w' ⟨v,h1,h2,h3⟩;exact⟨v,h1,h2.mono b4.out.size,h2,h3⟩
         rintro r w5 hb5 ⟨hb45,A',c',rfl,ho⟩;refine aaW (l:= []) (t:= ?tla) rfl ?htla (wpQuiet_nil ?_)
         case htla=>simp only[pick,lE1,lE2,lE3];rfl
         simp only[Act.put,lE4,lE5,lE6];have n5:=hE0 ((hb45.block _ hl4).trans n4.out);obtain⟨w7,hw7,n7,b7,⟨x0,x1,x2,x3,x4,x5,x6,x7,x8⟩,⟨e0,e1,e2,e3,e4,e5,e6,e7,e8⟩,hlz⟩:=awk n5 (.int .i64 0) (.int .u64 0) (.int .u64 0) (.slice A' xl c') (.int .i64 0) (.int .i64 0) (.int .i64 0) (.int .i64 0) (.int .i64 0);have HO7:=hE0 (ara (w7:=w7) ho n5.out (by decide) (fun k hk=>by rw[<-hw7.out];iterate 9 rw[Below.heap_setCell _ _ _ _ hk]));have HB7:=hE0 (b7.out wd.heap.size wd (Nat.le_refl _) (b4.out.trans hb5));clear hb5 ho hb45 hl4;go_wp2_with (first | (rw[hw7.out]) | fail)
         go_meet
         case rel=>exact⟨wd.heap.size,A',c',rfl,n7.out,HO7.out,HB7.out⟩
       case rest=>
       obtain⟨gr,A',c',rfl,n6,ho6,hb6⟩:=hcut;obtain⟨⟨z0,_,_,z3,_⟩,_,hz8⟩:=aaS n6;have hz6:=aae n6;have hBd6:Below B wd wc:=hb6.mono HBDS.out;have HB6:Hid (B<=wc.heap.size):=hE0 (Nat.le_trans HBDS.out hb6.size);have HV6:=hE0 (HVD.out.below hb6);have HS6:=hE0 (HSD.out.below hb6);have HBB6:=hE0 (HBD.out.trans hBd6);have HO6:=hE0 ho6;clear n6 ho6 hb6 hBd6 HVD HSD HRE q0' q1';obtain⟨_,he,_,hg6,_,d0,d1⟩:=HS6.out.at_ HX.out;injection he with he;injection he with he;subst he;dsimp only at d0 d1;rw[HXL.out]at d1;go_wp2_with fail
       obtain⟨we,hwe⟩:=nmE wc.drew;have hbe:=adE hwe;have p0':=(hbe.cell (p:=⟨gr,0,none⟩) hz6).trans z0;have p3':=(hbe.cell (p:=⟨gr,3,none⟩) hz6).trans z3;have d1':=(hbe.cell (p:=⟨gA,i*2+1,none⟩) hg6).trans d1;have hze:gr<we.heap.size:=Nat.lt_of_lt_of_le hz6 hbe.size;have hge:gA<we.heap.size:=Nat.lt_of_lt_of_le hg6 hbe.size;have HVE:=hE0 (HV6.out.below hbe);have HSE:=hE0 (HS6.out.below hbe);have HOE:=hE0 (aaw HO6.out hbe);have HBBE:=hE0 (HBB6.out.trans (hbe.mono HB6.out));have HBE:Hid (B<=we.heap.size):=hE0 (Nat.le_trans HB6.out hbe.size);have HWE:=hE0 hwe;clear z0 z3 hz8 d0 d1 hwe hbe HV6 HS6 HO6 HBB6 hz6 hg6;have g0:((0:Int) !=0)=false:=rfl;have g1:((xl:Int) !=(xl:Int))=false:=bne_self_eq_false _;refine aao we.heap.size [] [0,1,2,3,4,5,6,7,8,9,10,11,12,13,14] [] (by kernel_rfl) (by kernel_rfl) (by kernel_rfl) (fun _ _ _ _ _ h=>h) ?_;rw[HWE.out];have t0:∀z:LaterB we.heap.size we,z.val.cell? ⟨gr,0,none⟩=some (.int .i64 0):=fun z=>(z.ext.cell (p:=⟨gr,0,none⟩) hze).trans p0';have t3:∀z:LaterB we.heap.size we,z.val.cell? ⟨gr,3,none⟩=some (.slice A' xl c'):=fun z=>(z.ext.cell (p:=⟨gr,3,none⟩) hze).trans p3';have t1:∀z:LaterB we.heap.size we,z.val.cell? ⟨gA,i*2+1,none⟩=some (.slice xA xl xc):=fun z=>(z.ext.cell (p:=⟨gA,i*2+1,none⟩) hge).trans d1';refine aaH (l:= ?ra) (t:= []) ?hra ?tra ?_
       case hra=>simp only[pick,lE1,lE2,lE3];rfl
       case tra=>rfl
       repeat (go_big_quiet_step (fail))
       refine wpQuiet_nil ?_;clear t0 t1 t3;go_wp2_with fail
       clear g0 g1;go_loopw [18] (fun kk wq=>∃j:Nat,kk= .int .i64 (j:Int)/\j<=xl/\Below we.heap.size we wq) (fun kk _=>xl-(intOf kk).toNat)
       case atStart=>exact⟨0,rfl,Nat.zero_le _,Below.refl _ _⟩
       case round=>
        obtain⟨j,rfl,hj,hb⟩:=hrel;have r3:=(hb.cell (p:=⟨gr,3,none⟩) hze).trans p3';have r1:=(hb.cell (p:=⟨gA,i*2+1,none⟩) hge).trans d1';by_cases hlt3:j<xl
        · obtain⟨u,hu⟩:∃u,xb[j]?=some u:=⟨xb[j]'(by rw[HXL.out];exact hlt3),List.getElem?_eq_getElem _⟩;obtain⟨gx,rfl,k1⟩:=(show QRd we xA xb from HSE.out.row _ (List.mem_of_getElem? HX.out)).at_ hu;have hgx:=ak4 k1;obtain⟨g5,cap5,e5,_,h5⟩:=ahD HOE.out (by omega);injection e5 with e5 q1 q2;subst e5;obtain⟨bb,oo,e6,hbb,hk6⟩:=h5.2 (by omega);have k2:=hk6 j u hu;injection e6 with e6;injection e6 with e6 e7 q3;subst e6 e7;rw[Nat.zero_add]at k2;obtain⟨v,hv⟩:=nmE u.toNat;have hv256:v<256:=by rw[<-hv];exact u.toNat_lt
          unfold iB at k1;rw[hv]at k1 k2;have HBI:=hE0 hb;have HPI:=hE0 p3';have HDI:=hE0 d1';clear q1 q2 q3 hu hv h5 hk6 p3' d1' p0';obtain⟨wf,hwf⟩:=nmE wr.drew;have hbf:=adE hwf;have HBF:=hE0 (hb.trans (hbf.mono hb.size));have f3':=(HBF.out.cell (p:=⟨gr,3,none⟩) hze).trans HPI.out;have f1':=(HBF.out.cell (p:=⟨gA,i*2+1,none⟩) hge).trans HDI.out;have fk1:=(HBF.out.cell (p:=⟨gx,j,none⟩) hgx).trans k1;have fk2:=(HBF.out.cell (p:=⟨g5,j,none⟩) hbb).trans k2;have hl5:gr<wf.heap.size:=Nat.lt_of_lt_of_le hze HBF.out.size;have hlA:gA<wf.heap.size:=Nat.lt_of_lt_of_le hge HBF.out.size;have hlx:gx<wf.heap.size:=Nat.lt_of_lt_of_le hgx HBF.out.size;have hlb:g5<wf.heap.size:=Nat.lt_of_lt_of_le hbb HBF.out.size;have HWF:=hE0 hwf;have gv:((v:Int) !=(v:Int))=false:=bne_self_eq_false _;clear hb hbf hwf k1 k2;go_wp2_with fail
          refine aao wf.heap.size [] [0,1,2,3,4,5,6,7,8,9,10,11,12,13,14] [] (by kernel_rfl) (by kernel_rfl) (by kernel_rfl) (fun _ _ _ _ _ h=>h) ?_;rw[HWF.out];have t3:∀z:LaterB wf.heap.size wf,z.val.cell? ⟨gr,3,none⟩=some (.slice (some ⟨g5,0,none⟩) xl c'):=fun z=>(z.ext.cell (p:=⟨gr,3,none⟩) hl5).trans f3';have t1:∀z:LaterB wf.heap.size wf,z.val.cell? ⟨gA,i*2+1,none⟩=some (.slice (some ⟨gx,0,none⟩) xl xc):=fun z=>(z.ext.cell (p:=⟨gA,i*2+1,none⟩) hlA).trans f1';have t4:=tfE fk1 hlx;have t5:=tfE fk2 hlb;refine aaH (l:= ?rb) (t:= []) ?hrb ?trb ?_
          case hrb=>simp only[pick,lE1,lE2,lE3];rfl
          case trb=>rfl
          repeat (go_big_quiet_step (fail))
          refine wpQuiet_nil ?_;clear t1 t3 t4 t5;go_wp2_with fail
          go_roundw
          case rel=>exact⟨j+1,by go_num,by omega,HBF.out⟩
          case measure=>simp only[intOf];omega
        · have HBI:=hE0 hb;clear hb p0' p3' d1' r1;go_wp2_with fail
          go_roundw
          case rel=>exact⟨i+1,A1,c1,b1,by go_num,by omega,HVE.out.below HBI.out,HSE.out.below HBI.out,HBBE.out.trans (HBI.out.mono HBE.out)⟩
          case measure=>simp only[intOf];omega
     · have HV:=hE0 hv;have HB:=hE0 hb;clear hv hs hb;go_wp2_with fail
       go_ret
       exact⟨rfl,HB.out,A1,c1,b1,H,HV.out⟩
end Go.Proofs.YtncadccbepjekaaGreatDoor
