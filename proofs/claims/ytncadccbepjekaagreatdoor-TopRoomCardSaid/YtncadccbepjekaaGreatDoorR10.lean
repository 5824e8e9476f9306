/- Texts of mine, joined. -/
import Derived.Great.BuildSlice
import Derived.Deep.Grids
import Derived.Deep.Fields
import Derived.Maps.AppendAt
import Derived.RegionTactic
import Derived.ChangeAlike
import Derived.BigRegion
import Derived.Test.YtncadccbepjekaaGreatDoorR9
set_option maxRecDepth 100000
set_option maxHeartbeats 8000000
namespace Go.Proofs.YtncadccbepjekaaGreatDoor
open Go.RowKit
structure ImP (B g:Nat) (N:Int) (A1:Option Addr) (c1:Nat) (l:List Rk) (A2:Option Addr) (c2:Nat) (d:List (List UInt8)) (xs:List Value) (w:World):Prop where
 obj:w.heap[g]?=some (.cells #[.int .i64 N, .slice A1 l.length c1, .slice A2 d.length c2] 107 (0,0))
 rl:w.ownsRow B 112 3 (.slice A1 l.length c1) l.length (aeL l)
 rd:w.ownsRow B 37 1 (.slice A2 d.length c2) d.length xs
 dt:DtO w d xs
 hB:B<=g
 hl:auL l
section
variable {B g n:Nat} {N:Int} {A1 A2:Option Addr} {c1 c2:Nat} {l:List Rk} {d:List (List UInt8)} {xs:List Value} {w w3 w4 w':World}
theorem ImP.stay (h:ImP B g N A1 c1 l A2 c2 d xs w) (hb:Below w.heap.size w w'):ImP B g N A1 c1 l A2 c2 d xs w':=
 ⟨(hb.block _ (aab h.obj)).trans h.obj,ab2 h.rl hb (acJ h.rl),ab2 h.rd hb (acJ h.rd),h.dt.stay hb,h.hB,h.hl⟩
theorem ImP.lt (h:ImP B g N A1 c1 l A2 c2 d xs w):g<w.heap.size:=aab h.obj
theorem ImP.rkrd (h:ImP B g N A1 c1 l A2 c2 d xs w):RkRd w w.heap.size A1 l:=ajs h.rl h.hl
theorem ImP.off (h:ImP B g N A1 c1 l A2 c2 d xs w){k:Nat}{cs:Array Value}{fz:Nat × Nat}{t:TypeId}(hk:w.heap[k]?=some (.cells cs t fz)) (ht:t≠107):g≠k:=fun e=>by
 subst e;have h2:=h.obj;rw[hk]at h2;injection h2 with h2;injection h2 with _ h2 _;exact ht h2
theorem ImP.pushD (h:ImP B g N A1 c1 l A2 c2 d xs w3){y:List UInt8}{A:Option Addr}{k:Nat}{v:Value}(hy:y.length<=100000) (oy:w3.ownsRow 0 5 1 (.slice A y.length k) y.length (y.map bv)) (own:w4.ownsRow B 37 1 v (d.length+1) (xs++ [.slice A y.length k])) (gr:w3.grownBy w4 (Value.slice A2 d.length c2).ownBlock){B0:Nat}{w0:World}(hb:Below B0 w0 w3) (hB0:B0<=B) (hw0:B0<=w3.heap.size):
 ∃A2' c2',v= .slice A2' (d.length+1) c2'/\w4.heap[g]?=w3.heap[g]?/\ImP B g N A1 c1 l A2' c2' (d++ [y]) (xs++ [.slice A y.length k]) (w4.setCell ⟨g,2,none⟩ v)/\Below B0 w0 (w4.setCell ⟨g,2,none⟩ v):=by
 have hrow:=aoA h.rd;have hg4:w4.heap[g]?=w3.heap[g]?:=gr.block g h.lt fun e=>by
  obtain⟨cs,fz,hc⟩:=hrow g e.symm;exact h.off hc (by decide) rfl
 have obj4:=hg4.trans h.obj;obtain⟨A',c,rfl,_⟩:=aei own;have hrl4:w4.ownsRow B 112 3 (.slice A1 l.length c1) l.length (aeL l):=acG h.rl gr fun k hk hrk=>by
  obtain⟨cs,fz,hc⟩:=hrow k hrk;exact adl h.rl hk hc (by decide)
 have hlx:xs.length=d.length:=by have:=h.rd.1;omega
 have hdt4:DtO w4 (d++ [y]) (xs++ [.slice A y.length k]):=(h.dt.grown gr fun k hk=>by
  obtain⟨cs,fz,hc⟩:=hrow k hk;exact⟨cs,_,fz,by decide,hc⟩).snoc hlx hy (acG oy gr fun k hk hrk=>by
   obtain⟨cs,fz,hc⟩:=hrow k hrk;exact adl oy hk hc (by decide))
 have gs:=acl w4 g 2 (.slice A' (d.length+1) c);have ge:∀k,(Value.slice A2 d.length c2).ownBlock=some k->B0<=k:=fun k hk=>Nat.le_trans hB0 (ajl h.rd k hk);refine⟨A',c,rfl,hg4,⟨?_,?_,?_,?_,h.hB,h.hl⟩,?_⟩
 · rw[List.length_append,List.length_singleton];exact heap_setCell_same w4 g 2 _ _ _ obj4
 · exact acG hrl4 gs fun k hk hrk=>by injection hrk with hrk;subst hrk;exact adl hrl4 hk obj4 (by decide)
 · rw[List.length_append,List.length_singleton];exact acG own gs fun k hk hrk=>by injection hrk with hrk;subst hrk;exact adl own hk obj4 (by decide)
 · exact hdt4.grown gs fun k hrk=>by injection hrk with hrk;subst hrk;exact⟨_,_,_,by decide,obj4⟩
 · exact(hb.grown gr hw0 ge).setCell (p:=⟨g,2,none⟩) (Nat.le_trans hB0 h.hB) _
end
section
variable {B g:Nat} {N:Int} {A1 A2:Option Addr} {c1 c2:Nat} {l:List Rk} {d:List (List UInt8)} {xs:List Value} {w:World}
theorem ImP.laid (h:ImP B g N A1 c1 l A2 c2 d xs w){g0:Nat}(hg0:g0<B){x0 x1 x2:Value}(hg:w.heap[g0]?=some (.cells #[x0,x1,x2] 107 (0,0))) (y0 y1 y2:Value):
 RkRd (((w.setCell ⟨g0,0,none⟩ y0).setCell ⟨g0,1,none⟩ y1).setCell ⟨g0,2,none⟩ y2) (((w.setCell ⟨g0,0,none⟩ y0).setCell ⟨g0,1,none⟩ y1).setCell ⟨g0,2,none⟩ y2).heap.size A1 l/\DtRd (((w.setCell ⟨g0,0,none⟩ y0).setCell ⟨g0,1,none⟩ y1).setCell ⟨g0,2,none⟩ y2) (((w.setCell ⟨g0,0,none⟩ y0).setCell ⟨g0,1,none⟩ y1).setCell ⟨g0,2,none⟩ y2).heap.size A2 d:=by
 have s0:=acl w g0 0 y0;have k1:=heap_setCell_same w g0 0 _ _ y0 hg;have s1:=acl (w.setCell ⟨g0,0,none⟩ y0) g0 1 y1;have k2:=heap_setCell_same _ g0 1 _ _ y1 k1;have s2:=acl ((w.setCell ⟨g0,0,none⟩ y0).setCell ⟨g0,1,none⟩ y1) g0 2 y2;have hr:∀{w1 w2:World} {t:TypeId} {size n:Nat} {v:Value} {ys:List Value},w1.ownsRow B t size v n ys->w1.grownBy w2 (some g0)->w2.ownsRow B t size v n ys:=fun ho hgr=>acG ho hgr fun k hk hrk=>by
  injection hrk with hrk;have:=ajl ho k hk;omega
 have r1:=hr (hr (hr h.rl s0) s1) s2;have r2:=hr (hr (hr h.rd s0) s1) s2;have d1:=h.dt.grown s0 fun k hrk=>by injection hrk with hrk;subst hrk;exact⟨_,_,_,by decide,hg⟩
 have d2:=d1.grown s1 fun k hrk=>by injection hrk with hrk;subst hrk;exact⟨_,_,_,by decide,k1⟩
 have d3:=d2.grown s2 fun k hrk=>by injection hrk with hrk;subst hrk;exact⟨_,_,_,by decide,k2⟩
 exact⟨ajs r1 h.hl,d3.rd r2⟩
end
def toR (x:Bk):Rk:=⟨(x.off:Int),(x.size:Int),x.used⟩
theorem ap0:∀l:List Bk,abC l=aeL (l.map toR)
 | []=>rfl
 | x::r=>by
  rw[List.map_cons,abC,aeL,<-ap0 r];rfl
def ofD (bs:List UInt8):List Bk->List (List UInt8)
 | []=> []
 | x::r=>if x.used then (bs.drop (x.off+8)).take (x.size-16)::ofD bs r else ofD bs r
theorem arQ{bs:List UInt8}{l:List Bk}(h:abA bs=some l) (hl:bs.length<=16384):auL (l.map toR)/\l.length*32<=bs.length/\∀x∈l,184<=x.off/\x.off+x.size<=bs.length/\aaD (x.size:Int)=true:=by
 obtain⟨h184,ht,_⟩:=aaj h;have hm:=(aak _ _ _ ht).2;have hn:∀(l:List Bk) (o e:Nat),abr o l e->o+l.length*32<=e:=by
  intro l;induction l with
  | nil=>intro o e h;have:o=e:=h;simp;omega
  | cons x r ih=>
   intro o e ⟨_,h2,h3⟩;have:=ih _ _ h3;have:=(aac _).1 h2;rw[List.length_cons];omega
 have:=hn _ _ _ ht;refine⟨fun x hx=> ?_,by omega,fun x hx=> ?_⟩
 · obtain⟨y,hy,rfl⟩:=List.mem_map.1 hx;obtain⟨h1,h2,h3,_⟩:=hm y hy;unfold toR;dsimp only;omega
 · obtain⟨h1,h2,h3,_⟩:=hm x hx;exact⟨h1,h2,h3⟩
def aup:List Bk->List Dt->List (List UInt8)
 | x::L,d::ds=>if x.used then d.2::aup L ds else aup L ds
 | _,_=> []
section
variable {F G:Nat->Prop} {w:World} {p:Nat} {H:Hp}
end
def toB (x:Rk):Bk:=⟨x.o.toNat,x.s.toNat,x.u⟩
def afT:List UInt8->List Bk->List (List UInt8)->List UInt8
 | bs,[],_=>bs
 | bs,x::r,d=>if x.used then afT (lay (aaT bs x) (x.off+8) (d.headD [])) r d.tail else afT (aaT bs x) r d
def alu:List Bk->List (List UInt8)->Prop
 | [],d=>d= []
 | x::r,d=>if x.used then (match d with | []=>False | y::d'=>y.length+16=x.size/\alu r d') else alu r d
theorem afU{n:Int}:∀{l:List Rk}{o:Nat}{f:Bool},abc n (o:Int) f l=true->abr o (l.map toB) n.toNat/\l=(l.map toB).map toR/\(∀x∈l,0<=x.o/\32<=x.s/\x.o+x.s<=n)
 | [],o,f,h=>by
  unfold abc at h;have:(o:Int)=n:=by simpa using h
  refine⟨?_,rfl,fun x hx=>by cases hx⟩;show o=n.toNat;omega
 | x::r,o,f,h=>by
  unfold abc at h;simp only[Bool.and_eq_true,beq_iff_eq]at h;obtain⟨ho,hs,hle,_,hr⟩:=h;have hle:=of_decide_eq_true hle;have h3:=(aac _).1 hs;have hr2:abc n ((o+x.s.toNat:Nat):Int) (!x.u) r=true:=by
   rw[show((o+x.s.toNat:Nat):Int)=(o:Int)+x.s from by omega];exact hr
  obtain⟨t1,t2,t3⟩:=afU hr2;refine⟨⟨?_,?_,?_⟩,?_,?_⟩
  · show x.o.toNat=o;omega
  · show aaD ((x.s.toNat:Nat):Int)=true;rw[show((x.s.toNat:Nat):Int)=x.s from by omega];exact hs
  · exact t1
  · rw[List.map_cons,List.map_cons,<-t2];congr 1;unfold toR toB;obtain⟨xo,xs,xu⟩:=x;dsimp only at ho h3 ⊢;rw[show((xo.toNat:Nat):Int)=xo from by omega,show((xs.toNat:Nat):Int)=xs from by omega]
  · intro y hy;rcases List.mem_cons.1 hy with rfl | hy
    · omega
    · exact t3 y hy
theorem afV:∀{l:List Rk}{d:List (List UInt8)},(∀x∈l,0<=x.o/\32<=x.s)->datOk l d=true->alu (l.map toB) d
 | [],d,_,h=>by
  unfold datOk at h;rw[List.isEmpty_iff]at h;exact h
 | x::l,d,hz,h=>by
  have hx:=hz x (by simp);have hz2:∀y∈l,0<=y.o/\32<=y.s:=fun y hy=>hz y (by simp[hy]);unfold datOk at h;rw[List.map_cons];unfold alu;show if x.u then _ else _
  cases hu:x.u with
  | false=>
   rw[hu]at h;simp only[Bool.false_eq_true,if_false]at h ⊢;exact afV hz2 h
  | true=>
   rw[hu]at h;simp only[if_true]at h ⊢
   cases d with
   | nil=>cases h
   | cons y d'=>
    simp only[Bool.and_eq_true,beq_iff_eq]at h;refine⟨?_,afV hz2 h.2⟩;show y.length+16=x.s.toNat;omega
theorem amp{bs:List UInt8}{x:Bk}(h:x.off+x.size<=bs.length) (hs:32<=x.size):(aaT bs x).length=bs.length:=by
 unfold aaT;rw[aah _ _ _ (by rw[aah _ _ _ (by omega)];omega),aah _ _ _ (by omega)]
theorem amq{bs:List UInt8}{x:Bk}(h:x.off+x.size<=bs.length) (hs:32<=x.size){q:Nat}(hq:q<x.off\/x.off+x.size<=q):(aaT bs x)[q]?=bs[q]?:=by
 unfold aaT;rw[adI _ _ _ _ (by rw[aah _ _ _ (by omega)];omega) (by omega),adI _ _ _ _ (by omega) (by omega)]
theorem agH:∀(l:List Bk) (bs:List UInt8) (o:Nat) (d:List (List UInt8)),184<=o->o%16=8->abr o l bs.length->alu l d->
 (afT bs l d).length=bs.length/\(∀q,q<o->(afT bs l d)[q]?=bs[q]?)/\(∀x∈l,aa2 (afT bs l d) (x.off:Int)=some x)/\ofD (afT bs l d) l=d
 | [],bs,o,d,_,_,_,hd=>⟨rfl,fun _ _=>rfl,fun x hx=>(by cases hx),hd.symm⟩
 | x::r,bs,o,d,ho,ho2,⟨h1,h2,h3⟩,hd=>by
  have q:=(aac _).1 h2;have hle:=(aak r _ _ h3).1;have hxo:x.off=o:=h1;have hs1:=af6 [x] bs o (o+x.size) ho ho2 ⟨h1,h2,rfl⟩ (by omega);have hgx:aa2 (aaT bs x) (x.off:Int)=some x:=hs1.2.1 x (by simp);have hl1:=amp (bs:=bs) (x:=x) (by omega) (by omega);unfold alu at hd;unfold afT ofD
  cases hu:x.used with
  | false=>
   rw[hu]at hd;simp only[Bool.false_eq_true,if_false]at hd ⊢;obtain⟨r1,r2,r3,r4⟩:=agH r (aaT bs x) (o+x.size) d (by omega) (by omega) (by rw[hl1];exact h3) hd;refine⟨by rw[r1,hl1],fun p hp=>by rw[r2 p (by omega),amq (by omega) (by omega) (.inl (by omega))],fun y hy=> ?_,r4⟩;rcases List.mem_cons.1 hy with rfl | hy
   · refine abO (aaT bs y) _ y r1 hgx (aaJ _ _ _ fun i _ hi=>r2 i (by omega)) (aaJ _ _ _ fun i _ hi=>r2 i (by omega))
   · exact r3 y hy
  | true=>
   rw[hu]at hd;simp only[if_true]at hd ⊢
   cases d with
   | nil=>exact hd.elim
   | cons y d'=>
    obtain⟨hyl,hd'⟩:=hd;simp only[List.headD_cons,List.tail_cons];have hag:=adV (bs:=aaT bs x) (x:=x) (x.off+8) y (Nat.le_refl _) (by omega) (by rw[hl1];omega);have hl2:(lay (aaT bs x) (x.off+8) y).length=bs.length:=by rw[hag.1,hl1]
    obtain⟨r1,r2,r3,r4⟩:=agH r (lay (aaT bs x) (x.off+8) y) (o+x.size) d' (by omega) (by omega) (by rw[hl2];exact h3) hd';have hgx2:aa2 (lay (aaT bs x) (x.off+8) y) (x.off:Int)=some x:=abO (aaT bs x) _ x hag.1 hgx (aaJ _ _ _ fun i _ hi=>hag.2 i (.inl (by omega))) (aaJ _ _ _ fun i h1 _=>hag.2 i (.inr (by omega)));refine⟨by rw[r1,hl2],fun p hp=>by rw[r2 p (by omega),hag.2 p (.inl (by omega)),amq (by omega) (by omega) (.inl (by omega))],fun z hz=> ?_,?_⟩
    · rcases List.mem_cons.1 hz with rfl | hz
      · exact abO _ _ z r1 hgx2 (aaJ _ _ _ fun i _ hi=>r2 i (by omega)) (aaJ _ _ _ fun i _ hi=>r2 i (by omega))
      · exact r3 z hz
    · rw[r4];congr 1;apply List.ext_getElem?;intro i;rw[List.getElem?_take,List.getElem?_drop];by_cases hi:i<x.size-16
      · rw[if_pos hi,r2 _ (by omega),ahz _ _ _ (by rw[hl1];omega) i (by omega)]
      · rw[if_neg hi,List.getElem?_eq_none (by omega)]
theorem ap1{n:Int}:∀{l:List Rk}{o:Int}{f:Bool},abc n o f l=true->(∀j x y,l[j]?=some x->l[j+1]?=some y->x.u=true\/y.u=true)/\(f=true->∀x,l[0]?=some x->x.u=true)
 | [],o,f,h=>⟨fun j x y hx=>by simp at hx,fun _ x hx=>by simp at hx⟩
 | z::r,o,f,h=>by
  unfold abc at h;simp only[Bool.and_eq_true]at h;obtain⟨_,_,_,hf,hr⟩:=h;obtain⟨i1,i2⟩:=ap1 hr;refine⟨fun j x y hx hy=> ?_,fun hft x hx=> ?_⟩
  · cases j with
    | zero=>
     simp at hx;subst hx
     cases hu:z.u with
     | true=>exact .inl rfl
     | false=>exact .inr (i2 (by rw[hu];rfl) y (by simpa using hy))
    | succ j=>exact i1 j x y (by simpa using hx) (by simpa using hy)
  · simp at hx;subst hx;rw[hft]at hf
    cases hu:z.u with
    | true=>rfl
    | false=>rw[hu]at hf;cases hf
theorem ap2{n:Int}{l:List Rk}{o:Int}{f:Bool}(h:abc n o f l=true):adx (l.map toB)=true:=by
 obtain⟨h1,_⟩:=ap1 h;unfold adx;rw[List.all_eq_true];intro i hi;have hi:=List.mem_range.1 hi;rw[List.length_map]at hi;unfold ac2 ac1
 cases i with
 | zero=>rfl
 | succ i=>
  have e1:(l.map toB)[i+1]?=some (toB l[i+1]):=by rw[List.getElem?_map,List.getElem?_eq_getElem hi];rfl
  have e2:(l.map toB)[i]?=some (toB (l[i]'(by omega))):=by rw[List.getElem?_map,List.getElem?_eq_getElem (show i<l.length by omega)];rfl
  have e3:i+1-1=i:=by omega
  rw[e3];rcases h1 i _ _ (List.getElem?_eq_getElem (show i<l.length by omega)) (List.getElem?_eq_getElem hi)with hu | hu
  · simp[e1,e2,toB,hu]
  · simp[e1,e2,toB,hu]
theorem aj4{bs bs':List UInt8}:∀{l:List Bk},(∀x∈l,x.used=true->∀i,x.off+8<=i->i<x.off+8+(x.size-16)->bs'[i]?=bs[i]?)->ofD bs' l=ofD bs l
 | [],_=>rfl
 | x::l,h=>by
  have ih:=aj4 (l:=l) fun y hy=>h y (by simp[hy]);unfold ofD;rw[ih]
  cases hu:x.used with
  | false=>rfl
  | true=>
   simp only[if_true];congr 1;apply List.ext_getElem?;intro i;rw[List.getElem?_take,List.getElem?_take,List.getElem?_drop,List.getElem?_drop];by_cases hi:i<x.size-16
   · rw[if_pos hi,if_pos hi,h x (by simp) hu _ (by omega) (by omega)]
   · rw[if_neg hi,if_neg hi]
theorem aj5{bs out:List UInt8}{l:List Bk}(h:abA bs=some l) (hm:bs.length<=16384) (ho:abZ bs=some out):∀i,184<=i->(∀y∈l,y.used=false->i<y.off+8\/y.off+24<=i)->out[i]?=bs[i]?:=by
 obtain⟨h184,ht,hg⟩:=aaj h;have hmem:=(aak l _ _ ht).2;have el:(List.replicate 184 (0:UInt8)++bs.drop 184).length=bs.length:=by rw[List.length_append,List.length_replicate,List.length_drop];omega
 have hst:Stands (List.replicate 184 (0:UInt8)++bs.drop 184) l:=by
  refine⟨fun x hx=> ?_,aaL l _ _ ht⟩;obtain⟨a,b,c,_⟩:=hmem x hx;have q:=(aac _).1 c;refine abO bs _ x el (hg x hx) ?_ ?_
  · exact aaJ _ _ _ fun i h1 _=>aez bs 184 i (by omega)
  · exact aaJ _ _ _ fun i h1 _=>aez bs 184 i (by omega)
 have hL:=ae3 (by rw[el];exact h184) (by rw[el];exact hm) hst (fun p hp _=>adj _ _ _ hp);have e0:(fun _=> [])=aa5 []:=by funext c;rfl
 rw[e0]at hL;obtain⟨_,_,hk⟩:=aey l [] _ (fun x hx=>hx) (by simpa using adi l _ _ ht) hL;unfold abZ at ho;rw[h]at ho;injection ho with ho;dsimp only at ho;rw[ho]at hk;intro i h1 h2;rw[hk i h1 h2];exact aez bs 184 i h1
theorem ahK{N:Nat}{l:List Rk}{d:List (List UInt8)}(h:aea (N:Int) l d=true):
 ∃out,abA (afT (List.replicate N 0) (l.map toB) d)=some (l.map toB)/\(afT (List.replicate N 0) (l.map toB) d).length=N/\abZ (afT (List.replicate N 0) (l.map toB) d)=some out/\ab8 out=true/\abA out=some (l.map toB)/\out.length=N/\ofD out (l.map toB)=d:=by
 unfold aea at h;simp only[Bool.and_eq_true]at h;obtain⟨hlo,hr,hdo⟩:=h;have hN:=(aaR _).1 hlo;obtain⟨ht,_,hz⟩:=afU (o:=184) hr;rw[Int.toNat_natCast]at ht;have hd:=afV (fun x hx=>⟨(hz x hx).1,(hz x hx).2.1⟩) hdo;have hl0:(List.replicate N (0:UInt8)).length=N:=List.length_replicate;obtain⟨r1,_,r3,r4⟩:=agH (l.map toB) (List.replicate N 0) 184 d (Nat.le_refl _) (by omega) (by rw[hl0];exact ht) hd;rw[hl0]at r1;obtain⟨mid,hmid⟩:=nmE (afT (List.replicate N 0) (l.map toB) d);rw[hmid]at r1 r3 r4 ⊢;have hw:abA mid=some (l.map toB):=ac0 (by rw[r1];exact ht) r3;obtain⟨out,e,_,h2,h3,_,h5⟩:=ajb hw (by omega);refine⟨out,hw,r1,e,by rw[h5];exact ap2 hr,h3,h2.trans r1,?_⟩;rw[<-r4];refine aj4 fun x hx hu i i1 i2=>aj5 hw (by omega) e i ?_ fun y hy hyu=> ?_
 · have:=((aak _ _ _ ht).2 x hx).1;omega
 · have hxs:=(aac _).1 ((aak _ _ _ ht).2 x hx).2.2.1;have hys:=(aac _).1 ((aak _ _ _ ht).2 y hy).2.2.1;rcases aaL _ _ _ ht x hx y hy with e | e | e
   · rw[e,hyu]at hu;cases hu
   · omega
   · omega
theorem asf{n:Nat}:∀(l:List Bk) (o:Nat) (u:Bool),abr o l n->afz u l=true->abc (n:Int) (o:Int) (!u) (l.map toR)=true
 | [],o,u,h,_=>by
  have h:o=n:=h;subst h;simp[abc]
 | x::r,o,u,⟨h1,h2,h3⟩,hn=>by
  unfold afz at hn;rw[Bool.and_eq_true]at hn;have ih:=asf r (o+x.size) x.used h3 hn.2;have hle:=(aak r _ _ h3).1;rw[List.map_cons,abc];simp only[Bool.and_eq_true];refine⟨by unfold toR;rw[h1];simp,h2,decide_eq_true ?_,?_,ih⟩
  · show(x.size:Int)<=(n:Int)-(o:Int);omega
  · show(!(!u&& !x.used))=true;have:=hn.1
    cases u<;>cases hx:x.used<;>simp_all
theorem asg{bs:List UInt8}:∀l:List Bk,(∀x∈l,x.off+x.size<=bs.length/\32<=x.size)->datOk (l.map toR) (ofD bs l)=true
 | [],_=>rfl
 | x::r,h=>by
  have ih:=asg r fun y hy=>h y (List.mem_cons_of_mem _ hy);obtain⟨h1,h2⟩:=h x (List.mem_cons_self ..);rw[List.map_cons,datOk.eq_def,ofD];dsimp only
  cases hu:x.used with
  | false=>rw[if_neg (by unfold toR;rw[hu];exact Bool.false_ne_true),if_neg Bool.false_ne_true];exact ih
  | true=>
   rw[if_pos (by unfold toR;exact hu),if_pos rfl];dsimp only;rw[Bool.and_eq_true];refine⟨?_,ih⟩;rw[beq_iff_eq,List.length_take,List.length_drop];show((min (x.size-16) (bs.length-(x.off+8)):Nat):Int)=(x.size:Int)-16;omega
theorem amr:∀(l:List Bk) (o e:Nat),abr o l e->∃k,e=o+16*k
 | [],o,e,h=>⟨0,by have h:o=e:=h;omega⟩
 | x::r,o,e,⟨_,h2,h3⟩=>by
  obtain⟨k,hk⟩:=amr r _ _ h3;have hs:=(aac _).1 h2;exact⟨x.size/16+k,by omega⟩
theorem aj6{bs:List UInt8}{l:List Bk}(hw:abA bs=some l) (hl:bs.length<=16384) (hn:adx l=true):aea (bs.length:Int) (l.map toR) (ofD bs l)=true:=by
 obtain⟨h1,ht,_⟩:=aaj hw;obtain⟨k,hk⟩:=amr _ _ _ ht;unfold aea;rw[aba]at hn;simp only[Bool.and_eq_true];refine⟨(aaR _).2 ⟨by omega,by omega,by omega⟩,asf l 184 true ht hn,asg l fun x hx=> ?_⟩;obtain⟨_,a,b,_⟩:=(aak _ _ _ ht).2 x hx;have:=(aac _).1 b;exact⟨a,by omega⟩
theorem ams{bs:List UInt8}:∀(L:List Bk) (ds:List Dt),ds.length=L.length->(∀(j:Nat) (x:Bk) (d:Dt),L[j]?=some x->ds[j]?=some d->x.used=true->d.2.length+16=x.size/\∀k,k<d.2.length->bs[x.off+8+k]?=d.2[k]?)->ofD bs L=aup L ds
 | [],[],_,_=>rfl
 | x::L,d::ds,hl,h=>by
  have ih:=ams L ds (by simpa using hl) fun j x d hx hd=>h (j+1) x d hx hd;rw[ofD,aup,ih]
  cases hu:x.used with
  | false=>rfl
  | true=>
   obtain⟨h1,h2⟩:=h 0 x d rfl rfl hu;have e:(bs.drop (x.off+8)).take (x.size-16)=d.2:=by
    refine List.ext_getElem? fun k=> ?_;rw[List.getElem?_take];split
    · rw[List.getElem?_drop];exact h2 k (by omega)
    · rw[List.getElem?_eq_none (by omega)]
   rw[if_pos rfl,if_pos rfl,e]
theorem amt{bs:List UInt8}{H:Hp}(h:RtD bs H):ofD bs H.blks=aup H.blks H.ds:=
 ams _ _ h.dl fun j x d hx hd hu=>h.ho j x d ⟨hx,hd⟩ hu
section
variable {H:Hp}
theorem ap3{n:Nat}{x:UInt8}:(H.get n x).2.cap=H.cap:=by
 unfold Hp.get;split
 · rfl
 · split
   · rfl
   · dsimp only;split
     · exact take_cap
     · exact take_cap
theorem anC{n m:Nat}:(H.calloc n m).2.cap=H.cap:=by
 unfold Hp.calloc;split
 · rfl
 · exact ap3
theorem alv{p n:Nat}:(H.realloc p n).2.cap=H.cap:=by
 unfold Hp.realloc;split
 · rfl
 · split
   · rfl
   · split
     · dsimp only;split
       · exact resize_cap
       · exact resize_cap
     · exact resize_cap
theorem ap4{p:Nat}:(H.freeP p).2.cap=H.cap:=by
 unfold Hp.freeP;split
 · rfl
 · exact afG
theorem anD{p a:Nat}{b:List UInt8}:(H.writeP p a b).2.cap=H.cap:=by
 unfold Hp.writeP;split
 · rfl
 · split<;>rfl
end
structure Hv (B:Nat) (w:World) (q g base cap:Nat) (A:Option Addr) (c:Nat) (bs:List UInt8) (H:Hp):Prop where
 ph:PH w q g base cap A c bs H
 qB:B<=q
 gB:B<=g
 aB:∀a,A=some a->B<=a.block
section
variable {B:Nat} {w w':World} {q g base cap c:Nat} {A:Option Addr} {bs:List UInt8} {H H':Hp}
theorem Hv.fB (h:Hv B w q g base cap A c bs H){k:Nat}(hk:foot g A k):B<=k:=by
 rcases hk with rfl | ⟨a,e,rfl⟩
 · exact h.gB
 · exact h.aB a e
theorem Hv.below (h:Hv B w q g base cap A c bs H) (hb:Below w.heap.size w w'):Hv B w' q g base cap A c bs H:=⟨h.ph.below hb,h.qB,h.gB,h.aB⟩
theorem Hv.turn (h:Hv B w q g base cap A c bs H) (hB:B<=w.heap.size) (ht:PTurn g base cap A H' w w') (hc:H'.cap=cap):∃A' c' bs',Hv B w' q g base cap A' c' bs' H'/\Tch (foot g A) w w'/\(A'=A\/∀a,A'=some a->w.heap.size<=a.block):=by
 obtain⟨A',c',out,h1,h2,h3⟩:=ht.ph h.ph hc;refine⟨A',c',out,⟨h1,h.qB,h.gB,fun a e=> ?_⟩,h2,h3⟩;rcases h3 with h3 | h3
 · exact h.aB a (h3▸e)
 · exact Nat.le_trans hB (h3 a e)
theorem Hv.low (h:Hv B w q g base cap A c bs H) (hB:B<=w.heap.size) (ht:Tch (foot g A) w w'):Below B w w':=ht.below (fun _ hk=>h.fB hk) hB
theorem PMade.hv{e:Ending}(h:PMade base cap H w e w'):∃q g A c bs,e= .returned (.tuple #[.pointer (some ⟨q,0,none⟩), .nilIface])/\Hv w.heap.size w' q g base cap A c bs H/\Below w.heap.size w w':=by
 obtain⟨q,g,A,c,bs,he,hp,hb,h1,h2,h3⟩:=h;exact⟨q,g,A,c,bs,he,⟨hp,h1,h2,h3⟩,hb⟩
end
structure Cl where
 which:Int
 op:Int
 h:Nat
 n:Nat
 m:Nat
 at_:Nat
 A:Option Addr
 c:Nat
 b:List UInt8
def Cl.ok (x:Cl):Prop:=(-9223372036854775808<=x.which/\x.which<=9223372036854775807)/\(-9223372036854775808<=x.op/\x.op<=9223372036854775807)/\x.h<18446744073709551616/\x.n<18446744073709551616/\x.m<18446744073709551616/\x.at_<18446744073709551616/\x.b.length<=maxLen
def ClRd (w:World) (B:Nat) (A:Option Addr) (l:List Cl):Prop:=0<l.length->∃b o,A=some ⟨b,o,none⟩/\b<B/\∀j x,l[j]?=some x->
 (w.cell? ⟨b,o+j*7,none⟩=some (.int .i64 x.which)/\w.cell? ⟨b,o+j*7+1,none⟩=some (.int .i64 x.op)/\w.cell? ⟨b,o+j*7+2,none⟩=some (.int .u64 (x.h:Int))/\w.cell? ⟨b,o+j*7+3,none⟩=some (.int .u64 (x.n:Int))/\
 w.cell? ⟨b,o+j*7+4,none⟩=some (.int .u64 (x.m:Int))/\w.cell? ⟨b,o+j*7+5,none⟩=some (.int .u64 (x.at_:Int))/\w.cell? ⟨b,o+j*7+6,none⟩=some (.slice x.A x.b.length x.c))/\Rd w B x.A x.b.length x.b/\x.ok
theorem ClRd.below{w w':World}{B:Nat}{A:Option Addr}{l:List Cl}(h:ClRd w B A l) (hb:Below B w w'):ClRd w' B A l:=fun hn=>by
 obtain⟨b,o,e,hB,hc⟩:=h hn;refine⟨b,o,e,hB,fun j x hx=> ?_⟩;obtain⟨⟨h0,h1,h2,h3,h4,h5,h6⟩,h7,h8⟩:=hc j x hx;exact⟨⟨(hb.cell (p:=⟨b,_,none⟩) hB).trans h0,(hb.cell (p:=⟨b,_,none⟩) hB).trans h1,(hb.cell (p:=⟨b,_,none⟩) hB).trans h2,(hb.cell (p:=⟨b,_,none⟩) hB).trans h3,(hb.cell (p:=⟨b,_,none⟩) hB).trans h4,(hb.cell (p:=⟨b,_,none⟩) hB).trans h5,(hb.cell (p:=⟨b,_,none⟩) hB).trans h6⟩,h7.below hb,h8⟩
def uV (n:Nat):Value:= .int .u64 (n:Int)
def ash (x:Cl) (told:List Nat):Nat:=(x.which%(told.length:Int)).toNat
def ahL (x:Cl) (told:List Nat):Nat:=if 0<=x.which/\0<told.length then (told.getD (ash x told) 0+x.h)%18446744073709551616 else x.h
def ahM (x:Cl):Nat:=(x.op%9).toNat
theorem aj7 (x:Cl):ahM x<9:=by
 unfold ahM;have h1:=Int.emod_nonneg x.op (b:=9) (by omega);have h2:=Int.emod_lt_of_pos x.op (b:=9) (by omega);omega
theorem ap5 (x:Cl) (told:List Nat) (hx:x.h<18446744073709551616):ahL x told<18446744073709551616:=by
 unfold ahL;split
 · omega
 · exact hx
theorem ap6{w:World}{y0 y1 y2 y3 y4 y5:Value}{g:Nat}{t:TypeId}(h:w.heap[g]?=some (.cells #[y0,y1,y2,y3,y4,y5] t (0,0))) (x0 x1 x2 x3 x4 x5:Value):
 ((((((w.setCell ⟨g,0,none⟩ x0).setCell ⟨g,1,none⟩ x1).setCell ⟨g,2,none⟩ x2).setCell ⟨g,3,none⟩ x3).setCell ⟨g,4,none⟩ x4).setCell ⟨g,5,none⟩ x5).heap[g]?=some (.cells #[x0,x1,x2,x3,x4,x5] t (0,0)):=by
 have h1:=heap_setCell_same _ g 0 _ _ x0 h;have h1:(_:Option Obj)=some (.cells #[x0,y1,y2,y3,y4,y5] t (0,0)):=h1;have h2:=heap_setCell_same _ g 1 _ _ x1 h1;have h2:(_:Option Obj)=some (.cells #[x0,x1,y2,y3,y4,y5] t (0,0)):=h2;have h3:=heap_setCell_same _ g 2 _ _ x2 h2;have h3:(_:Option Obj)=some (.cells #[x0,x1,x2,y3,y4,y5] t (0,0)):=h3;have h4:=heap_setCell_same _ g 3 _ _ x3 h3;have h4:(_:Option Obj)=some (.cells #[x0,x1,x2,x3,y4,y5] t (0,0)):=h4;have h5:=heap_setCell_same _ g 4 _ _ x4 h4;have h5:(_:Option Obj)=some (.cells #[x0,x1,x2,x3,x4,y5] t (0,0)):=h5;have h6:=heap_setCell_same _ g 5 _ _ x5 h5;have h6:(_:Option Obj)=some (.cells #[x0,x1,x2,x3,x4,x5] t (0,0)):=h6;exact h6
theorem agI{w:World}{y0 y1 y2 y3 y4 y5:Value}{g:Nat}{t:TypeId}(h:w.heap[g]?=some (.cells #[y0,y1,y2,y3,y4,y5] t (0,0))):w.frozen? ⟨g,0,none⟩=false/\w.frozen? ⟨g,1,none⟩=false/\w.frozen? ⟨g,2,none⟩=false/\w.frozen? ⟨g,3,none⟩=false/\w.frozen? ⟨g,4,none⟩=false/\w.frozen? ⟨g,5,none⟩=false:=
 ⟨frozen_of_row w g 0 _ _ h,frozen_of_row w g 1 _ _ h,frozen_of_row w g 2 _ _ h,frozen_of_row w g 3 _ _ h,frozen_of_row w g 4 _ _ h,frozen_of_row w g 5 _ _ h⟩
theorem aiI{w:World}{x0 x1 x2 x3 x4 x5 x6:Value}{g:Nat}{t:TypeId}(h:w.heap[g]?=some (.cells #[x0,x1,x2,x3,x4,x5,x6] t (0,0))):
 w.cell? ⟨g,0,none⟩=some x0/\w.cell? ⟨g,1,none⟩=some x1/\w.cell? ⟨g,2,none⟩=some x2/\w.cell? ⟨g,3,none⟩=some x3/\w.cell? ⟨g,4,none⟩=some x4/\w.cell? ⟨g,5,none⟩=some x5/\w.cell? ⟨g,6,none⟩=some x6:=by
 refine⟨?_,?_,?_,?_,?_,?_,?_⟩
 · rw[cell_of_row w g 0 _ _ (0,0) h];rfl
 · rw[cell_of_row w g 1 _ _ (0,0) h];rfl
 · rw[cell_of_row w g 2 _ _ (0,0) h];rfl
 · rw[cell_of_row w g 3 _ _ (0,0) h];rfl
 · rw[cell_of_row w g 4 _ _ (0,0) h];rfl
 · rw[cell_of_row w g 5 _ _ (0,0) h];rfl
 · rw[cell_of_row w g 6 _ _ (0,0) h];rfl
theorem aiJ{fn:Func}{R:Ending->World->Prop}{a:Act}{w:World}{p:Tmp}{g:Nat}{x0 x1 x2 x3 x4 x5:Value}(hres:fn.results= #[.cell p 43]) (hp:a.tmps.getD p undef= .pointer (some ⟨g,0,none⟩)) (hd:a.defers= [])
 (hg:w.heap[g]?=some (.cells #[x0,x1,x2,x3,x4,x5] 43 (0,0))) (hR:R (.returned (.agg #[x0,x1,x2,x3,x4,x5])) w):bodyPost Tryz.prog fn R .ret a w:=by
 refine bodyPost_ret (v:= .agg #[x0,x1,x2,x3,x4,x5]) ?_ hd hR;exact results_cell_row hres _ _ g _ _ _ _ hp hg rfl rfl rfl
def Tl (w:World) (B:Nat) (A:Option Addr) (told:List Nat):Prop:=0<told.length->∃b,A=some ⟨b,0,none⟩/\B<=b/\b<w.heap.size/\∀(j v:Nat),told[j]?=some v->w.cell? ⟨b,j,none⟩=some (.int .u64 (v:Int))
theorem ap7 (w:World) (x:Cl) (hx:x.ok) (A1:Option Addr) (c1:Nat) (told:List Nat) (B:Nat) (ht:Tl w B A1 told) (hl:told.length<=1000) (h64:∀v∈told,v<18446744073709551616):
 Calls Tryz.prog 19 #[.agg #[.int .i64 x.which, .int .i64 x.op, .int .u64 (x.h:Int), .int .u64 (x.n:Int), .int .u64 (x.m:Int), .int .u64 (x.at_:Int), .slice x.A x.b.length x.c], .slice A1 told.length c1] w
  fun e w'=>e= .returned (abj (ahM x:Int) (ahL x told) x.n x.m x.at_ x.A x.b.length x.c)/\Below w.heap.size w w':=by
 obtain⟨hw,ho,hh,hn,hm,ha,_⟩:=hx;have hPK:=fun W=>aom x.op 9 W (by omega) (by omega) (ahM x) rfl;have hol:=aj7 x;obtain⟨o9,ho9⟩:=nmE (ahM x);rw[ho9]at hPK hol ⊢;obtain⟨p,hp⟩:=nmE (ahL x told);rw[hp];have HPV:=hE0 hp;unfold ahL ash at hp;obtain⟨wh,xo,xh,xn,xm,xa,xA,xc,xb⟩:=x;dsimp only at hw ho hh hn hm ha hp hPK ⊢;obtain⟨bl,hbl⟩:=nmE xb.length;obtain⟨tl,htl⟩:=nmE told.length;rw[hbl];rw[htl]at hp hl ⊢;have HPK:=hE0 hPK;have HT:=hE0 ht;have HTL:=hE0 htl;have H64:=hE0 h64;obtain⟨w1,hw1⟩:=nmE (w.alloc (.cells #[.int .i64 wh, .int .i64 xo, .int .u64 (xh:Int), .int .u64 (xn:Int), .int .u64 (xm:Int), .int .u64 (xa:Int), .slice xA bl xc] 46));have b1:=abE hw1;have n1:=anE hw1;obtain⟨w2,hw2⟩:=nmE (w1.alloc (.cells #[.int .i64 0, .int .u64 0, .int .u64 0, .int .u64 0, .int .u64 0, .slice none 0 0] 43));have b2:=abE hw2;have n2:=anE hw2;have m2:=(b2.block _ (aae n1)).trans n1;obtain⟨w3,hw3⟩:=nmE (w2.alloc (.cells #[.int .i64 xo, .int .u64 (xh:Int), .int .u64 (xn:Int), .int .u64 (xm:Int), .int .u64 (xa:Int), .slice xA bl xc] 43));have b3:=abE hw3;have n3:=anE hw3;have m3:=(b3.block _ (aae m2)).trans m2;have k3:=(b3.block _ (aae n2)).trans n2;obtain⟨w4,hw4⟩:=nmE (w3.setCell ⟨w2.heap.size,0,none⟩ (.int .i64 (o9:Int)));have hne1:w2.heap.size≠w.heap.size:=fun e=>by have:=aae m2;omega
 have hne2:w2.heap.size≠w1.heap.size:=fun e=>by have:=aae n2;omega
 have n4:w4.heap[w2.heap.size]?=some (.cells #[.int .i64 (o9:Int), .int .u64 (xh:Int), .int .u64 (xn:Int), .int .u64 (xm:Int), .int .u64 (xa:Int), .slice xA bl xc] 43 (0,0)):=by rw[<-hw4];exact heap_setCell_same w3 w2.heap.size 0 _ _ _ n3
 have m4:w4.heap[w.heap.size]?=some (.cells #[.int .i64 wh, .int .i64 xo, .int .u64 (xh:Int), .int .u64 (xn:Int), .int .u64 (xm:Int), .int .u64 (xa:Int), .slice xA bl xc] 46 (0,0)):=by rw[<-hw4];exact(Below.heap_setCell w3 ⟨w2.heap.size,0,none⟩ _ w.heap.size (Ne.symm hne1)).trans m3
 have k4:w4.heap[w1.heap.size]?=some (.cells #[.int .i64 0, .int .u64 0, .int .u64 0, .int .u64 0, .int .u64 0, .slice none 0 0] 43 (0,0)):=by rw[<-hw4];exact(Below.heap_setCell w3 ⟨w2.heap.size,0,none⟩ _ w1.heap.size (Ne.symm hne2)).trans k3
 have b03:Below w.heap.size w w3:=b1.trans ((b2.mono b1.size).trans (b3.mono (Nat.le_trans b1.size b2.size)));have b04:Below w.heap.size w w4:=by rw[<-hw4];exact b03.setCell (Nat.le_trans b1.size b2.size) _
 have HW1:=hE0 hw1;have HW2:=hE0 hw2;have HW3:=hE0 hw3;have HW4:=hE0 hw4;have HB4:=hE0 b04;have HN4:=hE0 n4;have HM4:=hE0 m4;have HK4:=hE0 k4;have HNE1:=hE0 hne1;have HNE2:=hE0 hne2;obtain⟨z0,z1,z2,z3,z4,z5,z6⟩:=aiI m2;have hz2:=aaa m2;obtain⟨y0,y1,y2,y3,y4,y5⟩:=aa8 n3;obtain⟨f0,f1,f2,f3,f4,f5⟩:=agI n3;have hy3:=aaa n3;have HL1:=hE0 b1.size;have HL2:=hE0 (Nat.le_trans b1.size b2.size);clear hPK ht htl h64 hbl hw1 hw2 hw3 hw4 b1 b2 b3 n1 n2 n3 n4 m2 m3 m4 k3 k4 b03 b04 hne1 hne2;unfold abj;go_enter Tryz.func19,Tryz.ntmps19
 go_wp2_with (first | (rw[HW1.out]) | (rw[HW2.out]) | (rw[HW3.out]) | fail)
 refine(HPK.out _).mono ?_;rintro e w5 ⟨rfl,rfl⟩;clear z0 z1 z2 z3 z4 z5 z6;obtain⟨z0,z1,z2,z3,z4,z5,z6⟩:=aiI HM4.out;have hz4:=aaa HM4.out;by_cases hw0:0<=wh/\0<tl
 · rw[if_pos hw0]at hp;obtain⟨hwh,htl0⟩:=hw0;have hm1:=Int.emod_nonneg wh (b:=(tl:Int)) (by omega);have hm2:=Int.emod_lt_of_pos wh (b:=(tl:Int)) (by omega);obtain⟨i,hi⟩:=nmE ((wh%(tl:Int)).toNat);rw[hi]at hp;have em:Int.tmod wh (tl:Int)=(i:Int):=by rw[Int.tmod_eq_emod_of_nonneg hwh];omega
   have hil:i<tl:=by omega
   obtain⟨b,rfl,hbB,hbl,hcell⟩:=HT.out (by rw[HTL.out];exact htl0);obtain⟨v,hv⟩:∃v,told[i]?=some v:=⟨told[i]'(by rw[HTL.out];exact hil),List.getElem?_eq_getElem _⟩;have hgd:told.getD i 0=v:=by rw[List.getD_eq_getElem?_getD,hv];rfl
   rw[hgd]at hp;have hv64:=H64.out v (List.mem_of_getElem? hv);have ev:IntKind.u64.wrap ((v:Int)+(xh:Int))=(p:Int):=by rw[IntKind.wrap_u64];omega
   have cb:=hcell i v hv;have g1:decide ((0:Int)<=wh)=true:=decide_eq_true hwh;have g2:decide (0<tl)=true:=decide_eq_true htl0;obtain⟨wd,hwd⟩:=nmE w4.drew;have bd:Below w.heap.size w wd:=by rw[<-hwd];exact HB4.out.drew
   have nd:wd.heap[w2.heap.size]?=some (.cells #[.int .i64 (o9:Int), .int .u64 (xh:Int), .int .u64 (xn:Int), .int .u64 (xm:Int), .int .u64 (xa:Int), .slice xA bl xc] 43 (0,0)):=by rw[<-hwd];exact HN4.out
   have kd:wd.heap[w1.heap.size]?=some (.cells #[.int .i64 0, .int .u64 0, .int .u64 0, .int .u64 0, .int .u64 0, .slice none 0 0] 43 (0,0)):=by rw[<-hwd];exact HK4.out
   have md:wd.heap[w.heap.size]?=some (.cells #[.int .i64 wh, .int .i64 xo, .int .u64 (xh:Int), .int .u64 (xn:Int), .int .u64 (xm:Int), .int .u64 (xa:Int), .slice xA bl xc] 46 (0,0)):=by rw[<-hwd];exact HM4.out
   have hltm:=aaa md;have hltn:=aaa nd;have hltb:b<wd.heap.size:=Nat.lt_of_lt_of_le hbl bd.size;have cbd:wd.cell? ⟨b,i,none⟩=some (.int .u64 (v:Int)):=(bd.cell (p:=⟨b,i,none⟩) hbl).trans cb;obtain⟨u0,u1,u2,u3,u4,u5,u6⟩:=aiI md;obtain⟨w5,hw5⟩:=nmE (wd.setCell ⟨w2.heap.size,1,none⟩ (.int .u64 (p:Int)));have n5:w5.heap[w2.heap.size]?=some (.cells #[.int .i64 (o9:Int), .int .u64 (p:Int), .int .u64 (xn:Int), .int .u64 (xm:Int), .int .u64 (xa:Int), .slice xA bl xc] 43 (0,0)):=by rw[<-hw5];exact heap_setCell_same wd w2.heap.size 1 _ _ _ nd
   have KW:Hid (w5.heap[w1.heap.size]?=some (.cells #[.int .i64 0, .int .u64 0, .int .u64 0, .int .u64 0, .int .u64 0, .slice none 0 0] 43 (0,0))):=(show _ by rw[<-hw5];exact(Below.heap_setCell wd ⟨w2.heap.size,1,none⟩ _ w1.heap.size (Ne.symm HNE2.out)).trans kd);have BW:Hid (Below w.heap.size w w5):=(show Below _ _ _ by rw[<-hw5];exact bd.setCell HL2.out _);obtain⟨y0',y1',y2',y3',y4',y5'⟩:=aa8 nd;obtain⟨g0',g1',g2',g3',g4',g5'⟩:=agI nd;obtain⟨v0,v1,v2,v3,v4,v5⟩:=aa8 n5;have hltn5:=aaa n5;have HW5:=hE0 hw5;have HWD:=hE0 hwd;clear hp hm1 hm2 hi hcell hv hgd cb bd nd kd md hw5 n5 hwd HT H64 HPK;go_wp2_with (first | (rw[HW4.out]) | fail)
   refine aaq wd.heap.size [] [0,1,2,3,4,5,6,7,8,9,10,11,12] [13] (by kernel_rfl) (by kernel_rfl) (by kernel_rfl) (fun _ _ _ _ _ h=>h) ?_;rw[HWD.out];have q0:=tfE u0 hltm;have q1:=tfE u2 hltm;have q2:=tfE cbd hltb;refine aaN (l:= ?la2) (t:= ?tl2) ?hla2 ?htl2 ?_
   case hla2=>simp only[pick,lE1,lE2,lE3];rfl
   case htl2=>simp only[pick,lE1,lE2,lE3];rfl
   repeat (go_big_quiet_step (fail))
   refine wpQuiet_nil ?_;clear q0 q1 q2;obtain⟨⟨k0,k1,k2,k3,k4,k5⟩,e0,e1,e2,e3,e4,e5⟩:=(show _/\_ from⟨aa8 KW.out,agI KW.out⟩);have hk9:=aaa KW.out;have MF:=hE0 (ap6 KW.out (.int .i64 (o9:Int)) (.int .u64 (p:Int)) (.int .u64 (xn:Int)) (.int .u64 (xm:Int)) (.int .u64 (xa:Int)) (.slice xA bl xc));have BF:=hE0 ((((((BW.out.setCell (p:=⟨w1.heap.size,0,none⟩) HL1.out (.int .i64 (o9:Int))).setCell (p:=⟨w1.heap.size,1,none⟩) HL1.out (.int .u64 (p:Int))).setCell (p:=⟨w1.heap.size,2,none⟩) HL1.out (.int .u64 (xn:Int))).setCell (p:=⟨w1.heap.size,3,none⟩) HL1.out (.int .u64 (xm:Int))).setCell (p:=⟨w1.heap.size,4,none⟩) HL1.out (.int .u64 (xa:Int))).setCell (p:=⟨w1.heap.size,5,none⟩) HL1.out (.slice xA bl xc));go_wp2_with (first | (rw[HW5.out]) | fail)
   (try simp only[Exit.inBlock,Exit.then])
   refine aiJ (g:=w1.heap.size) Tryz.results19 ?_ ?_ MF.out ?_
   · rfl
   · rfl
   · exact⟨rfl,BF.out⟩
 · rw[if_neg hw0]at hp;subst hp;have KW:=HK4;have BW:=HB4;obtain⟨y0',y1',y2',y3',y4',y5'⟩:=aa8 HN4.out;have hltn5:=aaa HN4.out;clear HT H64 HPK;by_cases hwh:0<=wh
   · have htl0:¬0<tl:=fun h=>hw0 ⟨hwh,h⟩;have g1:decide ((0:Int)<=wh)=true:=decide_eq_true hwh;have g2:decide (0<tl)=false:=decide_eq_false htl0;obtain⟨⟨k0,k1,k2,k3,k4,k5⟩,e0,e1,e2,e3,e4,e5⟩:=(show _/\_ from⟨aa8 KW.out,agI KW.out⟩);have hk9:=aaa KW.out;have MF:=hE0 (ap6 KW.out (.int .i64 (o9:Int)) (.int .u64 (xh:Int)) (.int .u64 (xn:Int)) (.int .u64 (xm:Int)) (.int .u64 (xa:Int)) (.slice xA bl xc));have BF:=hE0 ((((((BW.out.setCell (p:=⟨w1.heap.size,0,none⟩) HL1.out (.int .i64 (o9:Int))).setCell (p:=⟨w1.heap.size,1,none⟩) HL1.out (.int .u64 (xh:Int))).setCell (p:=⟨w1.heap.size,2,none⟩) HL1.out (.int .u64 (xn:Int))).setCell (p:=⟨w1.heap.size,3,none⟩) HL1.out (.int .u64 (xm:Int))).setCell (p:=⟨w1.heap.size,4,none⟩) HL1.out (.int .u64 (xa:Int))).setCell (p:=⟨w1.heap.size,5,none⟩) HL1.out (.slice xA bl xc));go_wp2_with (first | (rw[HW4.out]) | fail)
     (try simp only[Exit.inBlock,Exit.then])
     refine aiJ (g:=w1.heap.size) Tryz.results19 ?_ ?_ MF.out ?_
     · rfl
     · rfl
     · exact⟨rfl,BF.out⟩
   · have g1:decide ((0:Int)<=wh)=false:=decide_eq_false hwh;obtain⟨⟨k0,k1,k2,k3,k4,k5⟩,e0,e1,e2,e3,e4,e5⟩:=(show _/\_ from⟨aa8 KW.out,agI KW.out⟩);have hk9:=aaa KW.out;have MF:=hE0 (ap6 KW.out (.int .i64 (o9:Int)) (.int .u64 (xh:Int)) (.int .u64 (xn:Int)) (.int .u64 (xm:Int)) (.int .u64 (xa:Int)) (.slice xA bl xc));have BF:=hE0 ((((((BW.out.setCell (p:=⟨w1.heap.size,0,none⟩) HL1.out (.int .i64 (o9:Int))).setCell (p:=⟨w1.heap.size,1,none⟩) HL1.out (.int .u64 (xh:Int))).setCell (p:=⟨w1.heap.size,2,none⟩) HL1.out (.int .u64 (xn:Int))).setCell (p:=⟨w1.heap.size,3,none⟩) HL1.out (.int .u64 (xm:Int))).setCell (p:=⟨w1.heap.size,4,none⟩) HL1.out (.int .u64 (xa:Int))).setCell (p:=⟨w1.heap.size,5,none⟩) HL1.out (.slice xA bl xc));go_wp2_with (first | (rw[HW4.out]) | fail)
     (try simp only[Exit.inBlock,Exit.then])
     refine aiJ (g:=w1.heap.size) Tryz.results19 ?_ ?_ MF.out ?_
     · rfl
     · rfl
     · exact⟨rfl,BF.out⟩
open Go.RowKit Go.ChangeShapes Go.WideShapes Go.Deep
section
variable {H:Type} {enc:TypeId × Value->H} {w:World} {base:Nat} {held:Bool} {fuel:Nat} {A:Option Addr} {len cap:Nat} {x:DataW H × List MemPlace}
theorem arR (h:DataW.trod enc Tryz.prog w base (fun _=>true) held fuel 22 [.slice A len cap]=some x):∃l:List Cl,l.length=len/\ClRd w w.heap.size A l/\len<=maxLen:=by
 have hC:Tryz.prog.cellsOf 46=7:=by kernel_rfl
 have hC1:Tryz.prog.cellsOf 3=1:=by kernel_rfl
 have hC6:Tryz.prog.cellsOf 43=6:=by kernel_rfl
 have hone:oneCellFields Tryz.prog (match Tryz.prog.underlying 43 with
  | some (.struct fs)=>fs
  | _=> #[])=true:=by kernel_rfl
 rw[Tryz.underlying43]at hone;dsimp only at hone;rcases open_slice Tryz.underlying22 h with⟨hcs,_⟩ | ⟨a,l,c,m,n,D,Pl,hcs,_,hl,hm,hmm,_,hi⟩
 · simp at hcs;obtain⟨rfl,rfl,rfl⟩:=hcs;exact⟨[],rfl,fun hn=>absurd hn (by simp),Nat.zero_le _⟩
 · simp at hcs;obtain⟨rfl,rfl,rfl⟩:=hcs;simp only[if_true]at hmm;subst hmm;rw[hC]at hi;obtain⟨ds,hd,hp⟩:=aon (p:=fun i (d:Cl)=>d.ok/\Rd w w.heap.size d.A d.b.length d.b/\w.cell? (a.add (i*7))=some (.int .i64 d.which)/\w.cell? (a.add (i*7+1))=some (.int .i64 d.op)/\w.cell? (a.add (i*7+2))=some (.int .u64 (d.h:Int))/\
    w.cell? (a.add (i*7+3))=some (.int .u64 (d.n:Int))/\w.cell? (a.add (i*7+4))=some (.int .u64 (d.m:Int))/\w.cell? (a.add (i*7+5))=some (.int .u64 (d.at_:Int))/\w.cell? (a.add (i*7+6))=some (.slice d.A d.b.length d.c)) len (fun i hil=>by
    obtain⟨cs',hc,ht⟩:=hi i (by omega);obtain⟨_,hcl,hat⟩:=World.cells?_some hc;obtain⟨xs,n',_,_,_,hlen,hf⟩:=DataW.trod_struct Tryz.underlying46 ht;match cs',hcl,xs,hlen with
    | [v,v0,v1,v2,v3,v4,v5],_,[y,z],_=>
     have g:DataW.trod enc Tryz.prog w base (fun _=>true) held n' 3 (List.take (Tryz.prog.cellsOf 3) (List.drop 0 [v,v0,v1,v2,v3,v4,v5]))= [y,z][0]?:=hf 0 _ rfl;have f:DataW.trod enc Tryz.prog w base (fun _=>true) held n' 43 (List.take (Tryz.prog.cellsOf 43) (List.drop 1 [v,v0,v1,v2,v3,v4,v5]))= [y,z][1]?:=hf 1 _ rfl;rw[hC1]at g;rw[hC6]at f;simp only[List.drop_zero,List.drop_succ_cons,List.take_succ_cons,List.take_zero,List.getElem?_cons_zero,List.getElem?_cons_succ]at g f;obtain⟨xs2,n2,_,_,_,hlen2,hf2⟩:=DataW.trod_struct Tryz.underlying43 f;match xs2,hlen2 with
     | [y0,y1,y2,y3,y4,y5],_=>
      have g0:=hf2 0 _ rfl;have g1:=hf2 1 _ rfl;have g2:=hf2 2 _ rfl;have g3:=hf2 3 _ rfl;have g4:=hf2 4 _ rfl;have g5:=hf2 5 _ rfl;rw[(hone_of hone 0 _ rfl).1,(hone_of hone 0 _ rfl).2]at g0;rw[(hone_of hone 1 _ rfl).1,(hone_of hone 1 _ rfl).2]at g1;rw[(hone_of hone 2 _ rfl).1,(hone_of hone 2 _ rfl).2]at g2;rw[(hone_of hone 3 _ rfl).1,(hone_of hone 3 _ rfl).2]at g3;rw[(hone_of hone 4 _ rfl).1,(hone_of hone 4 _ rfl).2]at g4;rw[(hone_of hone 5 _ rfl).1,(hone_of hone 5 _ rfl).2]at g5;simp only[List.drop_zero,List.drop_succ_cons,List.take_succ_cons,List.take_zero,List.getElem?_cons_zero,List.getElem?_cons_succ]at g0 g1 g2 g3 g4 g5;obtain⟨k,hk,_,wk⟩:=DataW.trod_int Tryz.underlying3 g;obtain⟨n0,h0,_,w0⟩:=DataW.trod_int Tryz.underlying3 g0;obtain⟨n1,h1,_,w1⟩:=DataW.trod_int Tryz.underlying25 g1;obtain⟨n2,h2,_,w2⟩:=DataW.trod_int Tryz.underlying25 g2;obtain⟨n3,h3,_,w3⟩:=DataW.trod_int Tryz.underlying25 g3;obtain⟨n4,h4,_,w4⟩:=DataW.trod_int Tryz.underlying25 g4;obtain⟨bA,bn,bc,rfl⟩:∃bA bn bc,v5= .slice bA bn bc:=by
       rcases open_slice Tryz.underlying37 g5 with⟨h,_⟩ | ⟨a,l,c,_,_,_,_,h,_⟩
       · exact⟨_,_,_,by simpa using h⟩
       · exact⟨_,_,_,by simpa using h⟩
      obtain⟨bs,hbs,hbl,hbc,_⟩:=aqN g5;obtain rfl:bs.length=bn:=hbs.1;simp at hk h0 h1 h2 h3 h4;subst hk h0 h1 h2 h3 h4;have bk:=bounds_i64 wk;have b0:=bounds_i64 w0;have b1:=bounds_u64 w1;have b2:=bounds_u64 w2;have b3:=bounds_u64 w3;have b4:=bounds_u64 w4;obtain⟨m1,rfl⟩:∃m:Nat,n1=(m:Int):=⟨n1.toNat,by omega⟩;obtain⟨m2,rfl⟩:∃m:Nat,n2=(m:Int):=⟨n2.toNat,by omega⟩;obtain⟨m3,rfl⟩:∃m:Nat,n3=(m:Int):=⟨n3.toNat,by omega⟩;obtain⟨m4,rfl⟩:∃m:Nat,n4=(m:Int):=⟨n4.toNat,by omega⟩;have a0:=hat 0 (by omega);have a1:=hat 1 (by omega);have a2:=hat 2 (by omega);have a3:=hat 3 (by omega);have a4:=hat 4 (by omega);have a5:=hat 5 (by omega);have a6:=hat 6 (by omega);rw[Go.Deep.add_add]at a0 a1 a2 a3 a4 a5 a6;exact⟨⟨k,n0,m1,m2,m3,m4,bA,bc,bs⟩,⟨by dsimp only;omega,by dsimp only;omega,by dsimp only;omega,by dsimp only;omega,by dsimp only;omega,by dsimp only;omega,Nat.le_trans hbl hbc⟩,hbs,a0,a1,a2,a3,a4,a5,a6⟩)
   refine⟨ds,hd,fun hn=> ?_,by omega⟩;obtain⟨d,hd0⟩:∃d,ds[0]?=some d:=⟨ds[0],List.getElem?_eq_getElem hn⟩;obtain⟨_,_,h0,_⟩:=hp 0 d hd0;rw[Nat.zero_mul]at h0;obtain⟨b,o,rfl,hlt,e⟩:=aoo h0;refine⟨b,o,rfl,hlt,fun j d hj=> ?_⟩;obtain⟨k1,k2,h0,h1,h2,h3,h4,h5,h6⟩:=hp j d hj;rw[e]at h0 h1 h2 h3 h4 h5 h6;exact⟨⟨h0,h1,h2,h3,h4,h5,h6⟩,k2,k1⟩
end
theorem atu (w:World) (g base cap c:Nat) (A:Option Addr) (bs:List UInt8) (l:List Bk) (har:Ar w 195 g base cap A c bs) (hbase:base<=4611686018427387904) (hl:bs.length<=16384) (hck:ab8 bs=true) (hwk:abA bs=some l):
 Calls Tryz.prog 58 #[.pointer (some ⟨g,0,none⟩)] w fun e w'=>∃A1 A2 c1 c2,e= .returned (.tuple #[.agg #[.int .i64 (bs.length:Int), .slice A1 l.length c1, .slice A2 (ofD bs l).length c2], .nilIface])/\RkRd w' w'.heap.size A1 (l.map toR)/\DtRd w' w'.heap.size A2 (ofD bs l)/\Below w.heap.size w w':=by
 obtain⟨hin,hll32,hmem⟩:=arQ hwk hl;obtain⟨F,hF⟩:=nmE (ofD bs l);rw[hF];obtain⟨w1,hw1⟩:=nmE (w.alloc (.cells #[.int .i64 0, .slice none 0 0, .slice none 0 0] 107));have hb1:=abE hw1;have n1:=anE hw1;have HAR1:=hE0 (har.below hb1);have HC:=hE0 (apl w1 g base cap c A bs true HAR1.out hbase hl hck);dsimp only[aat]at HC;have HWK:=hE0 (fun W (h:Ar W 195 g base cap A c bs)=>ajx W g base cap c A bs (some l) h hbase hl hwk);have HW1:=hE0 hw1;have HB1:=hE0 hb1;have HN1:=hE0 n1;have HMEM:=hE0 hmem;have HIN:=hE0 hin;have HFF:=hE0 hF;obtain⟨n,hn⟩:=nmE bs.length;rw[hn]at hl hll32;rw[hn];have HNN:=hE0 hn;obtain⟨m,hm⟩:=nmE l.length;rw[hm]at hll32 ⊢;have HMM:=hE0 hm;have HLL:Hid ((l.map toR).length=m):=(show _=_ by rw[List.length_map];exact hm);clear har hck hw1 hb1 n1 hwk hmem hin hF hn hm;go_enter Tryz.func58,Tryz.ntmps58
 go_wp2_with (first | (rw[HW1.out]) | fail)
 refine HC.out.mono ?_;rintro e w2 ⟨rfl,hb2⟩;have har2:=HAR1.out.below hb2;have hlen:=abF har2;rw[HNN.out]at hlen;have HLEN:=hE0 hlen;have HAR2:=hE0 har2;have HN2:=hE0 ((hb2.block _ (aab HN1.out)).trans HN1.out);have HB2:=hE0 (HB1.out.trans (hb2.mono HB1.out.size));obtain⟨w3,hw3⟩:=nmE (w2.alloc (.cells #[.int .i64 (n:Int), .slice none 0 0, .slice none 0 0] 107));have hb3:=abE hw3;have n3:=anE hw3;have hwk3:=HWK.out w3 (har2.below hb3);unfold acR at hwk3;dsimp only[aat,Option.isSome,Option.getD]at hwk3;have HWK3:=hE0 hwk3;have HW3:=hE0 hw3;have HB3:=hE0 hb3;have HN3:=hE0 n3;clear hb2 har2 hlen hw3 hb3 n3 hwk3 HWK HC HAR1;go_wp2_with fail
 refine HLEN.out.mono ?_;rintro e wq ⟨rfl,rfl⟩;go_wp2_with (first | (rw[HW3.out]) | fail)
 refine HWK3.out.mono ?_;rintro e w4 ⟨A1,c1,rfl,own4,hb4⟩;rw[HMM.out];have n4:=(hb4.block _ (aab HN3.out)).trans HN3.out;have hl4:=aab n4;obtain⟨f0,f1,f2⟩:=acI n4;obtain⟨z0,z1,z2⟩:=aal n4;obtain⟨w5,hw5⟩:=nmE (w4.setCell ⟨w2.heap.size,1,none⟩ (.slice A1 m c1));have hg5:w4.grownBy w5 (some w2.heap.size):=by rw[<-hw5];exact acl w4 w2.heap.size 1 _
 have n5:w5.heap[w2.heap.size]?=some (.cells #[.int .i64 (n:Int), .slice A1 m c1, .slice none 0 0] 107 (0,0)):=by rw[<-hw5];exact heap_setCell_same w4 w2.heap.size 1 _ _ _ n4
 have hb5:Below w2.heap.size w2 w5:=by rw[<-hw5];exact(HB3.out.trans (hb4.mono HB3.out.size)).setCell (p:=⟨w2.heap.size,1,none⟩) (Nat.le_refl _) _
 have own5:w5.ownsRow w2.heap.size 112 3 (.slice A1 (l.map toR).length c1) (l.map toR).length (aeL (l.map toR)):=by
  rw[HLL.out,<-ap0];rw[HMM.out]at own4;exact ad6 (acG own4 hg5 fun k hk hrk=>by injection hrk with hrk;subst hrk;exact adl own4 hk n4 (by decide)) HB3.out.size
 have HIM5:Hid (ImP w2.heap.size w2.heap.size (n:Int) A1 c1 (l.map toR) none 0 [] [] w5):=⟨by rw[HLL.out];exact n5,own5,World.ownsRow_nil _ _ _ _,fun i y h=>by simp at h,Nat.le_refl _,HIN.out⟩;have HB5:=hE0 hb5;have hRW:=own5;obtain⟨d0,d1,d2⟩:=aal n5;have hl5:=aab n5;have HW5:=hE0 hw5;clear own4 hb4 n4 hw5 hg5 n5 hb5 own5 hRW;go_wp2_with (first | (rw[HW5.out]) | fail)
 clear f0 f1 f2 z0 z1 z2 d0 d1 d2 hl4 hl5;obtain⟨j0,ji,jz0,jz1,jz2⟩:=info_parts aoB;go_loopw [26] (fun t W=>∃(j:Nat) (A2:Option Addr) (c2:Nat) (d:List (List UInt8)) (xs:List Value),t= .int .i64 (j:Int)/\j<=m/\ImP w2.heap.size w2.heap.size (n:Int) A1 c1 (l.map toR) A2 c2 d xs W/\d++ofD bs (l.drop j)=F/\d.length<=j/\Below w2.heap.size w2 W) (fun t _=>m-(intOf t).toNat)
 case atStart=>exact⟨0,none,0,[],[],rfl,Nat.zero_le _,HIM5.out,HFF.out,Nat.le_refl _,HB5.out⟩
 case round=>
  obtain⟨j,A2,c2,d,xs,rfl,hj,him,hdf,hdl,hb⟩:=hrel;have ho:=him.obj;rw[HLL.out]at ho;obtain⟨d0,d1,d2⟩:=aal ho;have hlm:=aab ho;by_cases hlt:j<m
  · obtain⟨x,hx⟩:∃x,l[j]?=some x:=⟨l[j]'(by rw[HMM.out];exact hlt),List.getElem?_eq_getElem _⟩;obtain⟨m1,m2,m3⟩:=HMEM.out x (List.mem_of_getElem? hx);have m4:=(aac _).1 m3;rw[HNN.out]at m2;obtain⟨b2,o,rfl,hbb,hcl⟩:=him.rkrd (by rw[HLL.out];omega);obtain⟨r0,r1,r2,_,_⟩:=hcl j (toR x) (by rw[List.getElem?_map,hx];rfl);rw[adM hx]at hdf;unfold ofD at hdf;obtain⟨xo,xz,xu⟩:=x;dsimp only[toR]at r0 r1 r2 hdf m1 m2 m3 m4;obtain⟨w4',hw4⟩:∃w4,wr.alloc (.cells #[.int .i64 (xo:Int), .int .i64 (xz:Int), .bool xu] 112)=w4:=⟨_,rfl⟩;have hb04:Below wr.heap.size wr w4':=by rw[<-hw4];exact(Below.refl _ _).alloc (Nat.le_refl _) _
    have n4:=anE hw4;have HIM4:=hE0 (him.stay hb04);have HB4:=hE0 (hb.trans (hb04.mono hb.size));have HW4:=hE0 hw4;have HN4:=hE0 n4;obtain⟨e0,e1,e2⟩:=aal n4;have hl4:=aab n4;have HDF:=hE0 hdf;clear hx hcl hb04 hw4 n4 hdf him hb ho
    cases xu with
    | false=>
     have HF2:Hid (d++ofD bs (l.drop (j+1))=F):=(show _=_ by simpa using HDF.out);go_wp2_with (first | (rw[HW4.out]) | fail)
     go_roundw
     case rel=>exact⟨j+1,A2,c2,d,xs,by go_num,by omega,HIM4.out,HF2.out,by omega,HB4.out⟩
     case measure=>simp only[intOf];omega
    | true=>
     obtain⟨q,hq⟩:∃q,xz=q+16:=⟨xz-16,by omega⟩;have har4:=HAR2.out.below HB4.out;obtain⟨y,hy⟩:=nmE ((bs.drop (xo+8)).take q);have hyl:y.length=q:=by rw[<-hy,List.length_take,List.length_drop,HNN.out];omega
     have hyb:y.length<=100000:=by omega
     have HF2:Hid ((d++ [y])++ofD bs (l.drop (j+1))=F):=(show _=_ by
      have:=HDF.out;rw[if_pos rfl,show xz-16=q from by omega,hy]at this;rw[List.append_assoc];exact this)
     obtain⟨wd,hwd⟩:=nmE w4'.drew;have hbd:Below w4'.heap.size w4' wd:=by rw[<-hwd];exact(Below.refl _ _).drew
     have hard:=har4.below hbd;have HBASE:=hE0 (acc hard);have HHELD:=hE0 (ac4 wd (xo:Int) (xz:Int) true m3);rw[show(xz:Int)-16=(q:Int) from by omega]at HHELD;obtain⟨ad,had⟩:=nmE (base+xo+8);have HLOAD:=hE0 (fun W (h:Ar W 195 g base cap A c bs)=>an7 h (by rw[HNN.out];omega) ad q (xo+8) (by omega) (by omega) (by omega) (by rw[HNN.out];omega));rw[hy]at HLOAD;have HARD:=hE0 hard;have hbd4:=HB4.out.trans (hbd.mono HB4.out.size);have HBD:=hE0 hbd4;have HIMD:=hE0 (HIM4.out.stay hbd);have hnd:=(hbd.block _ (aab HN4.out)).trans HN4.out;obtain⟨g0,g1,g2⟩:=aal hnd;have lgd:=aab hnd;have HWD:=hE0 hwd;have HYL:=hE0 hyl;obtain⟨bx,hbx⟩:=nmE (base+xo);have i3:(base:Int)+(xo:Int)=(bx:Int):=by omega
     have i1:(bx:Int)+8=(ad:Int):=by omega
     have i2:ad<18446744073709551616:=by omega
     have hqb:q<=20000:=by omega
     have i4:bx<18446744073709551616:=by omega
     clear hbd har4 hard hbd4 hnd hwd hy hyl had hq hbx;go_wp2_with (first | (rw[HW4.out]) | fail)
     refine aaq wd.heap.size [([0,1,3,4,5,8],2),([6,7],9),([10],11)] [12,13,14,15,16] [] (by kernel_rfl) (by kernel_rfl) (by kernel_rfl) (fun _ _ _ _ _ h=>h) ?_;rw[HWD.out];have q0:=tfE g0 lgd;have q1:=tfE g1 lgd;have q2:=tfE g2 lgd;refine tail_cons (l:= ?segA) ?hsegA ?_
     case hsegA=>simp only[pick,lE1,lE2,lE3];rfl
     repeat (go_big_quiet_step (fail))
     refine wpQuiet_nil ?_;clear q0 q1 q2;refine aau (vs:= #[.pointer (some ⟨g,0,none⟩)]) Tryz.call56 rfl rfl rfl (R:=fun r w'=>r= .int .u64 (base:Int)/\w'=wd) (HBASE.out.mono ?_) wd.heap.size (Nat.le_refl _) ?_
     · rintro e w' ⟨rfl,rfl⟩;exact⟨_,rfl,Below.refl _ _,rfl,rfl⟩
     rintro r w' _ ⟨rfl,rfl⟩;simp only[Act.put,lE4,lE5,lE6];refine tail_cons (l:= ?segB) ?hsegB ?_
     case hsegB=>simp only[pick,lE1,lE2,lE3];rfl
     repeat (go_big_quiet_step (fail))
     refine wpQuiet_nil ?_;refine ae1 (vs:= #[.agg #[.int .i64 (xo:Int), .int .i64 (xz:Int), .bool true]]) Tryz.call117 rfl rfl rfl (R:=fun r w''=>r= .int .i64 (q:Int)/\Below w'.heap.size w' w'') (HHELD.out.mono ?_) ?_
     · rintro e w'' ⟨rfl,hb⟩;exact⟨_,rfl,hb,rfl,hb⟩
     rintro r w5 _ ⟨rfl,hb5⟩;refine⟨w5.heap.size,hb5.size,?_⟩;simp only[Act.put,lE4,lE5,lE6];have HIM5:=hE0 (HIMD.out.stay hb5);have HB5:=hE0 (HBD.out.trans (hb5.mono HBD.out.size));have hlo:=HLOAD.out w5 (HARD.out.below hb5);unfold aqF at hlo;rw[HYL.out]at hlo;clear hb5;refine tail_cons (l:= ?segC) ?hsegC ?_
     case hsegC=>simp only[pick,lE1,lE2,lE3];rfl
     repeat (go_big_quiet_step (fail))
     refine wpQuiet_nil ?_;refine ae1 (vs:= #[.pointer (some ⟨g,0,none⟩), .int .u64 (ad:Int), .int .u64 (q:Int)]) Tryz.call96 rfl rfl rfl (R:=fun r w''=>∃A' c',r= .tuple #[.slice A' q c', .nilIface]/\w''.ownsRow w5.heap.size 5 1 (.slice A' q c') q (y.map bv)/\Below w5.heap.size w5 w'') (hlo.mono ?_) ?_
     · rintro e w'' ⟨A',c',rfl,ho,hb⟩;exact⟨_,rfl,hb,A',c',rfl,ho,hb⟩
     rintro r w6 _ ⟨A6,k6,rfl,ho6,hb6⟩;refine⟨w6.heap.size,hb6.size,?_⟩;simp only[Act.put,lE4,lE5,lE6];have him6:=HIM5.out.stay hb6;have hB6:=HB5.out.trans (hb6.mono HB5.out.size);obtain⟨w7,hw7⟩:=nmE (w6.alloc (.cells #[.slice A6 q k6] 37));have hb7:=abE hw7;have n7:=anE hw7;have HIM7:=hE0 (him6.stay hb7);have HB7:=hE0 (hB6.trans (hb7.mono hB6.size));have ho7:=ad6 (ab2 ho6 hb7 (acJ ho6)) (Nat.zero_le _);rw[<-HYL.out]at ho7;have Ho7:=hE0 ho7;have hB7s:w2.heap.size<=w7.heap.size:=HB7.out.size;have HRUN:=hE0 (fun V:World=>ajm V A6 q k6);have HW7:=hE0 hw7;have HNEW:Hid (∀j u,[Value.slice A6 q k6][j]?=some u->w7.cell? ((⟨w6.heap.size,0,none⟩:Addr).add j)=some u):=fun j u hu=>by
      have e:(⟨w6.heap.size,0,none⟩:Addr).add j=⟨w6.heap.size,j,none⟩:=by unfold Addr.add;split<;>simp_all
      rw[e,cell_of_row w7 _ j _ _ (0,0) n7];simpa using hu
     have HONE:Hid (∀u∈ [Value.slice A6 q k6],u.oneCell'=true):=fun u hu=>by
      simp at hu;subst hu;rfl
     have hdb:d.length<=2000:=by omega
     have ho6':=him6.obj;rw[HLL.out]at ho6';obtain⟨v0,v1,v2⟩:=aal ho6';have hl6:=aab ho6';clear hlo ho6 hb6 him6 hB6 hw7 hb7 n7 ho7 ho6' d0 d1 d2 hlm e0 e1 e2 hl4 g0 g1 g2 lgd;refine aaN (l:= ?lastA) (t:= []) ?hlastA rfl ?_
     case hlastA=>simp only[pick,lE1,lE2,lE3];rfl
     repeat (go_big_quiet_step (fail))
     refine wpQuiet_nil ?_;go_wp2_with (first
      | (rw[HRUN.out])
      | (rw[HW7.out])
      | (at_builtin;go_must (refine wpList_append_own _ rfl _ _ 57 rfl w2.heap.size 37 j0 _ 1 24 Tryz.underlying57 ji jz0 jz1 jz2 rfl (by decide) _ d.length xs rfl HIM7.out.rd ⟨w6.heap.size,0,none⟩ 1 1 [.slice A6 q k6] rfl rfl HNEW.out HONE.out (by unfold maxLen;omega) (by omega) hB7s ?_);intro x8 w8 own8 gr8 at8
         obtain⟨A2',c2',rfl,hg8,him8,hb8⟩:=HIM7.out.pushD (y:=y) hyb Ho7.out (by rw[HYL.out];exact own8) gr8 HB7.out (Nat.le_refl _) hB7s;have e8:=hg8.trans HIM7.out.obj;rw[HLL.out]at e8;obtain⟨c80,c81,c82⟩:=aal e8;obtain⟨t80,t81,t82⟩:=acI e8;have hl8:=aab e8;have HIM8:=hE0 him8;have HB8x:=hE0 hb8;clear own8 gr8 at8 hg8 him8 hb8 e8)
      | fail)
     go_roundw
     case rel=>exact⟨j+1,A2',c2',d++ [y],_,by go_num,by omega,HIM8.out,HF2.out,by rw[List.length_append,List.length_singleton];omega,HB8x.out⟩
     case measure=>simp only[intOf];omega
  · have hd0:l.drop j= []:=List.drop_eq_nil_of_le (by rw[HMM.out];omega);rw[hd0]at hdf;have hdF:d=F:=by rw[<-hdf];unfold ofD;rw[List.append_nil]
    subst hdF;have hN9:=(hb.block _ (aab HN2.out)).trans HN2.out;have hB9:=HB2.out.trans (hb.mono HB2.out.size);have hl9:=aab hN9;obtain⟨t0,t1,t2⟩:=acI hN9;obtain⟨z0,z1,z2⟩:=aal hN9;obtain⟨dl,hdl2⟩:=nmE d.length;rw[hdl2]at ho;clear d0 d1 d2;obtain⟨d0,d1,d2⟩:=aal ho;have HM:=hE0 (aeI hN9 (.int .i64 (n:Int)) (.slice A1 m c1) (.slice A2 dl c2));have HF:=hE0 (((hB9.setCell (p:=⟨w.heap.size,0,none⟩) (Nat.le_refl _) (.int .i64 (n:Int))).setCell (p:=⟨w.heap.size,1,none⟩) (Nat.le_refl _) (.slice A1 m c1)).setCell (p:=⟨w.heap.size,2,none⟩) (Nat.le_refl _) (.slice A2 dl c2));have HLAID:=hE0 (him.laid (aab HN2.out) hN9 (.int .i64 (n:Int)) (.slice A1 m c1) (.slice A2 dl c2));have HDL:=hE0 hdl2;clear hN9 hB9 him hb ho hdl2 hdf hd0;go_wp2
    (try simp only[Exit.inBlock,Exit.then])
    refine ajk (g:=w.heap.size) (x:= .nilIface) Tryz.results58 ?_ ?_ ?_ HM.out ?_
    · rfl
    · rfl
    · rfl
    · exact⟨A1,A2,c1,c2,by rw[HDL.out],HLAID.out.1,HLAID.out.2,HF.out⟩
structure Sm (wB W:World) (g base cap:Nat) (A:Option Addr) (c:Nat) (bs:List UInt8) (gm:Nat) (o:Obj):Prop where
 st:St wB W g base cap A c bs []
 ob:W.heap[gm]?=some o
 nf:¬foot g A gm
section
variable {wB W W':World} {g base cap c gm:Nat} {A:Option Addr} {bs out:List UInt8} {o:Obj}
theorem aj8{w:World}{g:Nat}{o:Obj}(h:w.heap[g]?=some o):g<w.heap.size:=(Array.getElem?_eq_some_iff.1 h).1
theorem Sm.below (h:Sm wB W g base cap A c bs gm o) (hb:Below W.heap.size W W'):Sm wB W' g base cap A c bs gm o:=
 ⟨h.st.below hb,(hb.block _ (aj8 h.ob)).trans h.ob,h.nf⟩
theorem Sm.became (h:Sm wB W g base cap A c bs gm o) (hb:Became 195 g base cap A out W W'):∃A' c',Sm wB W' g base cap A' c' out gm o:=by
 obtain⟨A',c',har,ht,hA⟩:=hb;have hlow:∀a,A'=some a->wB.heap.size<=a.block:=fun a ha=>by
  rcases hA with e | e
  · exact h.st.aB a (e▸ha)
  · exact Nat.le_trans h.st.size (e a ha)
 refine⟨A',c',⟨h.st.bel.trans (ht.below (fun k hk=> ?_) h.st.size),har,h.st.gB,hlow,fun q hq=>by cases hq⟩,?_,?_⟩
 · rcases hk with rfl | ⟨a,e,rfl⟩
   · exact h.st.gB
   · exact h.st.aB a e
 · exact(ht.block _ (aj8 h.ob) h.nf).trans h.ob
 · intro hf;rcases hf with rfl | ⟨a,e,rfl⟩
   · exact h.nf (.inl rfl)
   · rcases hA with e2 | e2
     · exact h.nf (.inr ⟨a,e2▸e,rfl⟩)
     · have h1:=e2 a e;have:=aj8 h.ob;omega
end
theorem ap8{bs:List UInt8}{x:Bk}{r:List Bk}{d:List (List UInt8)}{y:List UInt8}(hu:x.used=true):afT bs (x::r) (y::d)=afT (lay (aaT bs x) (x.off+8) y) r d:=by
 rw[afT,if_pos hu];rfl
theorem ap9{bs:List UInt8}{x:Bk}{r:List Bk}{d:List (List UInt8)}(hu:x.used=false):afT bs (x::r) d=afT (aaT bs x) r d:=by
 rw[afT,if_neg (by rw[hu];simp)]
theorem aqa (wB W:World) (g base cap c:Nat) (A:Option Addr) (bs:List UInt8) (n:Nat) (L:List Bk) (d:List (List UInt8)) (A1 A2:Option Addr) (k1 k2:Nat) (N:Int) (hst:St wB W g base cap A c bs []) (hb62:base<=4611686018427387904) (hn:bs.length=n) (hn16:n<=16384) (ht:abr 184 L n) (hd:alu L d) (hr:RkRd wB wB.heap.size A1 (L.map toR)) (hdr:DtRd wB wB.heap.size A2 d):
 Calls Tryz.prog 155 #[.pointer (some ⟨g,0,none⟩), .agg #[.int .i64 N, .slice A1 L.length k1, .slice A2 d.length k2]] W fun e w'=>e= .returned (.tuple #[])/\∃A' c',St wB w' g base cap A' c' (afT bs L d) []:=by
 obtain⟨m,hm⟩:=nmE L.length;obtain⟨dl,hdl⟩:=nmE d.length;obtain⟨F,hF⟩:=nmE (afT bs L d);rw[hm,hdl,hF];have htm:=(aak _ _ _ ht).2;have hm512:m<=512:=by have:=amf _ _ _ ht;omega
 obtain⟨w1,hw1⟩:=nmE (W.alloc (.cells #[.int .i64 N, .slice A1 m k1, .slice A2 dl k2] 107));have hb1:=abE hw1;have n1:=anE hw1;have HS1:Hid (Sm wB w1 g base cap A c bs W.heap.size (.cells #[.int .i64 N, .slice A1 m k1, .slice A2 dl k2] 107 (0,0))):=⟨hst.below hb1,n1,fun hf=>by have:=hst.ar.foot_lt hf;omega⟩;have HSET:=hE0 (fun W' A' c' bs' (x:Bk) (h:Ar W' 195 g base cap A' c' bs') (hl:bs'.length<=16384) (h1:184<=x.off) (h2:x.off%16=8) (h3:x.off+x.size<=bs'.length) (h4:aaD (x.size:Int)=true) (h5:x.off<=100000) (h6:x.size<=100000)=>auX W' g base cap c' A' bs' (x.off:Int) (x.size:Int) x.used (some (aaT bs' x)) h hb62 hl (by omega) (by omega) (aen bs' x h1 h2 h3 h4));have HR:=hE0 hr;have HDR:=hE0 hdr;have HM:=hE0 hm;have HDL:=hE0 hdl;have HTM:=hE0 htm;have HT:=hE0 ht;have HD:=hE0 hd;have HF0:=hE0 hF;have HN:=hE0 hn;have HW1:=hE0 hw1;obtain⟨c0,c1,c2⟩:=aal n1;have hl1:=aab n1;clear hm hdl hF ht hd hr hdr hn htm hw1 n1 hst hb1;go_enter Tryz.func155,Tryz.ntmps155
 go_wp2_with (first | (rw[HW1.out]) | fail)
 clear c0 c1 c2 hl1;go_loopw [4,10] (fun u t wr=>∃(j v:Nat) (A:Option Addr) (c:Nat) (bs:List UInt8) (o:Nat),t= .int .i64 (j:Int)/\u= .int .i64 (v:Int)/\j<=m/\v<=j/\Sm wB wr g base cap A c bs W.heap.size (.cells #[.int .i64 N, .slice A1 m k1, .slice A2 dl k2] 107 (0,0))/\bs.length=n/\afT bs (L.drop j) (d.drop v)=F/\alu (L.drop j) (d.drop v)) (fun _ t _=>m-(intOf t).toNat)
 case atStart=>exact⟨0,0,A,c,bs,184,rfl,rfl,Nat.zero_le _,Nat.zero_le _,HS1.out,HN.out,HF0.out,HD.out⟩
 case round=>
  obtain⟨j,v,A,c,bs,o,rfl,rfl,hj,hvj,hsm,hbl,hlay,hdat⟩:=hrel;by_cases hlt:j<m
  · obtain⟨x,hx⟩:∃x,L[j]?=some x:=⟨L[j]'(by rw[HM.out];exact hlt),List.getElem?_eq_getElem _⟩;obtain⟨m1,m2,m3,m4⟩:=HTM.out x (List.mem_of_getElem? hx);have m5:=(aac _).1 m3;obtain⟨b2,o2,rfl,hbb,hcl⟩:=HR.out (by rw[List.length_map,HM.out];omega);obtain⟨p0,p1,p2,_,_⟩:=hcl j (toR x) (by rw[List.getElem?_map,hx];rfl);have hbe:=hsm.st.bel;have r0:=(hbe.cell (p:=⟨b2,o2+j*3,none⟩) hbb).trans p0;have r1:=(hbe.cell (p:=⟨b2,o2+j*3+1,none⟩) hbb).trans p1;have r2:=(hbe.cell (p:=⟨b2,o2+j*3+2,none⟩) hbb).trans p2;rw[adM hx]at hlay hdat;obtain⟨w4,hw4⟩:=nmE (wr.alloc (.cells #[.int .i64 (x.off:Int), .int .i64 (x.size:Int), .bool x.used] 112));have hb4:=abE hw4;have n4:=anE hw4;have hsm4:=hsm.below hb4;have hset:=HSET.out w4 A c bs x hsm4.st.ar (by omega) m1 (by omega) (by omega) m3 (by omega) (by omega);dsimp only[ao1,aat]at hset;have hsl:=amp (bs:=bs) (x:=x) (by omega) (by omega);have hnfx:¬foot g A wr.heap.size:=fun hf=>by have:=hsm.st.ar.foot_lt hf;omega
    obtain⟨xo,xz,xu⟩:=x;dsimp only[toR]at p0 p1 p2 r0 r1 r2 m1 m2 m3 m4 m5 hset n4 hw4;obtain⟨e0,e1,e2⟩:=aal n4;have hl4:=aab n4;have HSETX:=hE0 hset;have HSM4:=hE0 hsm4;have HN4:=hE0 n4;have HW4:=hE0 hw4;have HLAY:=hE0 hlay;have HDAT:=hE0 hdat;have HNFX:=hE0 hnfx;have HSL:=hE0 (hsl.trans hbl);clear hx hcl p0 p1 p2 hbe hb4 hw4 n4 hsm4 hset hsm hlay hdat hnfx hsl hbl hbb
    cases xu with
    | false=>
     go_wp2_with (first | (rw[HW4.out]) | fail)
     refine HSETX.out.mono ?_;rintro e w5 ⟨rfl,hbec⟩;obtain⟨A5,c5,s5⟩:=HSM4.out.became hbec;have hx5:w5.heap[wr.heap.size]?=_:=(by obtain⟨_,_,_,ht5,_⟩:=hbec;exact(ht5.block _ (aab HN4.out) HNFX.out).trans HN4.out);have HSM5:=hE0 s5;have HF2:Hid (afT (aaT bs ⟨xo,xz,false⟩) (L.drop (j+1)) (d.drop v)=F):=(show _=_ by rw[<-HLAY.out,ap9 rfl]);have HD2:Hid (alu (L.drop (j+1)) (d.drop v)):=(show alu _ _ by have:=HDAT.out;unfold alu at this;simpa using this);clear e0 e1 e2 hl4 hbec s5 r0 r1 r2;obtain⟨e0,e1,e2⟩:=aal hx5;have hl5:=aab hx5;clear hx5;go_wp2_with fail
     go_roundw
     case rel=>exact⟨j+1,v,A5,c5,_,o,by go_num,rfl,by omega,by omega,HSM5.out,HSL.out,HF2.out,HD2.out⟩
     case measure=>simp only[intOf];omega
    | true=>
     obtain⟨y,d',hdv⟩:∃y d',d.drop v=y::d':=by
      have:=HDAT.out;unfold alu at this;simp only[if_true]at this
      cases hdd:d.drop v with
      | nil=>rw[hdd]at this;exact this.elim
      | cons y d'=>exact⟨y,d',rfl⟩
     have hyd:d[v]?=some y:=by
      have:(d.drop v)[0]?=some y:=by rw[hdv];rfl
      rwa [List.getElem?_drop,Nat.add_zero]at this
     have hd':d.drop (v+1)=d':=by rw[<-List.drop_drop,hdv];rfl
     have hvd:v<dl:=by rw[<-HDL.out];exact(List.getElem?_eq_some_iff.1 hyd).1
     have hda:=HDAT.out;rw[hdv]at hda;unfold alu at hda;simp only[if_true]at hda;obtain⟨hyl,hd2⟩:=hda;have HF2:Hid (afT (lay (aaT bs ⟨xo,xz,true⟩) (xo+8) y) (L.drop (j+1)) (d.drop (v+1))=F):=(show _=_ by rw[<-HLAY.out,hdv,hd',ap8 rfl]);have HD2:Hid (alu (L.drop (j+1)) (d.drop (v+1))):=(show alu _ _ by rw[hd'];exact hd2);obtain⟨b3,o3,rfl,hb3,hc3⟩:=HDR.out (by rw[HDL.out];omega);obtain⟨A',kz,z0,zr,zl,_,_⟩:=hc3 v y hyd;obtain⟨yn,hyn⟩:=nmE y.length;rw[hyn]at z0 zr hyl;have HYN:=hE0 hyn;have HZR:=hE0 zr;have hlay2:(lay (aaT bs ⟨xo,xz,true⟩) (xo+8) y).length=n:=by rw[aca _ _ _ (by rw[HSL.out,hyn];omega)];exact HSL.out
     have HLL2:=hE0 hlay2;obtain⟨ad,had⟩:=nmE (base+xo+8);obtain⟨bx,hbx⟩:=nmE (base+xo);have i3:(base:Int)+(xo:Int)=(bx:Int):=by omega
     have i1:(bx:Int)+8=(ad:Int):=by omega
     have i2:ad<18446744073709551616:=by omega
     have i4:bx<18446744073709551616:=by omega
     have hvi:(v:Int)<(dl:Int):=by omega
     have HSTO:=hE0 (fun W' A5 c5 (h:Ar W' 195 g base cap A5 c5 (aaT bs ⟨xo,xz,true⟩)) (hr:Rd W' wB.heap.size A' y.length y)=>ahX h (by rw[HSL.out];omega) ad (xo+8) A' kz y wB.heap.size hr (by omega) (by omega) (by omega) (by rw[HSL.out,hyn];omega));rw[hyn]at HSTO;clear hdv hyd hd' hd2 hyn hlay2 zr hc3 had hbx zl hyl m1 m2 m3 m4 m5;go_wp2_with (first | (rw[HW4.out]) | fail)
     refine HSETX.out.mono ?_;rintro e w5 ⟨rfl,hbec⟩;obtain⟨A5,c5,s5⟩:=HSM4.out.became hbec;have hx5:w5.heap[wr.heap.size]?=_:=(by obtain⟨_,_,_,ht5,_⟩:=hbec;exact(ht5.block _ (aab HN4.out) HNFX.out).trans HN4.out);clear e0 e1 e2 hl4 hbec r0 r1 r2;obtain⟨e0,e1,e2⟩:=aal hx5;have hl5:=aab hx5;obtain⟨wd,hwd⟩:=nmE w5.drew;have hbd:=adE hwd;have hsmd:=s5.below hbd;obtain⟨q0,q1,q2⟩:=aal ((hbd.block _ hl5).trans hx5);have hld:=Nat.lt_of_lt_of_le hl5 hbd.size;obtain⟨u0,u1,u2⟩:=aal hsmd.ob;have hlu:=aj8 hsmd.ob;have hbB:=hsmd.st.bel;have z4:=(hbB.cell (p:=⟨b3,o3+v,none⟩) hb3).trans z0;have hb3d:=Nat.lt_of_lt_of_le hb3 hbB.size;have HBASE:=hE0 (acc hsmd.st.ar);have HSTOX:=hE0 (HSTO.out wd A5 c5 hsmd.st.ar (HZR.out.below hbB));have HSMD:=hE0 hsmd;have HWD:=hE0 hwd;clear hx5 hwd hbd s5 hsmd hbB z0;go_wp2_with fail
     refine aaq wd.heap.size [([0,1,3,4,5,8,9,10,11,12],2)] [6,7] [13] (by kernel_rfl) (by kernel_rfl) (by kernel_rfl) (fun _ _ _ _ _ h=>h) ?_;rw[HWD.out];have v0:=tfE q0 hld;have v1:=tfE u2 hlu;have v2:=tfE z4 hb3d;refine tail_cons (l:= ?segA) ?hsegA ?_
     case hsegA=>simp only[pick,lE1,lE2,lE3];rfl
     repeat (go_big_quiet_step (fail))
     refine wpQuiet_nil ?_;clear v0 v1 v2;refine aau (vs:= #[.pointer (some ⟨g,0,none⟩)]) Tryz.call56 rfl rfl rfl (R:=fun r w'=>r= .int .u64 (base:Int)/\w'=wd) (HBASE.out.mono ?_) wd.heap.size (Nat.le_refl _) ?_
     · rintro e w' ⟨rfl,rfl⟩;exact⟨_,rfl,Below.refl _ _,rfl,rfl⟩
     rintro r w' _ ⟨rfl,rfl⟩;simp only[Act.put,lE4,lE5,lE6];refine aaN (l:= ?lastA) (t:= ?tailA) ?hlastA ?htailA ?_
     case hlastA=>simp only[pick,lE1,lE2,lE3];rfl
     case htailA=>simp only[pick,lE1,lE2,lE3];rfl
     repeat (go_big_quiet_step (fail))
     refine wpQuiet_nil ?_;clear q0 q1 q2 hld u0 u1 u2 hlu z4 hb3d e0 e1 e2 hl5;go_wp2_with fail
     refine HSTOX.out.mono ?_;rintro e w6 ⟨rfl,hbe6⟩;obtain⟨A6,c6,s6⟩:=HSMD.out.became hbe6;have HSM6:=hE0 s6;clear hbe6 s6;go_wp2_with fail
     go_roundw
     case rel=>exact⟨j+1,v+1,A6,c6,_,o,by go_num,by go_num,by omega,by omega,HSM6.out,HLL2.out,HF2.out,HD2.out⟩
     case measure=>simp only[intOf];omega
  · have hd0:L.drop j= []:=List.drop_eq_nil_of_le (by rw[HM.out];omega);rw[hd0]at hlay;have hbF:bs=F:=hlay;subst hbF;have HSM:=hE0 hsm.st;clear hsm hlay hdat hd0 hbl;go_wp2
    go_end0
    exact⟨rfl,A,c,HSM.out⟩
def alw (n:Int) (l:List Rk) (d:List (List UInt8)):Option (List UInt8):=abZ (afT (List.replicate n.toNat 0) (l.map toB) d)
theorem aqb (w:World) (n:Int) (hn: -9223372036854775808<=n/\n<=9223372036854775807) (A1 A2:Option Addr) (k1 k2:Nat) (l:List Rk) (d:List (List UInt8)) (hr:RkRd w w.heap.size A1 l) (hd:DtRd w w.heap.size A2 d) (hl:l.length<=1000000) (hdl:d.length<=1000000) (base:Nat) (hb:base<18446744073709551616) (cap:Int) (hc: -9223372036854775808<=cap/\cap<=9223372036854775807) (hm:aea n l d=true) (hno:base%16≠0\/4611686018427387904<base\/cap<1024\/16384<cap):
 Calls Tryz.prog 94 #[.agg #[.int .i64 n, .slice A1 l.length k1, .slice A2 d.length k2], .int .u64 (base:Int), .int .i64 cap] w fun e w'=>e= .returned (.tuple #[.pointer none, .iface 130 (.int .i64 1)])/\Below w.heap.size w w':=by
 obtain⟨w1,hw1⟩:=nmE (w.alloc (.cells #[.int .i64 n, .slice A1 l.length k1, .slice A2 d.length k2] 107));have hb1:=abE hw1;have n1:=anE hw1;have hmay:=aeG w1 n hn A1 A2 k1 k2 l d ((hr.below hb1).more hb1.size) ((hd.below hb1).more hb1.size) hl hdl _ hm;unfold imV at hmay;obtain⟨c0,c1,c2⟩:=aal n1;have hl1:=aab n1;have HMAY:=hE0 hmay;have HB1:=hE0 hb1;have HN1:=hE0 n1;have HW1:=hE0 hw1;have HR:=hE0 hr;have HD:=hE0 hd;have HNO:=hE0 (fun W=>ar1 W base cap hb hc hno);clear hmay hb1 n1 hw1 hr hd hm hno;go_enter Tryz.func94,Tryz.ntmps94
 go_wp2_with (first | (rw[HW1.out]) | fail)
 refine HMAY.out.mono ?_;rintro e w2 ⟨rfl,hb2⟩;have HB2:=hE0 (HB1.out.trans (hb2.mono HB1.out.size));have n2:=(hb2.block _ (aab HN1.out)).trans HN1.out;have HN2:=hE0 n2;clear c0 c1 c2 hl1 hb2;obtain⟨c0,c1,c2⟩:=aal n2;have hl2:=aab n2;clear n2;go_wp2_with fail
 refine(HNO.out w2).mono ?_;rintro e w3 ⟨rfl,rfl⟩;go_wp2
 go_ret2
 exact⟨rfl,HB2.out⟩
theorem anF (w:World) (n:Int) (hn: -9223372036854775808<=n/\n<=9223372036854775807) (A1 A2:Option Addr) (k1 k2:Nat) (l:List Rk) (d:List (List UInt8)) (hr:RkRd w w.heap.size A1 l) (hd:DtRd w w.heap.size A2 d) (hl:l.length<=1000000) (hdl:d.length<=1000000) (base:Nat) (_hb:base<18446744073709551616) (cap:Int) (hc: -9223372036854775808<=cap/\cap<=9223372036854775807) (hm:aea n l d=true) (h1:base%16=0) (h2:base<=4611686018427387904) (h3:1024<=cap) (h4:cap<=16384) (hlg:cap<n):
 Calls Tryz.prog 94 #[.agg #[.int .i64 n, .slice A1 l.length k1, .slice A2 d.length k2], .int .u64 (base:Int), .int .i64 cap] w fun e w'=>e= .returned (.tuple #[.pointer none, .iface 130 (.int .i64 10)])/\Below w.heap.size w w':=by
 obtain⟨cn,rfl⟩:∃cn:Nat,cap=(cn:Int):=⟨cap.toNat,by omega⟩;have g1:decide ((cn:Int)<n)=true:=decide_eq_true hlg;obtain⟨w1,hw1⟩:=nmE (w.alloc (.cells #[.int .i64 n, .slice A1 l.length k1, .slice A2 d.length k2] 107));have hb1:=abE hw1;have n1:=anE hw1;have hmay:=aeG w1 n hn A1 A2 k1 k2 l d ((hr.below hb1).more hb1.size) ((hd.below hb1).more hb1.size) hl hdl _ hm;unfold imV at hmay;obtain⟨c0,c1,c2⟩:=aal n1;have hl1:=aab n1;have HMAY:=hE0 hmay;have HB1:=hE0 hb1;have HN1:=hE0 n1;have HW1:=hE0 hw1;have HR:=hE0 hr;have HD:=hE0 hd;have HNEW:=hE0 (fun W=>aks W base cn h1 h2 (by omega) (by omega));clear hmay hb1 n1 hw1 hr hd hm;go_enter Tryz.func94,Tryz.ntmps94
 go_wp2_with (first | (rw[HW1.out]) | fail)
 refine HMAY.out.mono ?_;rintro e w2 ⟨rfl,hb2⟩;have HB2:=hE0 (HB1.out.trans (hb2.mono HB1.out.size));have n2:=(hb2.block _ (aab HN1.out)).trans HN1.out;have HN2:=hE0 n2;clear c0 c1 c2 hl1 hb2;obtain⟨c0,c1,c2⟩:=aal n2;have hl2:=aab n2;clear n2;go_wp2_with fail
 refine(HNEW.out w2).mono ?_;rintro e w3 ⟨rfl,har,hb3⟩;have HB3:=hE0 (HB2.out.trans (hb3.mono HB2.out.size));have n3:=(hb3.block _ (aab HN2.out)).trans HN2.out;clear har hb3 c0 c1 c2 hl2;obtain⟨c0,c1,c2⟩:=aal n3;have hl3:=aab n3;clear n3;go_wp2
 go_ret2
 exact⟨rfl,HB3.out⟩
theorem atv (w:World) (n:Int) (hn: -9223372036854775808<=n/\n<=9223372036854775807) (A1 A2:Option Addr) (k1 k2:Nat) (l:List Rk) (d:List (List UInt8)) (hr:RkRd w w.heap.size A1 l) (hd:DtRd w w.heap.size A2 d) (hl:l.length<=1000000) (hdl:d.length<=1000000) (base:Nat) (_hb:base<18446744073709551616) (cap:Int) (hc: -9223372036854775808<=cap/\cap<=9223372036854775807) (hm:aea n l d=true) (h1:base%16=0) (h2:base<=4611686018427387904) (h3:1024<=cap) (h4:cap<=16384) (hlg:n<=cap):
 Calls Tryz.prog 94 #[.agg #[.int .i64 n, .slice A1 l.length k1, .slice A2 d.length k2], .int .u64 (base:Int), .int .i64 cap] w fun e w'=>∃out H q g A c,alw n l d=some out/\e= .returned (.tuple #[.pointer (some ⟨q,0,none⟩), .nilIface])/\PH w' q g base cap.toNat A c out H/\w.heap.size<=q/\w.heap.size<=g/\(∀a,A=some a->w.heap.size<=a.block)/\Below w.heap.size w w':=by
 obtain⟨cn,rfl⟩:∃cn:Nat,cap=(cn:Int):=⟨cap.toNat,by omega⟩;have hlo:abT n=true:=by unfold aea at hm;rw[Bool.and_eq_true]at hm;exact hm.1
 have hlB:=(aaR n).1 hlo;obtain⟨N,rfl⟩:∃N:Nat,n=(N:Int):=⟨n.toNat,by omega⟩;have g1:decide ((cn:Int)<(N:Int))=false:=decide_eq_false (by omega);have g1':decide (cn<N)=false:=decide_eq_false (by omega);obtain⟨out,hw0,hl0,hre,hck,hwk,hol,_⟩:=ahK hm;have hrow:abc (N:Int) 184 false l=true:=by unfold aea at hm;simp only[Bool.and_eq_true]at hm;exact hm.2.1
 have hdat:datOk l d=true:=by unfold aea at hm;simp only[Bool.and_eq_true]at hm;exact hm.2.2
 obtain⟨htile,hmap,hz⟩:=afU (o:=184) hrow;rw[Int.toNat_natCast]at htile;have hdb:=afV (fun x hx=>⟨(hz x hx).1,(hz x hx).2.1⟩) hdat;have HLAYOF:Hid (alw (N:Int) l d=some out):=(show _=_ by unfold alw;rw[Int.toNat_natCast];exact hre);obtain⟨mid,hmid⟩:=nmE (afT (List.replicate N 0) (l.map toB) d);rw[hmid]at hl0 hre;obtain⟨L,hL⟩:=nmE (l.map toB);have hLl:L.length=l.length:=by rw[<-hL,List.length_map]
 rw[hL]at htile hdb hmap hmid;have HLY:=hE0 (fun wB W g A c (hst:St wB W g base cn A c (List.replicate N 0) []) (hrr:RkRd wB wB.heap.size A1 l) (hdd:DtRd wB wB.heap.size A2 d)=>aqa wB W g base cn c A (List.replicate N 0) N L d A1 A2 k1 k2 (N:Int) hst h2 (by simp) (by omega) htile hdb (by rw[<-hmap];exact hrr) hdd);rw[hLl,hmid]at HLY;have HRE:=hE0 (fun W g A c (h:Ar W 195 g base cn A c mid)=>arh W g base cn c A mid _ h h2 (by omega) hre);dsimp only[ao1,aat]at HRE;have HOF:=hE0 (fun W g A c (h:Ar W 195 g base cn A c out)=>arM h h2 (by omega) (by omega) hck);obtain⟨w1,hw1⟩:=nmE (w.alloc (.cells #[.int .i64 (N:Int), .slice A1 l.length k1, .slice A2 d.length k2] 107));have hb1:=abE hw1;have n1:=anE hw1;have hmay:=aeG w1 (N:Int) hn A1 A2 k1 k2 l d ((hr.below hb1).more hb1.size) ((hd.below hb1).more hb1.size) hl hdl _ hm;unfold imV at hmay;obtain⟨c0,c1,c2⟩:=aal n1;have hl1:=aab n1;have HMAY:=hE0 hmay;have HB1:=hE0 hb1;have HN1:=hE0 n1;have HW1:=hE0 hw1;have HR:=hE0 hr;have HD:=hE0 hd;have HNEW:=hE0 (fun W=>aks W base cn h1 h2 (by omega) (by omega));clear hmay hb1 n1 hw1 hr hd hm hlo hw0 hl0 hre hck hwk hol hrow hdat htile hmap hz hdb hmid hL hLl hl hdl;go_enter Tryz.func94,Tryz.ntmps94
 go_wp2_with (first | (rw[HW1.out]) | fail)
 refine HMAY.out.mono ?_;rintro e w2 ⟨rfl,hb2⟩;have HB2:=hE0 (HB1.out.trans (hb2.mono HB1.out.size));have n2:=(hb2.block _ (aab HN1.out)).trans HN1.out;have HN2:=hE0 n2;clear c0 c1 c2 hl1 hb2;obtain⟨c0,c1,c2⟩:=aal n2;have hl2:=aab n2;clear n2;go_wp2_with fail
 refine(HNEW.out w2).mono ?_;rintro e w3 ⟨rfl,har,hb3⟩;have HB3:=hE0 (HB2.out.trans (hb3.mono HB2.out.size));have n3:=(hb3.block _ (aab HN2.out)).trans HN2.out;obtain⟨g,hg⟩:=nmE w2.heap.size;rw[hg]at har;have hgm:w.heap.size<g:=by rw[<-hg];exact aab HN2.out
 have HS3:Hid (Sm w2 w3 g base cn none 0 [] w.heap.size (.cells #[.int .i64 (N:Int), .slice A1 l.length k1, .slice A2 d.length k2] 107 (0,0))):=⟨⟨hb3,har,by omega,(fun a e=>by cases e),(fun q hq=>by cases hq)⟩,n3,fun hf=>by
  rcases hf with e | ⟨a,e,_⟩
  · omega
  · cases e⟩
 have HGR:=hE0 (ahW har N (by simp) (by omega) (by simp;omega));rw[List.nil_append]at HGR;have HR2:=hE0 ((HR.out.below HB2.out).more HB2.out.size);have HD2:=hE0 ((HD.out.below HB2.out).more HB2.out.size);have HGEQ:=hE0 hg;clear har hb3 c0 c1 c2 hl2;rw[hg];clear hg;obtain⟨c0,c1,c2⟩:=aal n3;have hl3:=aab n3;clear n3;go_wp2_with fail
 refine HGR.out.mono ?_;rintro e w4 ⟨rfl,hbe⟩;obtain⟨A4,c4,s4⟩:=HS3.out.became hbe;have HS4:=hE0 s4;clear c0 c1 c2 hl3 hbe s4;obtain⟨c0,c1,c2⟩:=aal HS4.out.ob;have hl4:=aj8 HS4.out.ob;go_wp2_with fail
 refine(HLY.out w2 w4 g A4 c4 HS4.out.st HR2.out HD2.out).mono ?_;rintro e w5 ⟨rfl,A5,c5,s5⟩;have HS5:=hE0 s5;clear s5 c0 c1 c2 hl4 HLY;go_wp2_with fail
 refine(HRE.out w5 g A5 c5 HS5.out.ar).mono ?_;rintro e w6 ⟨rfl,hbe6⟩;obtain⟨A6,c6,s6⟩:=HS5.out.became hbe6;have HS6:=hE0 s6;clear hbe6 s6 HRE;go_wp2_with fail
 refine(HOF.out w6 g A6 c6 HS6.out.ar).mono ?_;rintro e w7 ⟨H,bs',⟨q1,g1x,A1x,c1x,bs1,he1,hp1,hb7,hq1,hg1x,hA1x⟩,_,hbs,q2,g2,A2x,c2x,he,hph⟩;rw[he]at he1;injection he1 with he1;injection he1 with he1;have he2:(Value.pointer (some ⟨q2,0,none⟩))= .pointer (some ⟨q1,0,none⟩):=by
  have:=congrArg (fun a=>a[0]?) he1;simpa using this
 injection he2 with he2;injection he2 with he2;injection he2 with he2 _ _;subst he2;have hgg:g2=g1x:=by
  have e1:=hph.obj;rw[hp1.obj]at e1;injection e1 with e1;injection e1 with e1 _ _;have:=congrArg (fun a=>a[0]?) e1;simp at this;exact this.symm
 subst hgg;have hAA:A2x=A1x:=by
  have e1:=hph.ar.obj;rw[hp1.ar.obj]at e1;injection e1 with e1;injection e1 with e1 _ _;have:=congrArg (fun a=>a[2]?) e1;simp at this;exact this.1.symm
 subst hAA;subst he;have HPH:=hE0 hph;have HBF:=hE0 (HB2.out.trans ((HS6.out.bel.trans (hb7.mono HS6.out.size)).mono HB2.out.size));have hlow:=Nat.le_trans HB2.out.size HS6.out.size;have HQ:=hE0 (Nat.le_trans hlow hq1);have HG:=hE0 (Nat.le_trans hlow hg1x);have HA:=hE0 (fun a (e:A2x=some a)=>Nat.le_trans hlow (hA1x a e));clear hp1 hb7 hq1 hg1x hA1x he1 hph hlow hbs HOF;go_wp2
 go_ret2
 exact⟨out,H,q2,g2,A2x,c2x,HLAYOF.out,rfl,by rw[Int.toNat_natCast];exact HPH.out,HQ.out,HG.out,HA.out,HBF.out⟩
def acT (l:List Cl) (most:Nat):Bool:=decide (l.length<=most)&&l.all fun x=>decide (x.b.length<=2000)
theorem aj9 (w:World) (A:Option Addr) (k:Nat) (l:List Cl) (hL:ClRd w w.heap.size A l) (hm:l.length<=9223372036854775807) (most:Nat) (h1:most<=1000):
 Calls Tryz.prog 14 #[.slice A l.length k, .int .i64 (most:Int)] w fun e w'=>e= .returned (.int .i64 (if acT l most=true then 1 else 0))/\w=w':=by
 by_cases hl:most<l.length
 · have e:acT l most=false:=by unfold acT;rw[decide_eq_false (by omega)];rfl
   rw[e];have g1:decide (most<l.length)=true:=decide_eq_true hl;clear e hL;go_enter Tryz.func14,Tryz.ntmps14
   go_wp2
   go_ret
   exact⟨rfl,rfl⟩
 · have g1:decide (most<l.length)=false:=decide_eq_false hl;have HE:Hid (∀j,(∀i x,i<j->l[i]?=some x->x.b.length<=2000)->(j=l.length->acT l most=true)/\∀x,l[j]?=some x->2000<x.b.length->acT l most=false):=fun j hj=>by
    refine⟨fun e=> ?_,fun x hx hb=> ?_⟩
    · unfold acT;rw[decide_eq_true (by omega),Bool.true_and,List.all_eq_true];intro x hx;obtain⟨i,hi⟩:=List.mem_iff_getElem?.1 hx;exact decide_eq_true (hj i x (by have:=aaG hi;omega) hi)
    · unfold acT;have:(l.all fun x=>decide (x.b.length<=2000))=false:=by
       rw[List.all_eq_false];exact⟨x,List.mem_of_getElem? hx,by simp;omega⟩
      rw[this,Bool.and_false]
   obtain⟨n,hn⟩:=nmE l.length;rw[hn]at g1 hl hm ⊢;have HN:=hE0 hn;obtain⟨v,hv⟩:∃v:Int,(if acT l most=true then (1:Int) else 0)=v:=⟨_,rfl⟩;have HV:=hE0 hv;rw[hv];have HL:=hE0 hL;clear hL hn hv;go_enter Tryz.func14,Tryz.ntmps14
   go_wp2
   go_loopw [5] (fun i wr=>∃j:Nat,i= .int .i64 (j:Int)/\j<=n/\(∀i x,i<j->l[i]?=some x->x.b.length<=2000)/\w=wr) (fun i _=>n-(intOf i).toNat)
   case atStart=>exact⟨0,rfl,Nat.zero_le _,fun i x hi=>absurd hi (Nat.not_lt_zero _),rfl⟩
   case round=>
    obtain⟨j,rfl,hj,hs,rfl⟩:=hrel;obtain⟨hE1,hE2⟩:=HE.out j hs;by_cases hlt:j<n
    · obtain⟨x,hx⟩:∃x,l[j]?=some x:=⟨l[j]'(by rw[HN.out];exact hlt),List.getElem?_eq_getElem _⟩;obtain⟨b,o,rfl,_,hc⟩:=HL.out (by rw[HN.out];omega);obtain⟨⟨c0,c1,c2,c3,c4,c5,c6⟩,_⟩:=hc j x hx;have hE3:=hE2 x hx;obtain⟨bl,hbl⟩:=nmE x.b.length;rw[hbl]at c6 hE3;have HX:=hE0 hx;have HBL:=hE0 hbl;have HS:=hE0 hs;by_cases hb:2000<bl
      · have g3:decide ((2000:Int)<(bl:Int))=true:=decide_eq_true (by omega);have e:=hE3 hb;have HV0:Hid (v=0):=(show v=0 by rw[<-HV.out,e];rfl);clear hE1 hE2 hE3 hc hx hbl hs e;go_wp2
        go_ret
        rw[HV0.out];exact⟨rfl,rfl⟩
      · have g3:decide ((2000:Int)<(bl:Int))=false:=decide_eq_false (by omega);have HS2:Hid (∀i z,i<j+1->l[i]?=some z->z.b.length<=2000):=fun i z hi hz=>by
         by_cases e:i<j
         · exact HS.out i z e hz
         · obtain rfl:i=j:=by omega
           rw[HX.out]at hz;injection hz with hz;rw[<-hz,HBL.out];omega
        clear hE1 hE2 hE3 hc hx hbl hs;go_wp2
        go_roundw
        case rel=>exact⟨j+1,by go_num,by omega,HS2.out,trivial⟩
        case measure=>simp only[intOf];omega
    · have e:=hE1 (by rw[HN.out];omega);have HV1:Hid (v=1):=(show v=1 by rw[<-HV.out,e];rfl);clear hE1 hE2 hs e;go_wp2
      go_ret
      rw[HV1.out];exact⟨rfl,rfl⟩
theorem atw:(Tryz.prog.info? 25).map (fun i=>(i.zero,i.size,i.bytes))=some (some (.int .u64 0),1,8):=by kernel_rfl
theorem Tl.own{w:World}{B:Nat}{A:Option Addr}{c:Nat}{told:List Nat}(h:w.ownsRow B 25 1 (.slice A told.length c) told.length (told.map uV)):Tl w B A told:=fun hn=>by
 rcases h.2 with⟨h',_⟩ | ⟨g,_,_,h',_⟩
 · injection h' with _ e _;omega
 · injection h' with e;subst e;refine⟨g,rfl,(h.lt g rfl).1,(h.lt g rfl).2,fun j v hv=> ?_⟩;have:=h.cellAt j (by have:=aaG hv;omega);rw[this,List.getElem?_map,hv];rfl
def Oth (w:World) (k:Nat):Prop:=∃cs ty,w.heap[k]?=some (.cells cs ty (0,0))/\ty≠132/\ty≠195/\ty≠5
section
variable {B:Nat} {w w':World} {q g base cap c:Nat} {A:Option Addr} {bs:List UInt8} {H H':Hp} {k:Nat}
theorem PH.oth (h:PH w q g base cap A c bs H) (ho:Oth w k):¬(k=q\/foot g A k):=by
 obtain⟨cs,ty,hk,n1,n2,n3⟩:=ho;rintro(rfl | rfl | ⟨a,ea,rfl⟩)
 · have h1:=h.obj;rw[hk]at h1;injection h1 with h1;injection h1 with _ h2 _;exact n1 h2
 · have h1:=h.ar.obj;rw[hk]at h1;injection h1 with h1;injection h1 with _ h2 _;exact n2 h2
 · obtain⟨h',e,cur,hg,_⟩:=h.ar.row ea;subst e;rw[hk]at hg;injection hg with hg;injection hg with _ h2 _;exact n3 h2
theorem PH.keepO (h:PH w q g base cap A c bs H){S:Nat->Prop}(ht:Tch S w w') (hS:∀k,(k=q\/foot g A k)->¬S k):PH w' q g base cap A c bs H:=
 ⟨(ht.block q h.lt (hS q (.inl rfl))).trans h.obj,h.ar.tch ht (fun k hk=>hS k (.inr hk)),h.rd,h.cp,h.c16,h.b62⟩
theorem Hv.keepO (h:Hv B w q g base cap A c bs H){S:Nat->Prop}(ht:Tch S w w') (hS:∀k,(k=q\/foot g A k)->¬S k):Hv B w' q g base cap A c bs H:=⟨h.ph.keepO ht hS,h.qB,h.gB,h.aB⟩
theorem PH.locO (h:PH w q g base cap A c bs H) (ht:Tch (foot g A) w w'){cs:Array Value}{ty:TypeId}(hk:w.heap[k]?=some (.cells cs ty (0,0))) (n1:ty≠132) (n2:ty≠195) (n3:ty≠5):w'.heap[k]?=some (.cells cs ty (0,0)):=
 (ht.block k (aae hk) (fun hf=>h.oth ⟨cs,ty,hk,n1,n2,n3⟩ (.inr hf))).trans hk
theorem PH.ownO (h:PH w q g base cap A c bs H) (ht:Tch (foot g A) w w'){n:Nat}{ty:TypeId}{v:Value}{xs:List Value}(ho:w.ownsRow B ty 1 v n xs) (n1:ty≠132) (n2:ty≠195) (n3:ty≠5):w'.ownsRow B ty 1 v n xs:=by
 refine⟨ho.1,?_⟩;rcases ho.2 with h2 | ⟨g',cap',cur,hv,hg,hh,r⟩
 · exact .inl h2
 · exact .inr ⟨g',cap',cur,hv,hg,h.locO ht hh n1 n2 n3,r⟩
end
section
variable {B:Nat} {w w':World} {cap q1 g1 c1 q2 g2 c2:Nat} {A1 A2:Option Addr} {b1 b2:List UInt8} {H1 H2 H':Hp}
end
section
variable {H:Hp}
end
section
variable {bs:List UInt8} {H:Hp}
theorem asi (h:RtD bs H) (hc:H.cap<=16384) (n:Nat) (x:UInt8):(H.get n x).1.1<18446744073709551616:=by
 unfold Hp.get
 cases hs:abW n with
 | none=>exact Nat.zero_lt_succ _
 | some s=>
  dsimp only
  cases hq:(H.take s).1 with
  | none=>exact Nat.zero_lt_succ _
  | some o=>
   dsimp only;obtain⟨y,y1,y2,y3,y4,y5,y6⟩:=h.rt.what (acM hs) hq;have hok:=(h.rt.ok hc h.dl).take hc (acM hs);have hm:=(aak _ _ _ hok.tl).2 y y1;have:=hok.le;omega
theorem aqc (h:RtD bs H) (hc:H.cap<=16384) (n m:Nat):(H.calloc n m).1.1<18446744073709551616:=by
 unfold Hp.calloc;split
 · exact Nat.zero_lt_succ _
 · exact asi h hc _ _
theorem anG (h:RtD bs H) (hc:H.cap<=16384) (p n:Nat):(H.realloc p n).1.1<18446744073709551616:=by
 unfold Hp.realloc;split
 · exact Nat.zero_lt_succ _
 · cases hs:abW n with
   | none=>exact Nat.zero_lt_succ _
   | some s=>
    dsimp only;split
    · rename_i he;dsimp only;rcases afr he with e | e
      · rename_i hh;obtain⟨h8,h2,_⟩:=aep hh;omega
      · obtain⟨y,y1,y2,y3,y4,y5,y6⟩:=h.rt.what (acM hs) e;have hok:=(h.rt.ok hc h.dl).take hc (acM hs);have hm:=(aak _ _ _ hok.tl).2 y y1;have:=hok.le;omega
    · exact Nat.zero_lt_succ _
end
theorem atx{w:World}{B n c:Nat}{A:Option Addr}{xs:List Value}(h:w.ownsRow B 25 1 (.slice A n c) n xs){k:Nat}(hk:(Value.slice A n c).ownBlock=some k):Oth w k:=by
 rcases h.2 with⟨h',_⟩ | ⟨g',cap',cur,hv,hg,hh,r⟩
 · injection h' with e _ _;subst e
   cases hk
 · injection hv with e _ _;subst e;have e2:g'=k:=by simpa[Value.ownBlock]using hk
   subst e2;exact⟨_,_,hh,by decide,by decide,by decide⟩
section
variable {w w':World} {q g base cap c:Nat} {A:Option Addr} {bs out:List UInt8} {H H':Hp}
theorem aty (h:PH w q g base cap A c bs H) (hE:ET w) (h0:¬foot g A 0) (op:Nat) (hop:op<9) (p n m a bl k:Nat) (B:Option Addr) (b:List UInt8) (hp:p<18446744073709551616) (hn:n<18446744073709551616) (hm:m<18446744073709551616) (ha:a<18446744073709551616) (hbl:b.length=bl) (hr:Rd w w.heap.size B b.length b) (hb6:bl<=1000000):
 Calls Tryz.prog 20 #[.pointer (some ⟨q,0,none⟩),abj (op:Int) p n m a B bl k] w fun e w'=>ada (H.doC (op:Int) p n m a b).1 w e w'/\PTurn g base cap A (H.doC (op:Int) p n m a b).2 w w':=by
 have ho:op=0\/op=1\/op=2\/op=3\/op=4\/op=5\/op=6\/op=7\/op=8:=by omega
 rcases ho with rfl | rfl | rfl | rfl | rfl | rfl | rfl | rfl | rfl
 · exact au9 h hE h0 p n m a bl k B b
 · exact ava h hE h0 p n m a bl k B b hn
 · exact avb h hE h0 p n m a bl k B b hn hm
 · exact avc h hE h0 p n m a bl k B b hp
 · exact avd h hE h0 p n m a bl k B b hp hn
 · exact ave h hE h0 p n m a bl k B b hp
 · exact(auo h hE h0 p n m a bl k B b hp ha hn).mono fun e w' h=>⟨h.1,h.2.1⟩
 · exact avf h hE h0 p n m a bl k B b hp ha hbl hr hb6
 · exact avg h hE h0 p n m a bl k B b
theorem atz{op:Nat}(hop:op<9){p n m a:Nat}{b:List UInt8}:(H.doC (op:Int) p n m a b).2.cap=H.cap:=by
 have ho:op=0\/op=1\/op=2\/op=3\/op=4\/op=5\/op=6\/op=7\/op=8:=by omega
 rcases ho with rfl | rfl | rfl | rfl | rfl | rfl | rfl | rfl | rfl
 · have e:H.doC ((0:Nat):Int) p n m a b=_:=ato (H:=H) p n m a b;rw[e]
 · have e:H.doC ((1:Nat):Int) p n m a b=_:=als (H:=H) p n m a b;rw[e];exact ap3
 · have e:H.doC ((2:Nat):Int) p n m a b=_:=atp (H:=H) p n m a b;rw[e];exact anC
 · have e:H.doC ((3:Nat):Int) p n m a b=_:=apZ (H:=H) p n m a b;rw[e];exact ap4
 · have e:H.doC ((4:Nat):Int) p n m a b=_:=atq (H:=H) p n m a b;rw[e];exact alv
 · have e:H.doC ((5:Nat):Int) p n m a b=_:=atr (H:=H) p n m a b;rw[e]
 · have e:H.doC ((6:Nat):Int) p n m a b=_:=arN (H:=H) p n m a b;rw[e]
 · have e:H.doC ((7:Nat):Int) p n m a b=_:=arO (H:=H) p n m a b;rw[e];exact anD
 · have e:H.doC ((8:Nat):Int) p n m a b=_:=att (H:=H) p n m a b;rw[e]
theorem asj (h:RtD bs H) (hc:H.cap<=16384){op:Nat}(hop:op<9) (p n m a:Nat) (b:List UInt8):(H.doC (op:Int) p n m a b).1.hd<18446744073709551616:=by
 have ho:op=0\/op=1\/op=2\/op=3\/op=4\/op=5\/op=6\/op=7\/op=8:=by omega
 rcases ho with rfl | rfl | rfl | rfl | rfl | rfl | rfl | rfl | rfl
 · have e:H.doC ((0:Nat):Int) p n m a b=_:=ato (H:=H) p n m a b;rw[e];exact Nat.zero_lt_succ _
 · have e:H.doC ((1:Nat):Int) p n m a b=_:=als (H:=H) p n m a b;rw[e];exact asi h hc n 165
 · have e:H.doC ((2:Nat):Int) p n m a b=_:=atp (H:=H) p n m a b;rw[e];exact aqc h hc n m
 · have e:H.doC ((3:Nat):Int) p n m a b=_:=apZ (H:=H) p n m a b;rw[e];exact Nat.zero_lt_succ _
 · have e:H.doC ((4:Nat):Int) p n m a b=_:=atq (H:=H) p n m a b;rw[e];exact anG h hc p n
 · have e:H.doC ((5:Nat):Int) p n m a b=_:=atr (H:=H) p n m a b;rw[e];exact Nat.zero_lt_succ _
 · have e:H.doC ((6:Nat):Int) p n m a b=_:=arN (H:=H) p n m a b;rw[e];exact Nat.zero_lt_succ _
 · have e:H.doC ((7:Nat):Int) p n m a b=_:=arO (H:=H) p n m a b;rw[e];exact Nat.zero_lt_succ _
 · have e:H.doC ((8:Nat):Int) p n m a b=_:=att (H:=H) p n m a b;rw[e];exact Nat.zero_lt_succ _
end
section
variable {B:Nat} {w w' w1 wB:World} {q g base cap c p:Nat} {A:Option Addr} {bs out:List UInt8} {H H1 H2 H':Hp} {F G:Nat->Prop}
end
theorem ag3{ops:Array Oper}{rest:List Oper}{o:Oper}{a:Act}{w:World}{Q:Exit->Act->World->Prop}(hgd:o.guard=none) (s x:Operand) (ho:o.op= .call {callee:= .builtin .append,args:= #[s,x],argTypes:= #[41,41]})
 (base:Nat) (v:Value) (n:Nat) (bs:List Nat) (hs:a.eval s=v) (hown:w.ownsRow base 25 1 v n (bs.map uV))
 (ad:Addr) (c:Nat) (u:Nat) (hx:a.eval x= .slice (some ad) 1 c) (hr:w.cell? ad=some (uV u))
 (hb:n+1<=1000000) (hbase:base<=w.heap.size)
 (h:∀v' w',w'.ownsRow base 25 1 v' (n+1) ((bs++ [u]).map uV)->w.grownBy w' v.ownBlock->(v'.ownBlock=v.ownBlock\/v'.ownBlock=some w.heap.size)->wpList Tryz.prog ops Q rest (a.put o.dst v') w'):wpList Tryz.prog ops Q (o::rest) a w:=by
 obtain⟨i0,hi,hz0,hz1,hz2⟩:=info_parts atw;refine wpList_append_own_at w hgd s x 41 ho base 25 i0 (.int .u64 0) 1 8 Tryz.underlying41 hi hz0 hz1 hz2 rfl (by decide) v n _ hs hown ad 1 c ([u].map uV) hx (by simp) (fun j y hy=> ?_) (fun y hy=> ?_) (by unfold maxLen;omega) (by omega) hbase ?_
 · cases j with
   | zero=>
    simp at hy;subst hy;have e:ad.add 0=ad:=by unfold Addr.add;split<;>simp_all
    rw[e];exact hr
   | succ j=>simp at hy
 · simp at hy;subst hy;rfl
 · intro v' w' h1 h2 _ h4;exact h v' w' (by simpa using h1) h2 h4
section
variable {B:Nat} {w w':World} {q g base cap c p:Nat} {A:Option Addr} {bs:List UInt8} {H1 H2:Hp} {F G:Nat->Prop}
end
structure Dst where
 bs:List UInt8
 wt:List (Nat × List UInt8)
 left:Int
 off:Bool
def dwr (s:Dst) (p:Nat) (d:List UInt8):Nat × Dst:=if s.off=true\/s.left=0 then (6,{s with off:=true}) else (0,{s with wt:=s.wt++ [(p,d)],left:=abU s.left 1})
def dfl (s:Dst):Nat × Dst:=if s.off=true then (6,s) else (0,{s with bs:=aej s.bs s.wt,wt:= []})
def ahN (s:Dst) (p:Nat) (b:List UInt8):Nat × Dst:=
 (if wk (need b.length) s.left s.off<need b.length then 6 else 0,{s with wt:=s.wt++agf p b (wk (need b.length) s.left s.off),left:=abU s.left (wk (need b.length) s.left s.off),off:=s.off || decide (wk (need b.length) s.left s.off<need b.length)})
section
variable {N:Nat} {S S':Nat->Prop} {w w1 w2:World} {g:Nat} {s:Dst}
end
def andThen (r:Nat × Dst) (f:Dst->Nat × Dst):Nat × Dst:=if r.1=0 then f r.2 else r
def ady (p:Nat) (b rec:List UInt8) (s:Dst):Nat × Dst:=
 andThen (andThen (andThen (andThen (andThen (dwr s p (List.replicate 512 0)) dfl) (fun s=>ahN s (p+1) b)) dfl) (fun s=>dwr s p rec)) dfl
def arS (x y:Sk) (half:Nat) (b:List UInt8) (s:Dst):Nat × Dst:=
 if 512*(half-1)<b.length\/4611686018427387904<=max x.G y.G then (7,s) else
 ady ((if agm x y=0 then 1 else 0)*half) b (abG (max x.G y.G+1) b.length (abS 0 b)) s
theorem aaB{r:Nat × Dst}{f:Dst->Nat × Dst}(h:r.1=0):andThen r f=f r.2:=if_pos h
theorem abk{r:Nat × Dst}{f:Dst->Nat × Dst}(h:r.1≠0):andThen r f=r:=if_neg h
theorem arT (l:Int) (j:Nat):abU l j<=l:=by unfold abU;split<;>omega
theorem auq (s:Dst):(dfl s).2.wt.length<=s.wt.length/\(dfl s).2.left<=s.left:=by
 unfold dfl;split
 · exact⟨Nat.le_refl _,Int.le_refl _⟩
 · exact⟨Nat.zero_le _,Int.le_refl _⟩
theorem atA (s:Dst) (p:Nat) (b:List UInt8):(ahN s p b).2.wt.length<=s.wt.length+need b.length/\(ahN s p b).2.left<=s.left:=by
 unfold ahN;refine⟨?_,arT _ _⟩;dsimp only;rw[List.length_append,agh];have:wk (need b.length) s.left s.off<=need b.length:=by unfold wk;split;omega;split;omega;omega
 omega
section
variable {N:Nat} {S:Nat->Prop} {w w1 w2:World} {g:Nat} {s:Dst}
end
def DS (N:Nat) (S:Nat->Prop) (w:World) (g:Nat) (s:Dst):Prop:=
 ∃h c W cw ws,Dk S w g h c W cw s.bs ws s.left s.off/\ws.map Wr.two=s.wt/\s.bs.length=512*N/\∀j,S j->j<w.heap.size
section
variable {N:Nat} {S S':Nat->Prop} {w w1 w2:World} {g:Nat} {s:Dst}
theorem DS.below (h:DS N S w g s) (hb:Below w.heap.size w w1):DS N S w1 g s:=by
 obtain⟨q,c,W,cw,ws,k,e1,e2,hs⟩:=h;exact⟨q,c,W,cw,ws,k.below hb,e1,e2,fun j hj=>Nat.lt_of_lt_of_le (hs j hj) hb.size⟩
theorem DS.tch{R:Nat->Prop}(h:DS N S w g s) (ht:Tch R w w1) (hd:∀j,S j->¬R j):DS N S w1 g s:=by
 obtain⟨q,c,W,cw,ws,k,e1,e2,hs⟩:=h;exact⟨q,c,W,cw,ws,k.tch ht hd,e1,e2,fun j hj=>Nat.lt_of_lt_of_le (hs j hj) ht.size⟩
theorem DS.regrow (h:DS N (adP (adP S w w1) w1 w2) w2 g s) (h1:w.heap.size<=w1.heap.size) (h2:w1.heap.size<=w2.heap.size):DS N (adP S w w2) w2 g s:=by
 obtain⟨q,c,W,cw,ws,k,e1,e2,hs⟩:=h;exact⟨q,c,W,cw,ws,k.regrow h1 h2,e1,e2,fun j hj=>by
  rcases hj with h | h
  · exact hs j (.inl (.inl h))
  · exact h.2⟩
theorem DS.grown (h:DS N S w1 g s) (_ht:Tch S w w1):DS N (adP S w w1) w1 g s:=by
 obtain⟨q,c,W,cw,ws,k,e1,e2,hs⟩:=h;exact⟨q,c,W,cw,ws,k.more fun j hj=> .inl (k.foot hj).1,e1,e2,fun j hj=>by
  rcases hj with h | h
  · exact hs j h
  · exact h.2⟩
def StpD (N:Nat) (S:Nat->Prop) (w:World) (g:Nat) (r:Nat × Dst) (e:Ending) (w':World):Prop:=e= .returned (aiO r.1)/\DS N (adP S w w') w' g r.2/\Tch S w w'
theorem DS.flush (h:DS N S w g s) (hN2:N<=128):
 Calls Tryz.prog 209 #[.pointer (some ⟨g,0,none⟩)] w fun e w'=>StpD N S w g (dfl s) e w':=by
 obtain⟨q,c,W,cw,ws,k,e1,e2,hs⟩:=h;obtain⟨bs,wt,left,off⟩:=s;dsimp only at k e1 e2
 cases off with
 | true=>
  refine(am0 k).mono ?_;rintro e w' ⟨rfl,rfl⟩;exact⟨rfl,DS.grown ⟨q,c,W,cw,ws,k,e1,e2,hs⟩ (Tch.refl _ _),Tch.refl _ _⟩
 | false=>
  have hf:=k.fits;refine(aoR k (by omega)).mono ?_;rintro e w' ⟨rfl,k',ht⟩;refine⟨rfl,DS.grown ⟨q,c,none,0,[],?_,rfl,?_,fun j hj=>Nat.lt_of_lt_of_le (hs j hj) ht.size⟩ ht,ht⟩
  · unfold dfl;rw[if_neg Bool.false_ne_true,<-e1];exact k'
  · unfold dfl;rw[if_neg Bool.false_ne_true,<-e1];dsimp only;rw[abR _ _ hf];exact e2
theorem DS.outs (h:DS N S w g s) (hN2:N<=128) (hw:s.wt.length<=100000) (hl:s.left<=9223372036854775807) (p:Nat) (A:Option Addr) (cA:Nat) (b:List UInt8) (hr:Rd w w.heap.size A b.length b) (hbc:b.length<=cA) (hcm:cA<=9223372036854775807) (hA:0<b.length->∀a,A=some a->¬S a.block) (hp:p+need b.length<=N):
 Calls Tryz.prog 208 #[.pointer (some ⟨g,0,none⟩), .int .i64 (p:Int), .slice A b.length cA] w fun e w'=>StpD N S w g (ahN s p b) e w':=by
 obtain⟨q,c,W,cw,ws,k,e1,e2,hs⟩:=h;obtain⟨bs,wt,left,off⟩:=s;dsimp only at k e1 e2 hw hl;have hws:ws.length<=100000:=by have:=congrArg List.length e1;simp at this;omega
 refine(am3 k N e2 hN2 hws hl p A cA b hr hbc hcm hA _ rfl hp _ rfl).mono ?_;rintro e w' ⟨rfl,⟨W',cw',vs,k',hv⟩,ht⟩;unfold ahN;refine⟨?_,⟨q,c,W',cw',vs,k',?_,e2,fun j hj=> ?_⟩,ht⟩
 · dsimp only;split
   · rfl
   · rfl
 · rw[hv,e1]
 · rcases hj with h | h
   · exact Nat.lt_of_lt_of_le (hs j h) ht.size
   · exact h.2
theorem DS.two{r:Nat × Dst}{P:Ending->World->Prop}{f:FuncId}{vs:Array Value}(ht:Tch S w w1) (hc:Calls Tryz.prog f vs w1 fun e w2=>StpD N (adP S w w1) w1 g r e w2) (h1:w.heap.size<=w1.heap.size) (hP:∀e w2,e= .returned (aiO r.1)->DS N (adP S w w2) w2 g r.2->Tch S w w2->P e w2):Calls Tryz.prog f vs w1 P:=
 hc.mono fun e w2 h=>hP e w2 h.1 (h.2.1.regrow h1 h.2.2.size) (ht.regrow h.2.2)
theorem StpD.from{r:Nat × Dst}{e:Ending}(hb:Below w.heap.size w w1) (h0:e= .returned (aiO r.1)) (h1:DS N (adP S w1 w2) w2 g r.2) (h2:Tch S w1 w2):StpD N S w g r e w2:=by
 refine⟨h0,?_,(Tch.of_below (S:=S) hb).trans h2 fun i hi hg=>hg⟩;obtain⟨q,c,W,cw,ws,k,e1,e2,hs⟩:=h1;have hg:∀j,adP S w1 w2 j->adP S w w2 j:=fun j hj=>by
  rcases hj with h | h
  · exact .inl h
  · exact .inr ⟨Nat.le_trans hb.size h.1,h.2⟩
 refine⟨q,c,W,cw,ws,k.more fun j hj=>hg j (k.foot hj).1,e1,e2,fun j hj=> ?_⟩;rcases hj with h | h
 · exact hs j (.inl h)
 · exact h.2
theorem DS.read (h:DS N S w g s) (hN2:N<=128) (ho:s.off=false) (p:Nat) (hp:p<N):
 Calls Tryz.prog 204 #[.pointer (some ⟨g,0,none⟩), .int .i64 (p:Int)] w fun e w'=>aqF (abv s.bs s.wt p) w e w':=by
 obtain⟨q,c,W,cw,ws,k,e1,e2,hs⟩:=h;rw[ho]at k;rw[<-e1];exact al1 k (by omega) p (by omega)
theorem DS.reads (h:DS N S w g s) (hN2:N<=128) (ho:s.off=false) (p n:Nat) (hp:p+need n<=N):
 Calls Tryz.prog 206 #[.pointer (some ⟨g,0,none⟩), .int .i64 (p:Int), .int .i64 (n:Int)] w fun e w'=>aqF ((adn s.bs s.wt p (need n)).take n) w e w':=by
 obtain⟨q,c,W,cw,ws,k,e1,e2,hs⟩:=h;rw[<-e1];exact aoT k N e2 hN2 p n _ rfl hp (fun e=>by rw[ho]at e;cases e) _ rfl
end
def akn (s:Dst):Prop:=s.off=false/\s.left<0
section
variable {s:Dst}
theorem afW (h:akn s) (p:Nat) (d:List UInt8):(dwr s p d).1=0/\akn (dwr s p d).2:=by
 unfold dwr;rw[if_neg (by rintro(e | e);· rw[h.1]at e;cases e
                          · have:=h.2;omega)]
 exact⟨rfl,h.1,by show abU _ _<0;unfold abU;rw[if_pos h.2];exact h.2⟩
theorem aeU (h:akn s):(dfl s).1=0/\akn (dfl s).2/\(dfl s).2.wt= []:=by
 unfold dfl;rw[if_neg (by rw[h.1];decide)];exact⟨rfl,h,rfl⟩
theorem aka (h:akn s) (p:Nat) (b:List UInt8):(ahN s p b).1=0/\akn (ahN s p b).2:=by
 have e:wk (need b.length) s.left s.off=need b.length:=by unfold wk;rw[if_neg (by rw[h.1];decide),if_pos h.2]
 unfold ahN;rw[e];refine⟨if_neg (Nat.lt_irrefl _),?_,?_⟩
 · show(s.off || decide (need b.length<need b.length))=false;rw[h.1];simp
 · show abU _ _<0;unfold abU;rw[if_pos h.2];exact h.2
theorem anH (h:akn s) (p:Nat) (b rec:List UInt8):(ady p b rec s).1=0/\akn (ady p b rec s).2/\(ady p b rec s).2.wt= []:=by
 obtain⟨a1,h1⟩:=afW h p (List.replicate 512 0);obtain⟨a2,h2,_⟩:=aeU h1;obtain⟨a3,h3⟩:=aka h2 (p+1) b;obtain⟨a4,h4,_⟩:=aeU h3;obtain⟨a5,h5⟩:=afW h4 p rec;unfold ady;rw[aaB a1,aaB a2,aaB a3,aaB a4,aaB a5];exact aeU h5
theorem amu (p:Nat) (d:List UInt8) (hd:d.length=512):ahN s p d=dwr s p d:=by
 have hn:need d.length=1:=by rw[hd];rfl
 have hp:age d 0=d:=by
  unfold age;rw[hd,Nat.zero_mul,List.drop_zero,List.take_of_length_le (by omega)];simp
 obtain⟨bs,wt,left,off⟩:=s;unfold ahN dwr;rw[hn];dsimp only;by_cases hb:off=true\/left=0
 · have e:wk 1 left off=0:=by
    unfold wk;split
    · rfl
    · rcases hb with h | h
      · rename_i h2;exact absurd h h2
      · subst h;rfl
   rw[if_pos hb,e,if_pos (by omega),ahl];simp[agf]
 · have e:wk 1 left off=1:=by
    unfold wk;rw[if_neg (fun h=>hb (.inl h))];split
    · rfl
    · have:left≠0:=fun h=>hb (.inr h);omega
   have ho:off=false:=by cases off;rfl;exact absurd (.inl rfl) hb
   subst ho;rw[if_neg hb,e,if_neg (by omega)];simp[agf,hp,List.range_succ]
end
theorem amv (b:List UInt8) (half:Nat) (a:Nat->List UInt8):(al5 b half a).ok=true->aea ((al5 b half a).n:Int) (al5 b half a).l (al5 b half a).d=true:=by
 unfold al5;split
 · exact fun h=>by cases h
 split
 · exact fun h=>by cases h
 unfold ara;split
 · rename_i h;intro _;have hg:aeM (a (slN b))=(0,(aeM (a (slN b))).2.1,(aeM (a (slN b))).2.2.1,(aeM (a (slN b))).2.2.2):=by rw[<-h.1]
   exact(ao0 hg).put.2
 · exact fun h=>by cases h
theorem atC (x y:Sk):(agm x y=0->x.ok=true)/\(agm x y=1->y.ok=true):=by
 unfold agm;constructor
 · split
   · rename_i h;exact fun _=>h.1
   · split
     · intro h;cases h
     · intro h;cases h
 · split
   · intro h;cases h
   · split
     · rename_i h;exact fun _=>h
     · intro h;cases h
def Find (s:Sk) (w:World) (e:Ending) (w':World):Prop:=
 ∃A1 c1 A2 c2,e= .returned (.tuple #[skV s A1 c1 A2 c2, .nilIface])/\RkRd w' w'.heap.size A1 s.l/\DtRd w' w'.heap.size A2 s.d/\(∀a,A2=some a->w.heap.size<=a.block)/\Below w.heap.size w w'
theorem Find.plain{w w':World}(G N S:Nat){e:Ending}(he:e= .returned (.tuple #[.agg #[.int .u64 (G:Int), .int .u64 (N:Int), .int .u32 (S:Int), .bool false, .int .i64 0, .slice none 0 0, .slice none 0 0], .nilIface])) (hb:Below w.heap.size w w'):Find ⟨G,N,S,false,0,[],[]⟩ w e w':=
 ⟨none,0,none,0,he,fun h=>absurd h (by simp),fun h=>absurd h (by simp),fun _ h=>(by cases h),hb⟩
theorem aqd{fn:Func}{R:Ending->World->Prop}{a:Act}{w:World}{p u:Tmp}{g:Nat}{x y0 y1 y2 y3 y4 y5 y6:Value}(hres:fn.results= #[.cell p 148, .tmp u]) (hp:a.tmps.getD p undef= .pointer (some ⟨g,0,none⟩)) (hx:a.tmps.getD u undef=x) (hd:a.defers= [])
 (hg:w.heap[g]?=some (.cells #[y0,y1,y2,y3,y4,y5,y6] 148 (0,0))) (hR:R (.returned (.tuple #[.agg #[y0,y1,y2,y3,y4,y5,y6],x])) w):bodyPost Tryz.prog fn R .ret a w:=by
 obtain⟨⟨c0,c1,c2,c3,c4,c5,c6⟩,_⟩:=ahi hg;refine bodyPost_ret (v:= .tuple #[.agg #[y0,y1,y2,y3,y4,y5,y6],x]) ?_ hd hR;rw[results_cell_tmp hres,hp,hx];simp[go_sem,c0,c1,c2,c3,c4,c5,c6]
theorem arU{b:List UInt8}(h:(aeM b).1≠0):(aeM b).2=(0,[],[]):=by
 unfold aeM at h ⊢;repeat' split
 all_goals first
  | rfl
  | (exfalso;simp_all)
theorem amw{G N S s:Nat}{Γ:Nat × Nat × List Rk × List (List UInt8)}(h:¬(Γ.1=0/\s=S)):ara G N S s Γ=⟨G,N,S,false,0,[],[]⟩:=if_neg h
section
variable {N:Nat} {S:Nat->Prop} {w:World} {g:Nat} {s:Dst}
theorem DS.sectors (h:DS N S w g s) (hN2:N<=128):Calls Tryz.prog 147 #[.pointer (some ⟨g,0,none⟩)] w fun e w'=>e= .returned (.int .i64 (N:Int))/\w=w':=by
 obtain⟨q,c,W,cw,ws,k,e1,e2,hs⟩:=h;have:=adQ k (by omega);rw[e2,Nat.mul_div_cancel_left _ (by omega)]at this;exact this
theorem agJ (h:DS N S w g s) (hN2:N<=128) (half:Nat) (hh:N/2=half):
 Calls Tryz.prog 83 #[.pointer (some ⟨g,0,none⟩)] w fun e w'=>e= .returned (.int .i64 (half:Int))/\w=w':=by
 have HS:=hE0 (h.sectors hN2);have hhi:(N:Int)/2=(half:Int):=by omega
 clear h;go_enter Tryz.func83,Tryz.ntmps83
 go_wp2_with fail
 refine HS.out.mono ?_;rintro e w1 ⟨rfl,rfl⟩;go_wp2
 go_ret
 exact⟨aoN (by omega),rfl⟩
theorem akb (h:DS N S w g s) (hN2:N<=128) (half M:Nat) (hh:N/2=half) (h1:1<=half) (hM:512*(half-1)=M):
 Calls Tryz.prog 80 #[.pointer (some ⟨g,0,none⟩)] w fun e w'=>e= .returned (.int .i64 (M:Int))/\w=w':=by
 have HS:=hE0 (agJ h hN2 half hh);clear h;go_enter Tryz.func80,Tryz.ntmps80
 go_wp2_with fail
 refine HS.out.mono ?_;rintro e w1 ⟨rfl,rfl⟩;go_wp2
 go_ret
 exact⟨aoN (by omega),rfl⟩
end
theorem ask{fn:Func}{R:Ending->World->Prop}{a:Act}{w:World}{p u:Tmp}{g:Nat}{x y0 y1 y2:Value}(hres:fn.results= #[.cell p 107, .tmp u]) (hp:a.tmps.getD p undef= .pointer (some ⟨g,0,none⟩)) (hx:a.tmps.getD u undef=x) (hd:a.defers= [])
 (hg:w.heap[g]?=some (.cells #[y0,y1,y2] 107 (0,0))) (hR:R (.returned (.tuple #[.agg #[y0,y1,y2],x])) w):bodyPost Tryz.prog fn R .ret a w:=by
 obtain⟨⟨c0,c1,c2⟩,_⟩:=adO hg;refine bodyPost_ret (v:= .tuple #[.agg #[y0,y1,y2],x]) ?_ hd hR;rw[results_cell_tmp hres,hp,hx];simp[go_sem,c0,c1,c2]
theorem anI (w:World) (A:Option Addr) (n c:Nat) (b:List UInt8) (hr:Rd w w.heap.size A n b) (hnc:n<=c) (hc:c<=9223372036854775807) (hn:n<=900000) (G Q M:Nat) (hM:M<4294967296) (k:Sk) (hk:ara G Q M (abS 0 b) (aeM b)=k):
 Calls Tryz.prog 207 #[.slice A n c, .int .u32 (M:Int)] w fun e w'=>∃A1 c1 A2 c2,e= .returned (.tuple #[.agg #[.int .i64 (k.n:Int), .slice A1 k.l.length c1, .slice A2 k.d.length c2], .bool k.ok])/\RkRd w' w'.heap.size A1 k.l/\DtRd w' w'.heap.size A2 k.d/\(∀a,A2=some a->w.heap.size<=a.block)/\Below w.heap.size w w':=by
 obtain⟨w1,ha1,n1,b1⟩:=ajo w 107 (.int .i64 0) (.slice none 0 0) (.slice none 0 0);have hr1:=(hr.below b1.out).more b1.out.size;obtain⟨sm,hsm⟩:=nmE (abS 0 b);have hsml:sm<4294967296:=by rw[<-hsm];exact ad2 _ _
 have hs:=af3 A n c w1.heap.size b w1 hr1 (by omega);rw[hsm]at hs hk;have HS:=hE0 hs;have HG:=hE0 (am7 w1 A n c w1.heap.size b hr1 (Nat.le_refl _) hnc hc hn);obtain⟨Γ,hΓ⟩:=nmE (aeM b);have hge:Γ.1≠0->Γ.2=(0,[],[]):=by rw[<-hΓ];exact arU
 rw[hΓ]at HG hk;have HK:=hE0 hk;have HGE:=hE0 hge;clear hr hr1 hs hsm hΓ hk hge;obtain⟨kd,im,il,id⟩:=Γ;dsimp only at HG HK HGE;obtain⟨i1,hi1⟩:=nmE il.length;obtain⟨i2,hi2⟩:=nmE id.length;rw[hi1,hi2]at HG;have HI1:=hE0 hi1;have HI2:=hE0 hi2;clear hi1 hi2;by_cases he:sm=M
 · subst he;have gs:((sm:Int)==(sm:Int))=true:=by simp
   go_enter Tryz.func207,Tryz.ntmps207
   go_wp2_with (first | (rw[ha1.out]) | fail)
   refine HS.out.mono ?_;rintro e w2 ⟨rfl,rfl⟩;go_wp2_with fail
   refine HG.out.mono ?_;rintro e w2 ⟨A9,B9,a9,c9,rfl,hr9,hd9,hA9,b9⟩;have n2:=hE0 ((b9.block _ (aab n1.out)).trans n1.out);have HA9:Hid (∀a,B9=some a->w.heap.size<a.block):=(show ∀a,_->_ from fun a e=>by have:=hA9 a e;have:=aab n1.out;omega);have HB2:=hE0 (b1.out.trans (b9.mono b1.out.size));obtain⟨wa,ha2,m2,b2⟩:=ajo w2 107 (.int .i64 0) (.slice none 0 0) (.slice none 0 0);obtain⟨wb,hp2,m3,b3,⟨z0,z1,z2⟩,⟨e0,e1,e2⟩,hle⟩:=atH m2 (.int .i64 (im:Int)) (.slice A9 i1 a9) (.slice B9 i2 c9);have hb23:=b3.out w2.heap.size w2 (Nat.le_refl _) b2.out;have HB3:=hE0 (HB2.out.trans (hb23.mono HB2.out.size));have n3:=hE0 ((hb23.block _ (aab n2.out)).trans n2.out);have HIM:Hid (RkRd wb wb.heap.size A9 il/\DtRd wb wb.heap.size B9 id):=⟨(hr9.below hb23).more hb23.size,(hd9.below hb23).more hb23.size⟩;clear hr9 hd9 hA9 b9 hb23 HG;have hev:(aiO kd= .nilIface/\kd=0)\/(aiO kd= .iface 130 (.int .i64 (kd:Int))/\kd≠0):=by
    unfold aiO;by_cases h:kd=0
    · exact .inl ⟨if_pos h,h⟩
    · exact .inr ⟨if_neg h,h⟩
   rcases hev with⟨e,h0⟩ | ⟨e,h0⟩;all_goals
    rw[e];have H0:=hE0 h0;clear e h0;go_wp2_with (first | (rw[ha2.out]) | (rw[hp2.out]) | fail)
    clear z0 z1 z2 e0 e1 e2 hle;obtain⟨⟨t0,t1,t2⟩,_,hlt⟩:=adO m3.out;obtain⟨wz,hz,nz,bz,⟨u0,u1,u2⟩,⟨g0,g1,g2⟩,hlu⟩:=atH n3 (.int .i64 (im:Int)) (.slice A9 i1 a9) (.slice B9 i2 c9);have HFIN:Hid (RkRd wz wz.heap.size A9 il/\DtRd wz wz.heap.size B9 id):=asJ HIM.out (fun a e=>by have:=HA9.out a e;omega) n3.out (by rw[<-hz.out];simp[World.setCell]) (fun k hk=>by rw[<-hz.out,heap_setCell_other _ _ _ _ hk,heap_setCell_other _ _ _ _ hk,heap_setCell_other _ _ _ _ hk]);go_region
    all_goals
     go_wp2_with (first | (rw[hz.out]) | fail)
    refine ask (g:=w.heap.size) Tryz.results207 rfl rfl rfl nz.out ?_;have hk:=HK.out;have hbd:Below wz.heap.size wz wz.drew:=(Below.refl _ _).drew;first
     | (have h0:kd=0:=H0.out
        unfold ara at hk;rw[if_pos ⟨h0,rfl⟩]at hk;subst hk;exact⟨A9,a9,B9,c9,by dsimp only;rw[HI1.out,HI2.out];rfl,HFIN.out.1.below hbd,HFIN.out.2.below hbd,(fun a e=>Nat.le_of_lt (HA9.out a e)),(bz.out _ _ (Nat.le_refl _) HB3.out).drew⟩)
     | (have h0:kd≠0:=H0.out
        rw[amw (fun h=>h0 h.1)]at hk;subst hk;have he:=HGE.out h0;injection he with e1 e2;injection e2 with e2 e3;subst e1 e2 e3;exact⟨A9,a9,B9,c9,by dsimp only;rw[HI1.out,HI2.out];rfl,HFIN.out.1.below hbd,HFIN.out.2.below hbd,(fun a e=>Nat.le_of_lt (HA9.out a e)),(bz.out _ _ (Nat.le_refl _) HB3.out).drew⟩)
 · have gs:((sm:Int)==(M:Int))=false:=by rw[beq_eq_false_iff_ne];omega
   have hk:=HK.out;rw[amw (fun h=>he h.2)]at hk;subst hk;obtain⟨wz,hz,nz,bz,⟨u0,u1,u2⟩,⟨g0,g1,g2⟩,hlu⟩:=atH n1 (.int .i64 0) (.slice none 0 0) (.slice none 0 0);clear he HK HGE HG;go_enter Tryz.func207,Tryz.ntmps207
   go_wp2_with (first | (rw[ha1.out]) | fail)
   refine HS.out.mono ?_;rintro e w2 ⟨rfl,rfl⟩;go_wp2_with (first | (rw[hz.out]) | fail)
   (try simp only[Exit.inBlock,Exit.then])
   refine ask (g:=w.heap.size) (x:= .bool false) Tryz.results207 ?_ ?_ ?_ nz.out ?_
   · rfl
   · rfl
   · rfl
   · exact⟨none,0,none,0,rfl,fun h=>absurd h (by simp),fun h=>absurd h (by simp),fun _ h=>(by cases h),bz.out _ _ (Nat.le_refl _) b1.out⟩
section
variable {N:Nat} {S:Nat->Prop} {w:World} {g:Nat} {s:Dst}
theorem amx (h:DS N S w g s) (hN2:N<=128) (ho:s.off=false) (half:Nat) (hh:N/2=half) (h1:1<=half) (p:Nat) (hp2:p+half<=N) (sk:Sk) (hsk:al5 (abv s.bs s.wt p) half (fun n=>(adn s.bs s.wt (p+1) (need n)).take n)=sk):
 Calls Tryz.prog 143 #[.pointer (some ⟨g,0,none⟩), .int .i64 (p:Int)] w fun e w'=>Find sk w e w':=by
 obtain⟨w1,ha1,n1,b1⟩:=aoM w 148 (.int .u64 0) (.int .u64 0) (.int .u32 0) (.bool false) (.int .i64 0) (.slice none 0 0) (.slice none 0 0);have hrd:=(h.below b1.out).read hN2 ho p (by omega);obtain⟨b,hb⟩:=nmE (abv s.bs s.wt p);have hb5:b.length=512:=by
  obtain⟨_,_,_,_,ws,k,e1,e2,_⟩:=h;rw[<-hb,<-e1];exact acP _ _ _ k.fits (by omega)
 unfold aqF at hrd;rw[hb,hb5]at hrd;rw[hb]at hsk;have HRD:=hE0 hrd;obtain⟨M,hM⟩:=nmE (512*(half-1));have hMl:M<=65536:=by omega
 have HROOM:=hE0 (fun W (hW:Below w.heap.size w W)=>akb (h.below hW) hN2 half M hh h1 hM);have HREADS:=hE0 (fun W (hW:Below w.heap.size w W) (Q:Nat) (hQ:Q<=M)=>(h.below hW).reads hN2 ho (p+1) Q (by unfold need;omega));have HSK:=hE0 hsk;have HM:=hE0 hM;have hpl:p<=128:=by omega
 clear h hrd hb hsk hh h1 hp2 hM;go_enter Tryz.func143,Tryz.ntmps143
 go_wp2_with (first | (rw[ha1.out]) | fail)
 refine HRD.out.mono ?_;rintro e w2 ⟨A2,c2,rfl,o2,b2⟩;have hc2:=aoW o2;unfold maxLen at hc2;have HB2:=hE0 (b1.out.trans (b2.mono b1.out.size));have HG:=hE0 (aoK w2 A2 512 c2 b (acH o2) hc2.1);have n2:=hE0 ((b2.block _ (aab n1.out)).trans n1.out);clear o2 b2 HRD hc2;go_wp2_with fail
 refine HG.out.mono ?_;rintro e w3 ⟨rfl,hb3⟩;obtain⟨ok,hok⟩:=nmE (acv b);obtain⟨G,hG⟩:=nmE (agT b (slG b));obtain⟨Q,hQ⟩:=nmE (agT b (slN b));obtain⟨C,hC⟩:=nmE (agT b (slS b));have HOK:Hid (acv b=ok/\agT b (slG b)=G/\agT b (slN b)=Q/\agT b (slS b)=C):=⟨hok,hG,hQ,hC⟩;rw[hok,hG,hQ,hC];have HB3:=hE0 (HB2.out.trans (hb3.mono HB2.out.size));have n3:=hE0 ((hb3.block _ (aab n2.out)).trans n2.out);obtain⟨w4,ha4,m4,b4⟩:=ajo w3 146 (.int .u64 0) (.int .u64 0) (.int .u32 0);obtain⟨w5,hp5,m5,b5,⟨z0,z1,z2⟩,⟨e0,e1,e2⟩,hle⟩:=atH m4 (.int .u64 (G:Int)) (.int .u64 (Q:Int)) (.int .u32 (C:Int));have hb5':=b5.out w3.heap.size w3 (Nat.le_refl _) b4.out;have HB5:=hE0 (HB3.out.trans (hb5'.mono HB3.out.size));have n5:=hE0 ((hb5'.block _ (aab n3.out)).trans n3.out);clear hb3 hb5' HG hok hG hQ hC;have HPLAIN:Hid (acv b=false\/(acv b=true/\M<Q)->sk=⟨G,Q,C,false,0,[],[]⟩):=(show _->_ from fun hc=>by
  obtain⟨h1,h2,h3,h4⟩:=HOK.out;have hsk:=HSK.out;unfold al5 at hsk;rcases hc with hc | ⟨hc,hf⟩
  · rw[if_pos hc]at hsk;subst hsk;have a1:=ae8 b (slG b) hc;have a2:=ae8 b (slN b) hc;have a3:=ae8 b (slS b) hc;have b1:G=0:=by omega
    have b2:Q=0:=by omega
    have b3:C=0:=by omega
    subst b1 b2 b3;rfl
  · obtain⟨-,f1,f2,f3⟩:=aid hc;rw[f1]at h2;rw[f2]at h3;rw[f3]at h4;rw[if_neg (by rw[hc];decide),h2,h3,h4,if_pos (by rw[HM.out];exact hf)]at hsk;exact hsk.symm)
 go_wp2_with (first | (rw[ha4.out]) | (rw[hp5.out]) | fail)
 clear z0 z1 z2 e0 e1 e2 hle
 cases ok with
 | false=>
  have e:=HPLAIN.out (.inl HOK.out.1);subst e;clear HPLAIN;go_quiet (fail)
  obtain⟨wk,hwk⟩:=nmE (w5.drewN nq);have hbk:Below w5.heap.size w5 wk:=by rw[<-hwk];exact alW _ _
  have n6:=hE0 ((hbk.block _ (aab n5.out)).trans n5.out);obtain⟨⟨v0,v1,v2⟩,_,hlv⟩:=adO ((hbk.block _ (aab m5.out)).trans m5.out);have HB6:=hE0 (HB5.out.trans (hbk.mono HB5.out.size));rw[hwk];clear hwk hbk;obtain⟨wz,hz,nz,bz,⟨u0,u1,u2,u3,u4,u5,u6⟩,⟨g0,g1,g2,g3,g4,g5,g6⟩,hlu⟩:=atS n6 (.int .u64 (G:Int)) (.int .u64 (Q:Int)) (.int .u32 (C:Int)) (.bool false) (.int .i64 0) (.slice none 0 0) (.slice none 0 0);go_wp2_with (first | (rw[hz.out]) | fail)
  (try simp only[Exit.inBlock,Exit.then])
  refine aqd (g:=w.heap.size) (x:= .nilIface) Tryz.results143 ?_ ?_ ?_ nz.out ?_
  · rfl
  · rfl
  · rfl
  · exact Find.plain G Q C rfl (bz.out _ _ (Nat.le_refl _) HB6.out)
 | true=>
  have hrec:=ar7 HOK.out.1;obtain⟨-,f1,f2,f3⟩:=aid HOK.out.1;obtain⟨-,k1,k2,k3⟩:=HOK.out;have hQl:Q<=65536:=by rw[<-k2,f2];exact hrec.2
  have hCl:C<4294967296:=by rw[<-k3,f3];exact atR b
  have k1':slG b=G:=f1.symm.trans k1;have k2':slN b=Q:=f2.symm.trans k2;have k3':slS b=C:=f3.symm.trans k3;have HKK:Hid (slG b=G/\slN b=Q/\slS b=C):=⟨k1',k2',k3'⟩;clear hrec f1 f2 f3 k1 k2 k3 k1' k2' k3';obtain⟨y,gy⟩:=nmE (decide (M<Q));have gy':decide ((M:Int)<(Q:Int))=y:=by rw[<-gy];exact decide_eq_decide.2 (by omega)
  have GY:=hE0 gy;obtain⟨wd,hwd⟩:=nmE w5.drew;have hbd:=adE hwd;have n6:=hE0 ((hbd.block _ (aab n5.out)).trans n5.out);have m6:=hE0 ((hbd.block _ (aab m5.out)).trans m5.out);have HB6:=hE0 (HB5.out.trans (hbd.mono HB5.out.size));refine aaq wd.heap.size [([0,1,2,3,4,5],6)] [7,8,9] [] (by kernel_rfl) (by kernel_rfl) (by kernel_rfl) (fun _ _ _ _ _ h=>h) ?_;rw[hwd];clear hwd hbd;obtain⟨⟨t0,t1,t2⟩,_,hlt⟩:=adO m6.out;have q1:=tfE t1 hlt;refine tail_cons (l:= ?segA) ?hsegA ?_
  case hsegA=>simp only[pick,lE1,lE2,lE3];rfl
  repeat (go_big_quiet_step (fail))
  refine wpQuiet_nil ?_;clear q1 t0 t1 t2 hlt;refine ae1 (vs:= #[.pointer (some ⟨g,0,none⟩)]) Tryz.call80 rfl rfl rfl (R:=fun r w'=>r= .int .i64 (M:Int)/\wd=w') ((HROOM.out wd HB6.out).mono ?_) ?_
  · rintro e w' ⟨rfl,rfl⟩;exact⟨_,rfl,Below.refl _ _,rfl,rfl⟩
  rintro r w' _ ⟨rfl,rfl⟩;refine⟨wd.heap.size,Nat.le_refl _,?_⟩;simp only[Act.put,lE4,lE5,lE6];refine aaN (l:= ?lastB) (t:= []) ?hlastB rfl ?_
  case hlastB=>simp only[pick,lE1,lE2,lE3];rfl
  repeat (go_big_quiet_step (fail))
  refine wpQuiet_nil ?_;clear gy gy'
  cases y with
  | true=>
   have e:=HPLAIN.out (.inr ⟨HOK.out.1,of_decide_eq_true GY.out⟩);subst e;clear HPLAIN;obtain⟨⟨v0,v1,v2⟩,_,hlv⟩:=adO m6.out;obtain⟨wz,hz,nz,bz,⟨u0,u1,u2,u3,u4,u5,u6⟩,⟨g0,g1,g2,g3,g4,g5,g6⟩,hlu⟩:=atS n6 (.int .u64 (G:Int)) (.int .u64 (Q:Int)) (.int .u32 (C:Int)) (.bool false) (.int .i64 0) (.slice none 0 0) (.slice none 0 0);go_wp2_with (first | (rw[hz.out]) | fail)
   (try simp only[Exit.inBlock,Exit.then])
   refine aqd (g:=w.heap.size) (x:= .nilIface) Tryz.results143 ?_ ?_ ?_ nz.out ?_
   · rfl
   · rfl
   · rfl
   · exact Find.plain G Q C rfl (bz.out _ _ (Nat.le_refl _) HB6.out)
  | false=>
   have hQM:Q<=M:=Nat.le_of_not_lt (of_decide_eq_false GY.out);obtain⟨o,hob⟩:=nmE ((adn s.bs s.wt (p+1) (need Q)).take Q);have hrds:=HREADS.out wd HB6.out Q hQM;unfold aqF at hrds;rw[hob]at hrds;have hsk:ara G Q C (abS 0 o) (aeM o)=sk:=by
    have hsk:=HSK.out;obtain⟨k1,k2,k3⟩:=HKK.out;unfold al5 at hsk;rw[if_neg (by rw[HOK.out.1];decide),k1,k2,k3,if_neg (by rw[HM.out];exact Nat.not_lt.2 hQM)]at hsk;dsimp only at hsk;rw[hob]at hsk;exact hsk
   have HSK2:=hE0 hsk;have HRDS:=hE0 hrds;have hQi:Hid (((p:Int)+1)=((p+1:Nat):Int)):=(show _=_ from rfl);obtain⟨ol,hol⟩:=nmE o.length;have holl:ol<=65536:=by rw[<-hol,<-hob,List.length_take];omega
   rw[hol]at HRDS;obtain⟨⟨v0,v1,v2⟩,_,hlv⟩:=adO m6.out;clear hrds hsk hob hol HREADS HROOM HPLAIN;go_wp2_with fail
   rw[hQi.out];refine HRDS.out.mono ?_;rintro e w8 ⟨A8,c8,rfl,o8,b8⟩;have hc8:=aoW o8;unfold maxLen at hc8;have HB8:=hE0 (HB6.out.trans (b8.mono HB6.out.size));have n8:=hE0 ((b8.block _ (aab n6.out)).trans n6.out);have m8:=hE0 ((b8.block _ (aab m6.out)).trans m6.out);have HIM:=hE0 (anI w8 A8 ol c8 o (acH o8) hc8.1 (by omega) (by omega) G Q C hCl sk HSK2.out);obtain⟨⟨x0,x1,x2⟩,_,hlx⟩:=adO m8.out;clear v0 v1 v2 hlv o8 b8 hc8 HRDS;go_wp2_with fail
   refine HIM.out.mono ?_;rintro e w9 ⟨A9,a9,B9,c9,rfl,hr9,hd9,hA9,b9⟩;clear x0 x1 x2 hlx;have HS4:Hid (sk.G=G/\sk.N=Q/\sk.S=C):=(show _/\_ from by
    rw[<-HSK2.out];unfold ara;split<;>exact⟨rfl,rfl,rfl⟩)
   obtain⟨sG,sN,sS,so,sn,sl,sd⟩:=sk;obtain⟨rfl,rfl,rfl⟩:=HS4.out;dsimp only at hr9 hd9;dsimp only;have HA9:Hid (∀a,B9=some a->w.heap.size<a.block):=(show ∀a,_->_ from fun a e=>by have:=hA9 a e;have:=aab n8.out;omega);obtain⟨wa,ha10,m10,b10⟩:=ajo w9 107 (.int .i64 0) (.slice none 0 0) (.slice none 0 0);obtain⟨wb,hp11,m11,b11,⟨z0,z1,z2⟩,⟨e0,e1,e2⟩,hle⟩:=atH m10 (.int .i64 (sn:Int)) (.slice A9 sl.length a9) (.slice B9 sd.length c9);have hb911:=b11.out w9.heap.size w9 (Nat.le_refl _) b10.out;have hb811:=b9.trans (hb911.mono b9.size);have HB11:=hE0 (HB8.out.trans (hb811.mono HB8.out.size));have n11:=hE0 ((hb811.block _ (aab n8.out)).trans n8.out);have r11:=hE0 ((hb811.block _ (aab m8.out)).trans m8.out);have HIM11:Hid (RkRd wb wb.heap.size A9 sl/\DtRd wb wb.heap.size B9 sd):=⟨(hr9.below hb911).more hb911.size,(hd9.below hb911).more hb911.size⟩;obtain⟨⟨x0,x1,x2⟩,_,hlx⟩:=adO m11.out;obtain⟨⟨v0,v1,v2⟩,_,hlv⟩:=adO r11.out;obtain⟨wz,hz,nz,bz,⟨u0,u1,u2,u3,u4,u5,u6⟩,⟨g0,g1,g2,g3,g4,g5,g6⟩,hlu⟩:=atS n11 (.int .u64 (sG:Int)) (.int .u64 (sN:Int)) (.int .u32 (sS:Int)) (.bool so) (.int .i64 (sn:Int)) (.slice A9 sl.length a9) (.slice B9 sd.length c9);have HFIN:Hid (RkRd wz wz.heap.size A9 sl/\DtRd wz wz.heap.size B9 sd):=by
    have hz2:wz.heap.size=wb.heap.size:=by rw[<-hz.out];simp[World.setCell]
    have hk2:∀k,k≠w.heap.size->wz.heap[k]?=wb.heap[k]?:=fun k hk=>by
     rw[<-hz.out,heap_setCell_other _ _ _ _ hk,heap_setCell_other _ _ _ _ hk,heap_setCell_other _ _ _ _ hk,heap_setCell_other _ _ _ _ hk,heap_setCell_other _ _ _ _ hk,heap_setCell_other _ _ _ _ hk,heap_setCell_other _ _ _ _ hk]
    rw[hz2];exact⟨HIM11.out.1.offS n11.out hk2,HIM11.out.2.offS (fun a e=>by have:=HA9.out a e;omega) n11.out hk2⟩
   have HBZ:=hE0 (bz.out _ _ (Nat.le_refl _) HB11.out);clear hr9 hd9 hA9 b9 hb911 hb811 HIM;go_wp2_with (first | (rw[ha10.out]) | (rw[hp11.out]) | (rw[hz.out]) | fail)
   (try simp only[Exit.inBlock,Exit.then])
   refine aqd (g:=w.heap.size) (x:= .nilIface) Tryz.results143 ?_ ?_ ?_ nz.out ?_
   · rfl
   · rfl
   · rfl
   · exact⟨A9,a9,B9,c9,rfl,HFIN.out.1,HFIN.out.2,(fun a e=>Nat.le_of_lt (HA9.out a e)),HBZ.out⟩
end
end Go.Proofs.YtncadccbepjekaaGreatDoor
