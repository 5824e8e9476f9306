/- Texts of mine, joined. -/
import Derived.Test.YtncadccbepjekaaGreatDoorU40
import Derived.Test.YtncadccbepjekaaGreatDoorU41
set_option maxHeartbeats 1000000
namespace Go.Proofs.YtncadccbepjekaaGreatDoor
open Go.RowKit
section
variable {H:Hp}
theorem aqX{n:Nat}{x:UInt8}:(H.get n x).2.cap=H.cap:=by
 unfold Hp.get;split
 · rfl
 · split
   · rfl
   · dsimp only;split
     · exact take_cap
     · exact take_cap
theorem aos{n m:Nat}:(H.calloc n m).2.cap=H.cap:=by
 unfold Hp.calloc;split
 · rfl
 · exact aqX
theorem amj{p n:Nat}:(H.realloc p n).2.cap=H.cap:=by
 unfold Hp.realloc;split
 · rfl
 · split
   · rfl
   · split
     · dsimp only;split
       · exact resize_cap
       · exact resize_cap
     · exact resize_cap
theorem aqY{p:Nat}:(H.freeP p).2.cap=H.cap:=by
 unfold Hp.freeP;split
 · rfl
 · exact agc
theorem aot{p a:Nat}{b:List UInt8}:(H.writeP p a b).2.cap=H.cap:=by
 unfold Hp.writeP;split
 · rfl
 · split<;>rfl
end
structure Hv (B:Nat) (w:World) (q g base cap:Nat) (A:Option Addr) (c:Nat) (bs:List UInt8) (H:Hp):Prop where
 ph:PH w q g base cap A c bs H
 qB:B<=q
 gB:B<=g
 aB:∀a,A=some a->B<=a.block
section
variable {B:Nat} {w w':World} {q g base cap c:Nat} {A:Option Addr} {bs:List UInt8} {H H':Hp}
theorem Hv.fB (h:Hv B w q g base cap A c bs H){k:Nat}(hk:foot g A k):B<=k:=by
 rcases hk with rfl | ⟨a,e,rfl⟩
 · exact h.gB
 · exact h.aB a e
theorem Hv.below (h:Hv B w q g base cap A c bs H) (hb:Below w.heap.size w w'):Hv B w' q g base cap A c bs H:=⟨h.ph.below hb,h.qB,h.gB,h.aB⟩
theorem Hv.turn (h:Hv B w q g base cap A c bs H) (hB:B<=w.heap.size) (ht:PTurn g base cap A H' w w') (hc:H'.cap=cap):∃A' c' bs',Hv B w' q g base cap A' c' bs' H'/\Tch (foot g A) w w'/\(A'=A\/∀a,A'=some a->w.heap.size<=a.block):=by
 obtain⟨A',c',out,h1,h2,h3⟩:=ht.ph h.ph hc;refine⟨A',c',out,⟨h1,h.qB,h.gB,fun a e=> ?_⟩,h2,h3⟩;rcases h3 with h3 | h3
 · exact h.aB a (h3▸e)
 · exact Nat.le_trans hB (h3 a e)
theorem Hv.low (h:Hv B w q g base cap A c bs H) (hB:B<=w.heap.size) (ht:Tch (foot g A) w w'):Below B w w':=ht.below (fun _ hk=>h.fB hk) hB
theorem PMade.hv{e:Ending}(h:PMade base cap H w e w'):∃q g A c bs,e= .returned (.tuple #[.pointer (some ⟨q,0,none⟩), .nilIface])/\Hv w.heap.size w' q g base cap A c bs H/\Below w.heap.size w w':=by
 obtain⟨q,g,A,c,bs,he,hp,hb,h1,h2,h3⟩:=h;exact⟨q,g,A,c,bs,he,⟨hp,h1,h2,h3⟩,hb⟩
theorem Hv.less{B':Nat}(h:Hv B w q g base cap A c bs H) (hB:B'<=B):Hv B' w q g base cap A c bs H:=⟨h.ph,Nat.le_trans hB h.qB,Nat.le_trans hB h.gB,fun a e=>Nat.le_trans hB (h.aB a e)⟩
end
theorem aqZ{w:World}{B n:Nat}{A:Option Addr}{bs:List UInt8}(h:Rd w B A n bs) (c:Nat) (x:LaterB B w):(convert 37 9 (.slice A n c)).run Tryz.prog x.val= .ok (.string (amp bs)) x.val:=acg (h.below x.ext)
theorem Rd.ownR{w:World}{base n c:Nat}{A:Option Addr}{bs:List UInt8}(h:w.ownsRow base 5 1 (.slice A n c) n (bs.map bv)):Rd w w.heap.size A n bs:=by
 obtain⟨A',c',e,_,hr⟩:=agx h;injection e with e1;subst e1;exact hr
def Oth (w:World) (k:Nat):Prop:=∃cs ty,w.heap[k]?=some (.cells cs ty (0,0))/\ty≠132/\ty≠195/\ty≠5
section
variable {B:Nat} {w w':World} {q g base cap c:Nat} {A:Option Addr} {bs:List UInt8} {H H':Hp} {k:Nat}
theorem PH.oth (h:PH w q g base cap A c bs H) (ho:Oth w k):¬(k=q\/foot g A k):=by
 obtain⟨cs,ty,hk,n1,n2,n3⟩:=ho;rintro(rfl | rfl | ⟨a,ea,rfl⟩)
 · have h1:=h.obj;rw[hk]at h1;injection h1 with h1;injection h1 with _ h2 _;exact n1 h2
 · have h1:=h.ar.obj;rw[hk]at h1;injection h1 with h1;injection h1 with _ h2 _;exact n2 h2
 · obtain⟨h',e,cur,hg,_⟩:=h.ar.row ea;subst e;rw[hk]at hg;injection hg with hg;injection hg with _ h2 _;exact n3 h2
theorem PH.keepO (h:PH w q g base cap A c bs H){S:Nat->Prop}(ht:Tch S w w') (hS:∀k,(k=q\/foot g A k)->¬S k):PH w' q g base cap A c bs H:=
 ⟨(ht.block q h.lt (hS q (.inl rfl))).trans h.obj,h.ar.tch ht (fun k hk=>hS k (.inr hk)),h.rd,h.cp,h.c16,h.b62⟩
theorem Hv.keepO (h:Hv B w q g base cap A c bs H){S:Nat->Prop}(ht:Tch S w w') (hS:∀k,(k=q\/foot g A k)->¬S k):Hv B w' q g base cap A c bs H:=⟨h.ph.keepO ht hS,h.qB,h.gB,h.aB⟩
theorem PH.locO (h:PH w q g base cap A c bs H) (ht:Tch (foot g A) w w'){cs:Array Value}{ty:TypeId}(hk:w.heap[k]?=some (.cells cs ty (0,0))) (n1:ty≠132) (n2:ty≠195) (n3:ty≠5):w'.heap[k]?=some (.cells cs ty (0,0)):=
 (ht.block k (aae hk) (fun hf=>h.oth ⟨cs,ty,hk,n1,n2,n3⟩ (.inr hf))).trans hk
theorem PH.ownO (h:PH w q g base cap A c bs H) (ht:Tch (foot g A) w w'){n:Nat}{ty:TypeId}{v:Value}{xs:List Value}(ho:w.ownsRow B ty 1 v n xs) (n1:ty≠132) (n2:ty≠195) (n3:ty≠5):w'.ownsRow B ty 1 v n xs:=by
 refine⟨ho.1,?_⟩;rcases ho.2 with h2 | ⟨g',cap',cur,hv,hg,hh,r⟩
 · exact .inl h2
 · exact .inr ⟨g',cap',cur,hv,hg,h.locO ht hh n1 n2 n3,r⟩
end
section
variable {B:Nat} {w w':World} {cap q1 g1 c1 q2 g2 c2:Nat} {A1 A2:Option Addr} {b1 b2:List UInt8} {H1 H2 H':Hp}
theorem Hv.own_lt{q g base c:Nat}{A:Option Addr}{bs:List UInt8}{H:Hp}(h:Hv B w q g base cap A c bs H){k:Nat}(hk:k=q\/foot g A k):k<w.heap.size:=by
 rcases hk with rfl | hk
 · exact h.ph.lt
 · exact h.ph.ar.foot_lt hk
end
section
variable {H:Hp}
end
section
variable {bs:List UInt8} {H:Hp}
theorem as2 (h:RtD bs H) (hc:H.cap<=16384) (n:Nat) (x:UInt8):(H.get n x).1.1<18446744073709551616:=by
 unfold Hp.get
 cases hs:acU n with
 | none=>exact Nat.zero_lt_succ _
 | some s=>
  dsimp only
  cases hq:(H.take s).1 with
  | none=>exact Nat.zero_lt_succ _
  | some o=>
   dsimp only;obtain⟨y,y1,y2,y3,y4,y5,y6⟩:=h.rt.what (ad8 hs) hq;have hok:=(h.rt.ok hc h.dl).take hc (ad8 hs);have hm:=(aak _ _ _ hok.tl).2 y y1;have:=hok.le;omega
theorem aq0 (h:RtD bs H) (hc:H.cap<=16384) (n m:Nat):(H.calloc n m).1.1<18446744073709551616:=by
 unfold Hp.calloc;split
 · exact Nat.zero_lt_succ _
 · exact as2 h hc _ _
theorem aou (h:RtD bs H) (hc:H.cap<=16384) (p n:Nat):(H.realloc p n).1.1<18446744073709551616:=by
 unfold Hp.realloc;split
 · exact Nat.zero_lt_succ _
 · cases hs:acU n with
   | none=>exact Nat.zero_lt_succ _
   | some s=>
    dsimp only;split
    · rename_i he;dsimp only;rcases afW he with e | e
      · rename_i hh;obtain⟨h8,h2,_⟩:=agQ hh;omega
      · obtain⟨y,y1,y2,y3,y4,y5,y6⟩:=h.rt.what (ad8 hs) e;have hok:=(h.rt.ok hc h.dl).take hc (ad8 hs);have hm:=(aak _ _ _ hok.tl).2 y y1;have:=hok.le;omega
    · exact Nat.zero_lt_succ _
end
theorem ajt{w:World}{B n c:Nat}{A:Option Addr}{xs:List Value}(h:w.ownsRow B 25 1 (.slice A n c) n xs){k:Nat}(hk:(Value.slice A n c).ownBlock=some k):Oth w k:=by
 rcases h.2 with⟨h',_⟩ | ⟨g',cap',cur,hv,hg,hh,r⟩
 · injection h' with e _ _;subst e
   cases hk
 · injection hv with e _ _;subst e;have e2:g'=k:=by simpa[Value.ownBlock]using hk
   subst e2;exact⟨_,_,hh,by decide,by decide,by decide⟩
theorem ahv{n:Int}{l:List Rk}{d:List (List UInt8)}{out:List UInt8}(h:adR n l d=true) (ho:ajr n l d=some out):∃N:Nat,n=(N:Int)/\184<=N/\N<=16384/\abY out=true/\abG out=some (l.map toB)/\out.length=N/\ofD out (l.map toB)=d/\l=(l.map toB).map toR:=by
 have hlo:ab0 n=true:=by unfold adR at h;rw[Bool.and_eq_true]at h;exact h.1
 have hlB:=(aaT n).1 hlo;obtain⟨N,rfl⟩:∃N:Nat,n=(N:Int):=⟨n.toNat,by omega⟩;have hrow:abh (N:Int) 184 false l=true:=by unfold adR at h;simp only[Bool.and_eq_true]at h;exact h.2.1
 obtain⟨out',_,_,hre,h1,h2,h3,h4⟩:=afF h;unfold ajr at ho;rw[Int.toNat_natCast,hre]at ho;injection ho with ho;subst ho;exact⟨N,rfl,by omega,by omega,h1,h2,h3,h4,(ago (o:=184) hrow).2.1⟩
theorem anl (H:Hp) (l:Nat->List Nat):∀j,agP {H with lists:=l} j=agP H j
 | 0=>rfl
 | j+1=>by
  unfold agP;rw[anl H l j]
theorem aju{a b:List UInt8}:∀L:List Bk,ofD a L=ofD b L->∀x∈L,x.used=true->(a.drop (x.off+8)).take (x.size-16)=(b.drop (x.off+8)).take (x.size-16)
 | [],_,x,hx,_=>by cases hx
 | y::r,h,x,hx,hu=>by
  rw[ofD,ofD]at h
  cases hy:y.used with
  | false=>
   rw[hy,if_neg Bool.false_ne_true,if_neg Bool.false_ne_true]at h;rcases List.mem_cons.1 hx with rfl | hx
   · rw[hu]at hy;cases hy
   · exact aju r h x hx hu
  | true=>
   rw[hy,if_pos rfl,if_pos rfl]at h;injection h with h1 h2;rcases List.mem_cons.1 hx with rfl | hx
   · exact h1
   · exact aju r h2 x hx hu
theorem asy{bs out:List UInt8}{H:Hp}(h:RtD bs H) (hl:bs.length<=16384){wide:Nat}(hw:H.cap<=wide) (ho:ajr (bs.length:Int) (H.blks.map toR) (ofD bs H.blks)=some out):RtD out (H.capped wide).rebuild:=by
 have hm:=aeg h.rt.walk hl h.rt.nfree.2.1;obtain⟨out',hw0,hl0,hre,hck,hwk,hol,hod⟩:=afF hm;have he:out'=out:=by
  unfold ajr at ho;rw[Int.toNat_natCast,hre]at ho;injection ho
 subst he;rw[as0]at hw0 hwk hod hre hl0;have hle:=h.rt.len;obtain⟨r1,r2,r3⟩:=at0 (cap:=wide) hw0 (by rw[hl0];exact hl) hre hck (by rw[hol];omega) h.dl;have e:(⟨wide,H.blks,H.ds,fun _=> []⟩:Hp).rebuild=(H.capped wide).rebuild:=by
  show agP _ _=agP _ _;exact anl (H.capped wide) (fun _=> []) _
 rw[e]at r1 r2 r3;refine⟨r1,r3,fun j x d hA hu=> ?_⟩;obtain⟨e1,e2,_⟩:=acr (H.capped wide) (H.capped wide).blks.length;obtain⟨a1,a2⟩:=hA;have a1':H.blks[j]?=some x:=by rw[<-a1];exact congrArg (fun l:List Bk=>l[j]?) e1.symm
 have a2':H.ds[j]?=some d:=by rw[<-a2];exact congrArg (fun l:List Dt=>l[j]?) e2.symm
 obtain⟨h1,h2⟩:=h.ho j x d ⟨a1',a2'⟩ hu;refine⟨h1,fun k hk=> ?_⟩;have hx:=aju H.blks hod x (List.mem_of_getElem? a1') hu;have hx:=congrArg (fun l:List UInt8=>l[k]?) hx;simp only[List.getElem?_take,List.getElem?_drop]at hx;rw[if_pos (by omega),if_pos (by omega)]at hx;rw[hx];exact h2 k hk
theorem akU{bs:List UInt8}{c:Nat}:∀(k:Nat){last p:Nat}{l:List Nat},ael bs c k last p=some l->p=l.headD 0
 | 0,last,p,l,h=>by
  rw[ael]at h;split at h
  · rename_i h0;injection h with h;subst h;exact h0
  · cases h
 | k+1,last,p,l,h=>by
  rw[ael]at h;split at h
  · rename_i h0;injection h with h;subst h;exact h0
  · split at h
    · cases hq:ael bs c k p (aaf bs (p+8))with
      | none=>rw[hq]at h;cases h
      | some r=>rw[hq]at h;injection h with h;subst h;rfl
    · cases h
theorem aov{a b:List UInt8}{o:Nat}(ha:o+8<=a.length) (hb:o+8<=b.length) (h:aaf a o=aaf b o):(a.drop o).take 8=(b.drop o).take 8:=by
 have h1:=ahd (x:=(a.drop o).take 8) (by rw[List.length_take,List.length_drop];omega);have h2:=ahd (x:=(b.drop o).take 8) (by rw[List.length_take,List.length_drop];omega);rw[<-h1,<-h2];exact congrArg (aaF 8) h
theorem aq1{a b:List UInt8}{X:Hp}(h:Rt a X) (h':Rt b X):a.take 184=b.take 184:=by
 have la:=(aaj h.walk).1;have lb:=(aaj h'.walk).1;have hfst:∀c,c<22->aaf a (8+8*c)=aaf b (8+8*c):=fun c hc=>by
  rw[akU _ (adw (h.all_ c hc)).2,akU _ (adw (h'.all_ c hc)).2]
 have hlow:∀{x:List UInt8},Rt x X->184<=x.length->aaf x 0<2^22:=fun {x} hx hl=>by
  have hk:=hx.chk;unfold abY at hk;rw[hx.walk]at hk;simp only[Bool.and_eq_true]at hk;have:=of_decide_eq_true hk.1;unfold ans word? at this;rw[if_pos ⟨by omega,by omega⟩]at this;exact this
 have hmask:aaf a 0=aaf b 0:=ao0 22 _ _ (hlow h la) (hlow h' lb) fun c hc=>by
  rw[(adw (h.all_ c hc)).1,(adw (h'.all_ c hc)).1,hfst c hc]
 have hall:∀i,i<23->(a.drop (8*i)).take 8=(b.drop (8*i)).take 8:=fun i hi=>by
  refine aov (by omega) (by omega) ?_;rcases Nat.eq_zero_or_pos i with rfl | h0
  · exact hmask
  · obtain⟨c,rfl⟩:∃c,i=c+1:=⟨i-1,by omega⟩;have:=hfst c (by omega);rwa [Nat.mul_add,Nat.mul_one,Nat.add_comm]
 refine List.ext_getElem? fun j=> ?_;rw[List.getElem?_take,List.getElem?_take];split
 · have:=congrArg (fun l:List UInt8=>l[j%8]?) (hall (j/8) (by omega));simp only[List.getElem?_take,List.getElem?_drop]at this;rw[if_pos (by omega),if_pos (by omega),show 8*(j/8)+j%8=j by omega]at this;exact this
 · rfl
theorem RtD.reb{bs out:List UInt8}{H:Hp}(h:RtD bs H) (hl:bs.length<=16384) (ho:abz bs=some out) (hr:Rt out H.rebuild):RtD out H.rebuild:=by
 obtain⟨e1,e2,_⟩:=acr H H.blks.length;have ht:=(aaj h.rt.walk).2.1;refine⟨hr,?_,fun j x d hA hu=> ?_⟩
 · show(agP H _).ds.length=(agP H _).blks.length;rw[e1,e2];exact h.dl
 · obtain⟨a1,a2⟩:=hA;have a1':H.blks[j]?=some x:=by rw[<-a1];exact congrArg (fun l:List Bk=>l[j]?) e1.symm
   have a2':H.ds[j]?=some d:=by rw[<-a2];exact congrArg (fun l:List Dt=>l[j]?) e2.symm
   obtain⟨h1,h2⟩:=h.ho j x d ⟨a1',a2'⟩ hu;have hx:=List.mem_of_getElem? a1';refine⟨h1,fun k hk=> ?_⟩;rw[<-h2 k hk];have m1:=(aak _ _ _ ht).2 x hx;refine afV h.rt.walk hl ho _ (by omega) fun y hy hyu=> ?_;have hxs:=(aab _).1 m1.2.2.1;have hys:=(aab _).1 ((aak _ _ _ ht).2 y hy).2.2.1;rcases aaG _ _ _ ht x hx y hy with e | e | e
   · rw[e,hyu]at hu;cases hu
   · omega
   · omega
section
variable {B:Nat} {w w':World} {q g base cap c:Nat} {A:Option Addr} {bs:List UInt8} {H:Hp}
theorem aq2 (h:PH w q g base cap A c bs H):
 Calls Tryz.prog 51 #[.pointer (some ⟨q,0,none⟩)] w fun e w'=>e= .returned (.tuple #[])/\PTurn g base cap A H.rebuild w w':=by
 obtain⟨out,e,hR⟩:=h.rd.rt.rebuilt (by rw[h.cp];exact h.c16);have hC:=am2 w g base cap c A bs _ h.ar h.b62 h.len e;dsimp only[aoE,aat]at hC;have HC:=hE0 hC;have k0:=h.c0;have hlq:=h.lt;have HR:=hE0 (h.rd.reb h.len e hR);clear h hC hR e;go_enter Tryz.func51,Tryz.ntmps51
 go_wp2_with fail
 refine HC.out.mono ?_;rintro e w2 ⟨rfl,hbe⟩;have HF:=hE0 hbe;clear hbe HC k0;go_wp2
 go_end0
 exact⟨rfl,out,HF.out,HR.out⟩
theorem PTurn.wide{n:Nat}(h:PH w q g base cap A c bs H) (ht:PTurn g base n A (H.capped n) w w') (hn:n<=16384):∃A' c' out,PH w' q g base n A' c' out (H.capped n)/\Tch (foot g A) w w'/\(A'=A\/∀a,A'=some a->w.heap.size<=a.block):=by
 obtain⟨out,⟨A',c',a,t,k⟩,hr⟩:=ht;exact⟨A',c',out,⟨(t.block q h.lt h.ap).trans h.obj,a,hr,rfl,hn,h.b62⟩,t,k⟩
end
end Go.Proofs.YtncadccbepjekaaGreatDoor
