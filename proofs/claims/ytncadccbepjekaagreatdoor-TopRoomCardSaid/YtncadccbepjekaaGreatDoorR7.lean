/- Texts of mine, joined. -/
import Derived.Test.YtncadccbepjekaaGreatDoorR6
set_option maxRecDepth 100000
set_option maxHeartbeats 1000000
namespace Go.Proofs.YtncadccbepjekaaGreatDoor
def aiv (H:Hp) (bs:List UInt8) (o:Int) (H':Hp) (out:List UInt8) (p:Nat):Prop:=
 ∀x∈H.blks,x.used=true->(x.off:Int)=o->∀y∈H'.blks,y.used=true->y.off=p->∀i,8<=i->i+8<x.size->i+8<y.size->out[p+i]?=bs[x.off+i]?
def Hp.One (H:Hp):Prop:=∀(a b:Nat) (x y:Bk),H.blks[a]?=some x->H.blks[b]?=some y->x.off=y.off->a=b
theorem Rt.one{bs:List UInt8}{H:Hp}(h:Rt bs H):H.One:=fun a b x y ha hb e=>by
 have hpw:=List.pairwise_iff_getElem.1 (adi _ _ _ (aaj h.walk).2.1);have e1:H.blks[a]'(aaG ha)=x:=by have:=List.getElem?_eq_getElem (aaG ha);rw[ha]at this;exact(Option.some.inj this).symm
 have e2:H.blks[b]'(aaG hb)=y:=by have:=List.getElem?_eq_getElem (aaG hb);rw[hb]at this;exact(Option.some.inj this).symm
 rcases Nat.lt_trichotomy a b with h' | h' | h'
 · exact absurd (by rw[e1,e2];exact e) (hpw a b (aaG ha) (aaG hb) h')
 · exact h'
 · exact absurd (by rw[e1,e2];exact e.symm) (hpw b a (aaG hb) (aaG ha) h')
section
variable {H:Hp} {i j k s:Nat} {x:Bk} {d:Dt}
theorem aiw (h:(H.widen i).At j x d):∃j' x0,H.At j' x0 d/\x0.off=x.off/\x0.used=x.used/\(j=i->j'=i)/\(j≠i->j'≠i/\x0=x):=by
 unfold Hp.widen at h;obtain⟨x0,h1,h2,h3,h4⟩:=agu h;unfold Hp.swallow at h1;split at h1
 · obtain⟨j',c1,h1,c2,c3⟩:=apr h1;exact⟨j',x0,⟨h1.1,h1.2⟩,h2,h3,fun e=>by rw[c2 (by omega),e],fun e=>⟨by
    rcases Nat.lt_or_ge j (i+1)with hh | hh
    · rw[c2 hh];exact e
    · rw[c3 hh];omega,h4 e⟩⟩
 · exact⟨j,x0,h1,h2,h3,id,fun e=>⟨e,h4 e⟩⟩
theorem aro{p o:Int}(h:(H.moveD p o).At j x d):(H.At j x d/\∀ip io,atB p H.blks=some ip->atB o H.blks=some io->j≠ip)\/((x.off:Int)=p/\∃io xo,atB o H.blks=some io/\H.blks[io]?=some xo/\d=H.ds.getD io aco):=by
 unfold Hp.moveD at h;split at h
 · rename_i ip io h1 h2;obtain⟨a,b⟩:=h;have b:(H.ds.set ip (H.ds.getD io aco))[j]?=some d:=b;have a':H.blks[j]?=some x:=a;by_cases e:j=ip
   · subst e;have hl:j<H.ds.length:=by
      have:=aaG b;rwa [List.length_set]at this
     rw[List.getElem?_set_self hl]at b;injection b with b;obtain⟨x1,e1,e2⟩:=ab0 h1;obtain⟨x2,e3,_⟩:=ab0 h2;obtain rfl:x=x1:=Option.some.inj (a'.symm.trans e1);exact .inr ⟨e2,io,x2,h2,e3,b.symm⟩
   · rw[List.getElem?_set_ne (fun e'=>e e'.symm)]at b;exact .inl ⟨⟨a',b⟩,fun ip' io' h3 _=>by rw[h1]at h3;injection h3 with h3;rw[<-h3];exact e⟩
 · rename_i hn;exact .inl ⟨h,fun ip io h1 h2=>absurd h2 (hn ip io h1)⟩
theorem arp{o:Int}(h:((H.giveO o).getD H).At j x d) (hu:x.used=true):∃j',H.At j' x d/\∀i,aaY H.blks o=some i->j'≠i:=by
 unfold Hp.giveO at h
 cases hi:aaY H.blks o with
 | none=>rw[hi]at h;exact⟨j,h,fun i hh=>by cases hh⟩
 | some i=>
  rw[hi]at h;obtain⟨j',e,h'⟩:=ait (acL hi).1 h hu;exact⟨j',h',fun i' hh=>by injection hh with hh;rw[<-hh];exact e⟩
theorem ajH (hd:H.Dl){o:Int}(h0:H.One) (he:(H.resize o s).1.2=0) (hfr:∀i,H.find s=some i->i<H.blks.length/\(aam H.blks i).used=false) (hone:(H.take s).2.One)
 (hmv:∀i q,aaY H.blks o=some i->(H.take s).1=some q->(∃iq,atB (q:Int) (H.take s).2.blks=some iq)/\∃io x0,atB o (H.take s).2.blks=some io/\aaY (H.take s).2.blks o=some io/\(H.take s).2.blks[io]?=some x0/\x0.used=true/\x0.off≠q)
 (h:(H.resize o s).2.At j x d) (hu:x.used=true):∃j' x0,H.At j' x0 d/\x0.used=true/\((x0=x/\(x0.off:Int)≠o)\/((x0.off:Int)=o/\x.off=(H.resize o s).1.1)):=by
 unfold Hp.resize at h he ⊢;split at h
 · rename_i hn;rw[hn]at he
   cases he
 · rename_i i hi;rw[hi]at he;obtain⟨h1,h2,h3⟩:=acL hi;have hoth:∀j' x0,H.blks[j']?=some x0->j'≠i->(x0.off:Int)≠o:=fun j' x0 a e e'=>e (h0 j' i x0 _ a (aar h1) (by omega));have hat:∀x0,H.blks[i]?=some x0->(x0.off:Int)=o/\x0.used=true/\x0.off=(aam H.blks i).off:=fun x0 a=>by rw[<-aa6 a];exact⟨h2,h3,rfl⟩
   split at h
   · rename_i hle;rw[if_pos hle];rcases apu hd h1 h hu with⟨x0,a,b⟩ | ⟨j',e,a⟩
     · obtain⟨c1,c2,c3⟩:=hat x0 a.1;exact⟨i,x0,a,c2, .inr ⟨c1,by rw[<-b,c3]⟩⟩
     · exact⟨j',x,a,hu, .inl ⟨rfl,hoth j' x a.1 e⟩⟩
   · rename_i hlt;dsimp only at he;rw[if_neg hlt]at he;split at h
     · rename_i hle;rw[if_neg hlt,if_pos hle];have hw:(H.widen i).Dl:=hd.widen;have hwi:i<(H.widen i).blks.length:=by
        cases hn:acC H.blks i with
        | true=>rw[(afe hn).1];exact(ah9 (H.out (i+1)) (i:=i) (afd hn)).1
        | false=>rw[(aff hn h1).1];exact h1
       rcases apu hw hwi h hu with⟨x0,a,b⟩ | ⟨j',e,a⟩
       · obtain⟨j2,x2,c1,c2,c3,c4,_⟩:=aiw a;obtain rfl:=c4 rfl;obtain⟨d1,d2,d3⟩:=hat x2 c1.1;exact⟨j2,x2,c1,d2, .inr ⟨d1,by rw[<-b,<-c2,d3]⟩⟩
       · obtain⟨j2,x2,c1,c2,c3,_,c5⟩:=aiw a;obtain⟨e2,rfl⟩:=c5 e;exact⟨j2,x2,c1,hu, .inl ⟨rfl,hoth j2 x2 c1.1 e2⟩⟩
     · rename_i hlt2;rw[if_neg hlt2]at he;split at h
       · rename_i hg;rw[if_neg hlt,if_neg hlt2,if_pos hg];obtain⟨x0,a,b,c,c'⟩:=agu h;obtain⟨j2,x2,c1,c2,c3,c4,c5⟩:=aiw a;by_cases e:j=i
         · obtain rfl:=c4 e;obtain⟨d1,d2,d3⟩:=hat x2 c1.1;exact⟨j2,x2,c1,d2, .inr ⟨d1,by rw[<-b,<-c2,d3]⟩⟩
         · obtain⟨e2,rfl⟩:=c5 e;obtain rfl:=c' e;exact⟨j2,x2,c1,hu, .inl ⟨rfl,hoth j2 x2 c1.1 e2⟩⟩
       · rename_i hg;rw[if_neg hg]at he;rw[if_neg hlt,if_neg hlt2,if_neg hg]
         cases hq:(H.take s).1 with
         | none=>
          rw[hq]at he
          cases he
         | some q=>
          rw[hq]at h;obtain⟨⟨iq,hiq⟩,io',x0,c1,cu,c2,c3,c4⟩:=hmv i q hi hq;obtain⟨j1,a,hj1⟩:=arp h hu;rw[acB]at hj1;have hj1:=hj1 io' cu;obtain⟨xq,e1,e2⟩:=ab0 c1;rw[c2]at e1;injection e1 with e1;subst e1;rcases aro a with⟨a,hne⟩ | ⟨a,io,xo,b1,b2,b3⟩
          · rcases aiu hd hfr a hu with e | ⟨j2,b⟩
            · rw[hq]at e;injection e with e;obtain⟨y,f1,f2⟩:=ab0 hiq;exact absurd (hone j1 iq x y a.1 f1 (by omega)) (hne iq io' hiq c1)
            · exact⟨j2,x,b,hu, .inl ⟨rfl,fun e=>hj1 (hone j1 io' x x0 a.1 c2 (by omega))⟩⟩
          · rw[b1]at c1;injection c1 with c1;subst c1;rw[b2]at c2;injection c2 with c2;subst c2;have hat:(H.take s).2.At io xo d:=⟨b2,by
             have hdl:(H.take s).2.ds.length=(H.take s).2.blks.length:=hd.take;have:io<(H.take s).2.ds.length:=by rw[hdl];exact aaG b2
             rw[b3,List.getD_eq_getElem?_getD,List.getElem?_eq_getElem this];rfl⟩
            rcases aiu hd hfr hat c3 with e | ⟨j2,b⟩
            · rw[hq]at e;injection e with e;exact absurd e.symm c4
            · exact⟨j2,xo,b,c3, .inr ⟨e2,by show x.off=q;omega⟩⟩
end
def au0 (bs:List UInt8) (H:Hp):Prop:=∀j x d,H.At j x d->x.used=true->d.2.length+16=x.size/\∀k,k<d.2.length->bs[x.off+8+k]?=d.2[k]?
structure RtD (bs:List UInt8) (H:Hp):Prop where
 rt:Rt bs H
 dl:H.Dl
 ho:au0 bs H
section
variable {bs out:List UInt8} {H H':Hp} {s:Nat}
theorem Rt.sz (h:Rt bs H){x:Bk}(hx:x∈H.blks):184<=x.off/\32<=x.size/\x.size<=16384/\x.off+x.size<=bs.length:=by
 have:=(aak _ _ _ (aaj h.walk).2.1).2 x hx;have sz:=(aac _).1 this.2.2.1;omega
theorem Rt.apart (h:Rt bs H){x y:Bk}(hx:x∈H.blks) (hy:y∈H.blks) (hne:x.off≠y.off):x.off+x.size<=y.off\/y.off+y.size<=x.off:=by
 rcases aaL _ _ _ (aaj h.walk).2.1 x hx y hy with e | e | e
 · exact absurd (by rw[e]) hne
 · exact .inl e
 · exact .inr e
theorem RtD.keep (h:RtD bs H) (hh:Held H bs H' out){x:Bk}{d:Dt}{j:Nat}(ha:H.At j x d) (hu:x.used=true) (hx:x∈H'.blks):d.2.length+16=x.size/\∀k,k<d.2.length->out[x.off+8+k]?=d.2[k]?:=by
 obtain⟨h1,h2⟩:=h.ho j x d ha hu;have hm:=List.mem_of_getElem? ha.1;refine⟨h1,fun k hk=> ?_⟩;rw[hh x hm hu x hx hu rfl (x.off+8+k) (by omega) (by omega) (by omega)];exact h2 k hk
theorem RtD.freed (h:RtD bs H){i:Nat}(hi:i<H.blks.length) (h':Rt out (H.give i)) (hh:Held H bs (H.give i) out):RtD out (H.give i):=
 ⟨h',h.dl.give,fun j x d ha hu=>by
  obtain⟨j',_,hb⟩:=ait hi ha hu;exact h.keep hh hb hu (List.mem_of_getElem? ha.1)⟩
theorem ak1 (b:List UInt8) (d:Nat) (cs:List UInt8) (hd:d+cs.length<=b.length) (q:Nat) (hq:q<d\/d+cs.length<=q):(lay b d cs)[q]?=b[q]?:=by
 unfold lay;rcases hq with h | h
 · rw[List.getElem?_append_left (by rw[List.length_take];omega),List.getElem?_take_of_lt h]
 · rw[List.getElem?_append_right (by rw[List.length_take];omega),List.length_take,List.getElem?_append_right (by omega),List.getElem?_drop];congr 1;omega
theorem RtD.fills (h':Rt out H') (hd:H'.Dl){i:Nat}{y:Bk}(hy:H'.blks[i]?=some y) (hyu:y.used=true) (V:Value){L:List UInt8}(hL:L.length+16=y.size){b2:List UInt8}(hag:ahw out b2 y) (hb2:∀k,k<L.length->b2[y.off+8+k]?=L[k]?)
 (hoth:∀j x d,H'.At j x d->x.used=true->j≠i->d.2.length+16=x.size/\∀k,k<d.2.length->out[x.off+8+k]?=d.2[k]?):RtD b2 (H'.dset i (V,L)):=by
 have hym:=List.mem_of_getElem? hy;have hf:=h'.fill hym hyu hag;refine⟨⟨hf.walk,hf.all_,hf.chk,hf.len⟩,by show(H'.ds.set i _).length=_;rw[List.length_set];exact hd,fun j x d ha hu=> ?_⟩;obtain⟨a,b⟩:=ha;have a':H'.blks[j]?=some x:=a;have b:(H'.ds.set i (V,L))[j]?=some d:=b;by_cases e:j=i
 · subst e;obtain rfl:y=x:=Option.some.inj (hy.symm.trans a');have hl:j<H'.ds.length:=by have:=aaG b;rwa [List.length_set]at this
   rw[List.getElem?_set_self hl]at b;injection b with b;subst b;exact⟨hL,hb2⟩
 · rw[List.getElem?_set_ne (fun e'=>e e'.symm)]at b;obtain⟨c1,c2⟩:=hoth j x d ⟨a',b⟩ hu e;refine⟨c1,fun k hk=> ?_⟩;rw[<-c2 k hk];have hxm:=List.mem_of_getElem? a';have hap:=h'.apart hxm hym (fun e'=>e (h'.one _ _ _ _ a' hy e'));exact hag.2 _ (by omega)
theorem ani (b:List UInt8) (x:Bk):ahw b b x:=⟨rfl,fun _ _=>rfl⟩
theorem ajI (H:Hp) (i:Nat):((H.wipe i).ds.getD i aco).2= []:=by
 show((H.ds.set i aco).getD i aco).2= [];rw[List.getD_eq_getElem?_getD,List.getElem?_set];split
 · split<;>rfl
 · rename_i e;exact absurd rfl e
theorem RtD.got (h:RtD bs H){o:Nat}(hs:aaD (s:Int)=true) (hq:(H.take s).1=some o) (h1:Rt out (H.take s).2) (hh:Held H bs (H.take s).2 out) (v:UInt8):
 ∃i y,atB (o:Int) (H.take s).2.blks=some i/\(H.take s).2.blks[i]?=some y/\y.off=o/\y.used=true/\s<=y.size/\y.off+y.size<=out.length/\RtD (lay out (o+8) (List.replicate (y.size-16) v)) (((H.take s).2.wipe i).fill i v):=by
 obtain⟨y,y1,y2,y3,y4,y5,y6⟩:=h.rt.what hs hq;obtain⟨i,hi⟩:=ae6 y1;rw[y2]at hi;obtain⟨y',e1,e2⟩:=ab0 hi;obtain⟨k,hk⟩:=List.mem_iff_getElem?.1 y1;obtain rfl:i=k:=h1.one _ _ _ _ e1 hk (by omega);have hsz:=h1.sz y1;refine⟨i,y,hi,hk,y2,y3,y4,hsz.2.2.2,?_⟩;unfold Hp.fill;rw[ajI];have eb:aam ((H.take s).2.wipe i).blks i=y:=aa6 (show(H.take s).2.blks[i]?=some y from hk);rw[eb];have eL:agW [] (y.size-16) v=List.replicate (y.size-16) v:=by unfold agW;simp
 rw[eL];have hll:(List.replicate (y.size-16) v).length=y.size-16:=List.length_replicate;refine RtD.fills (H':=(H.take s).2.wipe i) (y:=y) ⟨h1.walk,h1.all_,h1.chk,h1.len⟩ ?_ hk y3 _ (by omega) (adV (x:=y) _ _ (by omega) (by omega) (by omega)) (fun k hk2=> ?_) (fun j x d ha hu hne=> ?_)
 · show((H.take s).2.ds.set i aco).length=_;rw[List.length_set];exact h.dl.take
 · rw[show y.off+8+k=o+8+k by omega];exact ahz out (o+8) _ (by omega) k hk2
 · have ha:=aps ha hne;rcases aiu h.dl (fun j hj=>by obtain⟨a,_,c⟩:=h.rt.found hs hj;exact⟨a,c⟩) ha hu with e | ⟨j',hb⟩
   · rw[hq]at e;injection e with e;exact absurd (h1.one _ _ _ _ ha.1 hk (by omega)) hne
   · exact h.keep hh hb hu (List.mem_of_getElem? ha.1)
theorem afr{o:Int}(he:(H.resize o s).1.2=0):((H.resize o s).1.1:Int)=o\/(H.take s).1=some (H.resize o s).1.1:=by
 unfold Hp.resize at he ⊢;split
 · rename_i hn;rw[hn]at he;cases he
 · rename_i i hi;obtain⟨h1,h2,h3⟩:=acL hi;rw[hi]at he;dsimp only at he;split
   · exact .inl h2
   · rename_i a;rw[if_neg a]at he;split
     · exact .inl h2
     · rename_i b;rw[if_neg b]at he;split
       · exact .inl h2
       · rename_i c;rw[if_neg c]at he;split
         · rename_i d;rw[d]at he;cases he
         · rename_i d;exact .inr d
theorem Rt.movesU (h:Rt bs H) (hs:aaD (s:Int)=true){o:Int}(hT:(H.take s).2.One):∀i q,aaY H.blks o=some i->(H.take s).1=some q->(∃iq,atB (q:Int) (H.take s).2.blks=some iq)/\∃io x0,atB o (H.take s).2.blks=some io/\aaY (H.take s).2.blks o=some io/\(H.take s).2.blks[io]?=some x0/\x0.used=true/\x0.off≠q:=fun i q hu hq=>by
 obtain⟨iq,io,h1,h2⟩:=h.moves hs i q hu hq;obtain⟨i1,i2,i3⟩:=acL hu;have ht:abr 184 H.blks (Go.Proofs.YtncadccbepjekaaGreatDoor.lenB H.blks):=by rw[h.lenE];exact(aaj h.walk).2.1
 have hm:aam H.blks i∈H.blks:=List.mem_of_getElem? (aar i1);have hm2:=afQ (s:=s) ht hs (fun j hj=>by obtain⟨a,_,c⟩:=h.found hs hj;exact⟨a,c⟩) hm i3;obtain⟨x,e1,e2⟩:=ab0 h2;obtain⟨k,hk⟩:=List.mem_iff_getElem?.1 hm2;obtain rfl:io=k:=hT _ _ _ _ e1 hk (by omega);obtain rfl:x=aam H.blks i:=Option.some.inj (e1.symm.trans hk);obtain⟨y,y1,y2,y3,y4,y5,y6⟩:=h.what hs hq;have sx:=(aac _).1 ((aak _ _ _ ht).2 _ hm).2.2.1;have ss:=(aac _).1 hs;refine⟨⟨iq,h1⟩,io,aam H.blks i,h2,?_,e1,i3,fun e=> ?_⟩
 · unfold aaY;rw[h2];dsimp only;rw[aa6 e1,if_pos i3]
 · have:=y6 _ hm i3;omega
theorem RtD.resized (h:RtD bs H) (hok:H.Ok) (hT:(H.take s).2.One) (hs:aaD (s:Int)=true){o:Int}(he:(H.resize o s).1.2=0) (h1:Rt out (H.resize o s).2) (hh:Held H bs (H.resize o s).2 out) (hm:aiv H bs o (H.resize o s).2 out (H.resize o s).1.1) (v:UInt8):
 ∃i y j x0 d,atB ((H.resize o s).1.1:Int) (H.resize o s).2.blks=some i/\(H.resize o s).2.blks[i]?=some y/\y.off=(H.resize o s).1.1/\y.used=true/\s<=y.size/\y.off+y.size<=out.length/\H.At j x0 d/\x0.used=true/\(x0.off:Int)=o/\d.2.length+16=x0.size/\
  (∀k,k<d.2.length->k+16<y.size->out[y.off+8+k]?=d.2[k]?)/\∀b2,ahw out b2 y->(∀k,k<y.size-16->b2[y.off+8+k]?=(agW d.2 (y.size-16) v)[k]?)->RtD b2 ((H.resize o s).2.fill i v):=by
 obtain⟨y,y1,y3,y2,y4⟩:=h.rt.rezHas hok hs he;obtain⟨i,hi⟩:=ae6 y1;rw[y2]at hi;obtain⟨y',e1,e2⟩:=ab0 hi;obtain⟨k,hk⟩:=List.mem_iff_getElem?.1 y1;obtain rfl:i=k:=h1.one _ _ _ _ e1 hk (by omega);have hsz:=h1.sz y1;have hdl:(H.resize o s).2.ds.length=(H.resize o s).2.blks.length:=h.dl.resize;have hil:i<(H.resize o s).2.ds.length:=by rw[hdl];exact aaG hk
 have hfr:=fun j hj=>by obtain⟨a,_,c⟩:=h.rt.found (s:=s) (i:=j) hs hj;exact(⟨a,c⟩:j<H.blks.length/\(aam H.blks j).used=false)
 have hmv:=h.rt.movesU hs (o:=o) hT;obtain⟨j,x0,a,au,hx⟩:=ajH h.dl h.rt.one he hfr hT hmv (j:=i) (x:=y) (d:=(H.resize o s).2.ds[i]) ⟨hk,List.getElem?_eq_getElem hil⟩ y3;have hx0:(x0.off:Int)=o:=by
  rcases hx with⟨e,hne⟩ | ⟨e,_⟩
  · exfalso;subst e;rcases afr he with e | e
    · omega
    · obtain⟨z,z1,z2,z3,z4,z5,z6⟩:=h.rt.what hs e;have hap:=z6 x0 (List.mem_of_getElem? a.1) au;have:=h.rt.sz (List.mem_of_getElem? a.1);have ss:=(aac _).1 hs;omega
  · exact e
 obtain⟨c1,c2⟩:=h.ho j x0 _ a au;have hpay:∀k,k<(H.resize o s).2.ds[i].2.length->k+16<y.size->out[y.off+8+k]?=(H.resize o s).2.ds[i].2[k]?:=fun k k1 k2=>by
  have:=hm x0 (List.mem_of_getElem? a.1) au hx0 y y1 y3 y2 (8+k) (by omega) (by omega) (by omega);rw[y2,show(H.resize o s).1.1+8+k=(H.resize o s).1.1+(8+k) by omega,this,show x0.off+(8+k)=x0.off+8+k by omega];exact c2 k k1
 refine⟨i,y,j,x0,(H.resize o s).2.ds[i],hi,hk,y2,y3,y4,hsz.2.2.2,a,au,hx0,c1,hpay,fun b2 hag hb2=> ?_⟩;unfold Hp.fill;have eb:aam (H.resize o s).2.blks i=y:=aa6 hk;have ed:(H.resize o s).2.ds.getD i aco=(H.resize o s).2.ds[i]:=by rw[List.getD_eq_getElem?_getD,List.getElem?_eq_getElem hil];rfl
 rw[eb,ed];have hL:=apq (H.resize o s).2.ds[i].2 (y.size-16) v;refine RtD.fills h1 hdl hk y3 _ (by omega) hag (fun k hk2=>hb2 k (by omega)) (fun j2 x d ha hu hne=> ?_);obtain⟨j3,x3,a3,au3,hx3⟩:=ajH h.dl h.rt.one he hfr hT hmv ha hu;rcases hx3 with⟨rfl,hne3⟩ | ⟨_,e3⟩
 · exact h.keep hh a3 au3 (List.mem_of_getElem? ha.1)
 · exact absurd (h1.one _ _ _ _ ha.1 hk (by omega)) hne
theorem RtD.wrote (h:RtD bs H){i:Nat}{x:Bk}{d:Dt}(ha:H.At i x d) (hu:x.used=true) (V:Value) (p:Nat) (b:List UInt8) (hp:p+b.length<=d.2.length):RtD (lay bs (x.off+8+p) b) (H.dset i (V,lay d.2 p b)):=by
 obtain⟨c1,c2⟩:=h.ho i x d ha hu;have hsz:=h.rt.sz (List.mem_of_getElem? ha.1);have hll:(lay d.2 p b).length=d.2.length:=by
  unfold lay;simp only[List.length_append,List.length_take,List.length_drop];omega
 refine RtD.fills h.rt h.dl ha.1 hu V (by omega) (adV (x:=x) _ _ (by omega) (by omega) (by omega)) (fun k hk=> ?_) (fun j z e hz hzu _=>h.ho j z e hz hzu);rw[hll]at hk;by_cases e:k<p\/p+b.length<=k
 · rw[ak1 bs _ b (by omega) _ (by omega),ak1 d.2 p b hp k e];exact c2 k hk
 · rw[show x.off+8+k=x.off+8+p+(k-p) by omega,ahz bs _ b (by omega) (k-p) (by omega)];have:=ahz d.2 p b (by omega) (k-p) (by omega);rw[show p+(k-p)=k by omega]at this;exact this.symm
end
def aed (cap:Nat):Hp:=⟨cap,[],[],fun _=> []⟩
theorem asW{z:List UInt8}(hz:List.replicate 184 (0:UInt8)=z) (cap:Nat) (hc:184<=cap):Rt z ⟨cap,[],[],fun _=> []⟩:=by
 have hl:z.length=184:=by rw[<-hz];exact List.length_replicate
 have hw0:∀p,p+8<=184->p%8=0->aaf z p=0:=fun p hp _=>by
  have:=adj [] 184 p hp;rw[List.append_nil,hz]at this;exact this
 have hwk:abA z=some []:=ac0 (by rw[hl];rfl) (fun x hx=>by cases hx);have hli:Lists z [] (fun _=> []):=ae3 (by omega) (by omega) ⟨fun x hx=>(by cases hx),fun x hx=>(by cases hx)⟩ hw0;refine⟨hwk,fun c hc=>hli.all hc (Nat.zero_le _),?_,by show z.length<=cap;omega⟩;have e:aa5 []=fun _=> []:=rfl;rw[afl hwk (by rw[e];exact hli) (by rw[hw0 0 (by omega) rfl];omega)];rfl
theorem arq{z:List UInt8}(hz:List.replicate 184 (0:UInt8)=z) (cap:Nat) (hc:184<=cap):RtD z (aed cap):=
 ⟨asW hz cap hc,rfl,fun j x d ha=>by have h:=ha.1;cases h⟩
theorem amf:∀(l:List Bk) (o e:Nat),abr o l e->o+l.length*32<=e
 | [],o,e,h=>by simp[abr]at h;simp;omega
 | x::r,o,e,h=>by
  obtain⟨h1,h2,h3⟩:=h;have:=amf r _ e h3;have q:=(aac _).1 h2;rw[List.length_cons];omega
def avt (bs:List UInt8) (l:List Bk):List Dt:=l.map fun x=>(.slice none 0 0,(bs.drop (x.off+8)).take (x.size-16))
theorem at2{bs:List UInt8}{cap:Nat}(hk:ab8 bs=true) (hl:bs.length<=cap):∃H:Hp,RtD bs H/\H.cap=cap:=by
 have hk':=hk;unfold ab8 at hk
 cases hw:abA bs with
 | none=>rw[hw]at hk;cases hk
 | some l=>
  rw[hw]at hk;simp only[Bool.and_eq_true]at hk;have ht:=(aaj hw).2.1;refine⟨⟨cap,l,avt bs l,fun c=>(afk bs c).getD []⟩,⟨⟨hw,fun c hc=> ?_,hk',hl⟩,List.length_map _,fun j x d ha _=> ?_⟩,rfl⟩
  · obtain⟨al,h1,_⟩:=aeA 22 0 _ hk.2.2 c (Nat.zero_le _) (by omega);show afk bs c=some ((afk bs c).getD []);rw[h1];rfl
  · obtain⟨h1,h2⟩:=ha;have h1:l[j]?=some x:=h1;have h2:(l.map fun x=>((.slice none 0 0,(bs.drop (x.off+8)).take (x.size-16)):Dt))[j]?=some d:=h2;rw[List.getElem?_map,h1]at h2;injection h2 with h2;subst h2;have hm:=(aak _ _ _ ht).2 x (List.mem_of_getElem? h1);have hq:=(aac _).1 hm.2.2.1;refine⟨?_,fun k hk=> ?_⟩
    · dsimp only;rw[List.length_take,List.length_drop];omega
    · dsimp only at hk ⊢;rw[List.length_take]at hk;rw[List.getElem?_take_of_lt (by omega),List.getElem?_drop]
def aaS:List Bk->Nat × Nat × Nat
 | []=>(0,0,0)
 | x::r=>if x.used=true then ((aaS r).1+1,(aaS r).2.1,(aaS r).2.2+(x.size-16)) else ((aaS r).1,(aaS r).2.1+1,(aaS r).2.2)
structure St5 where
 used:Nat
 free:Nat
 bytes:Nat
 len:Nat
 cap:Nat
def St5.none:St5:=⟨0,0,0,0,0⟩
def Hp.stats (H:Hp):St5:=⟨(aaS H.blks).1,(aaS H.blks).2.1,(aaS H.blks).2.2,lenB H.blks,H.cap⟩
structure Rp where
 code:Int
 hd:Nat
 n:Nat
 b:List UInt8
 st:St5
def Rp.err (k:Int):Rp:=⟨k,0,0,[],St5.none⟩
def Hp.heldC (H:Hp) (op:Int) (q n p:Nat) (b:List UInt8):Rp × Hp:=match H.handleB q with
 | none=>(Rp.err 4,H)
 | some i=>if op=5 then (⟨0,0,(H.ds.getD i aco).2.length,[],St5.none⟩,H)
  else if (H.ds.getD i aco).2.length<p+(if op=7 then b.length else n) then (Rp.err 2,H)
  else if op=6 then (⟨0,0,0,((H.ds.getD i aco).2.drop p).take n,St5.none⟩,H)
  else (Rp.err 0,H.dset i ((H.ds.getD i aco).1,lay (H.ds.getD i aco).2 p b))
def apv (r:(Nat × Int) × Hp):Rp × Hp:=(⟨r.1.2,r.1.1,0,[],St5.none⟩,r.2)
def Hp.doC (H:Hp) (op:Int) (q n m p:Nat) (b:List UInt8):Rp × Hp:=
 if op=1 then apv (H.get n 165)
 else if op=2 then apv (H.calloc n m)
 else if op=3 then match H.handleB q with
  | none=>(Rp.err 4,H)
  | some i=>(Rp.err 0,H.give i)
 else if op=4 then apv (H.realloc q n)
 else if op=5\/op=6\/op=7 then H.heldC op q n p b
 else if op=8 then (⟨0,0,0,[],H.stats⟩,H)
 else (Rp.err 1,H)
section
variable {H:Hp}
end
theorem acw{bs:List UInt8}{x:Bk}(hs:aaD (x.size:Int)=true) (h:x.off+x.size<=bs.length) (i:Nat) (hi:(i<x.off\/x.off+8<=i)/\(i<x.off+x.size-8\/x.off+x.size<=i)):(aaT bs x)[i]?=bs[i]?:=by
 have hs:=(aac _).1 hs;have e:=aah bs x.off (anR x) (by omega);unfold aaT;rw[adI _ _ _ _ (by omega) (by omega),adI _ _ _ _ (by omega) (by omega)]
section
variable {bs:List UInt8} {P Q:List Bk} {L:Nat->List Nat}
theorem Lists.set (h:Lists bs P L){x:Bk}(x1:184<=x.off) (x2:x.off%16=8) (x3:x.off+x.size<=bs.length) (hs:aaD (x.size:Int)=true)
 (hQ:∀y∈Q,y=x\/(y∈P/\(y.off+y.size<=x.off\/x.off+x.size<=y.off)))
 (hL:∀c,c<22->∀o∈L c,∃y∈Q,y∈P/\y.off=o/\(y.off+y.size<=x.off\/x.off+x.size<=y.off)):Lists (aaT bs x) Q L:=by
 have hl:=aa4 hs x3;have hlen:=h.len;have sz:=(aac _).1 hs;refine⟨by omega,by rw[hl];exact h.small,⟨fun y hy=> ?_,fun y hy z hz=> ?_⟩,fun c hc=> ?_,fun c hc=> ?_,fun c hc o ho=> ?_,fun c hc=> ?_,h.nodup⟩
 · rcases hQ y hy with rfl | ⟨hy,hd⟩
   · exact aof x1 x2 x3 hs
   · exact ai5 hs x3 (h.st.at_ y hy) hd
 · rcases hQ y hy with rfl | ⟨hy,hd⟩
   · rcases hQ z hz with rfl | ⟨hz,hd⟩
     · exact .inl rfl
     · exact .inr hd.symm
   · rcases hQ z hz with rfl | ⟨hz,_⟩
     · exact .inr hd
     · exact h.st.apart y hy z hz
 · rw[aaQ hs x3 _ (by omega)];exact h.head c hc
 · rw[aaQ hs x3 _ (by omega)];exact h.bit c hc
 · obtain⟨y,hy,hyP,e,hd⟩:=hL c hc o ho;obtain⟨z,hz,ez,hu,hcl⟩:=h.mem c hc o ho;have:=h.st.uniq hyP hz (by omega);subst this;exact⟨y,hy,e,hu,hcl⟩
 · refine abP (L c) 0 0 (fun o ho=> ?_) (h.links c hc);obtain⟨y,hy,hyP,e,hd⟩:=hL c hc o ho;have hf:=h.st.facts hyP;exact⟨aaQ hs x3 _ (by omega),aaQ hs x3 _ (by omega)⟩
theorem afR (bs:List UInt8) (n i:Nat) (h:i<bs.length):(bs++List.replicate n (0:UInt8))[i]?=bs[i]?:=List.getElem?_append_left h
theorem ab4 (bs:List UInt8) (n p:Nat) (h:p+8<=bs.length):aaf (bs++List.replicate n 0) p=aaf bs p:=aaJ _ _ _ fun i _ h2=>afR bs n i (by omega)
theorem Lists.more (h:Lists bs P L) (n:Nat) (hn:bs.length+n<=16384):Lists (bs++List.replicate n 0) P L:=by
 have hlen:=h.len;have hl:(bs++List.replicate n (0:UInt8)).length=bs.length+n:=by rw[List.length_append,List.length_replicate]
 refine⟨by omega,by omega,⟨fun y hy=> ?_,h.st.apart⟩,fun c hc=> ?_,fun c hc=> ?_,h.mem,fun c hc=> ?_,h.nodup⟩
 · obtain⟨_,g1,g2,g3,g4,g5,g6⟩:=aaw (h.st.at_ y hy);have q:=(aac _).1 g4;refine akw g1 g2 (by omega) ?_ ?_
   · rw[ab4 _ _ _ (by omega)];exact g5
   · rw[ab4 _ _ _ (by omega),ab4 _ _ _ (by omega)];exact g6
 · rw[ab4 _ _ _ (by omega)];exact h.head c hc
 · rw[ab4 _ _ _ (by omega)];exact h.bit c hc
 · refine abP (L c) 0 0 (fun o ho=> ?_) (h.links c hc);obtain⟨_,y,hyP,e,_⟩:=h.member hc ho;have hf:=h.st.facts hyP;exact⟨ab4 _ _ _ (by omega),ab4 _ _ _ (by omega)⟩
end
theorem ahA{bs:List UInt8}{p:Nat}{c:Int}(h:aao bs p c=true):184<=p/\p+32<=bs.length:=by
 unfold aao at h
 cases hg:aa2 bs (p:Int)with
 | none=>rw[hg]at h;simp at h
 | some y=>
  obtain⟨r0,r1,_,r3,r4,_⟩:=aaw hg;have q:=(aac _).1 r4;omega
theorem ahB{bs out:List UInt8}{o:Int}(hl:184<=bs.length) (h:aee bs o=some out):aaf out 0/4194304=aaf bs 0/4194304:=by
 unfold aee at h;by_cases hf:aaX bs o<0
 · rw[if_pos hf]at h;cases h
 rw[if_neg hf]at h;have hb:aaX bs o<22:=by
  unfold aaX;split
  · rename_i x _;have:=acs (x.size:Int);split<;>omega
  · omega
 obtain⟨c,hcc⟩:=nmE ((aaX bs o).toNat);have hc22:c<22:=by omega
 rw[hcc]at h;dsimp only at h;obtain⟨n,hn⟩:=nmE (aaf bs (o.toNat+8));obtain⟨p,hp⟩:=nmE (aaf bs (o.toNat+16));rw[hn,hp]at h;split at h
 · cases h
 split at h
 · cases h
 rename_i hp2;split at h
 · cases h
 rename_i hn2;injection h with h;have hpm:p≠0->184<=p/\p+32<=bs.length:=fun e=>by
  cases hm:aao bs p (c:Int)with
  | true=>exact ahA hm
  | false=>exact absurd ⟨e, .inl hm⟩ hp2
 have hnm:n≠0->184<=n/\n+32<=bs.length:=fun e=>by
  cases hm:aao bs n (c:Int)with
  | true=>exact ahA hm
  | false=>exact absurd ⟨e, .inl hm⟩ hn2
 obtain⟨b1,hb1⟩:∃b1,(if p=0 then lyN bs (8+8*c) n else lyN bs (p+8) n)=b1:=⟨_,rfl⟩;have f1:b1.length=bs.length/\aaf b1 0=aaf bs 0:=by
  rw[<-hb1];by_cases e:p=0
  · rw[if_pos e];exact⟨aah _ _ _ (by omega),aax _ _ _ _ (by omega) (by omega)⟩
  · have:=hpm e;rw[if_neg e];exact⟨aah _ _ _ (by omega),aax _ _ _ _ (by omega) (by omega)⟩
 rw[hb1]at h;obtain⟨b2,hb2⟩:=nmE ((if n≠0 then lyN b1 (n+16) p else b1));have f2:b2.length=bs.length/\aaf b2 0=aaf bs 0:=by
  rw[<-hb2];by_cases e:n≠0
  · have:=hnm e;rw[if_pos e];exact⟨(aah _ _ _ (by omega)).trans f1.1,(aax _ _ _ _ (by omega) (by omega)).trans f1.2⟩
  · rw[if_neg e];exact f1
 rw[hb2]at h;obtain⟨b3,hb3⟩:∃b3,(if p≠0/\(aaf bs (8+8*c):Int)=o then lyN b2 (8+8*c) n else b2)=b3:=⟨_,rfl⟩;have f3:b3.length=bs.length/\aaf b3 0=aaf bs 0:=by
  rw[<-hb3];by_cases e:p≠0/\(aaf bs (8+8*c):Int)=o
  · rw[if_pos e];exact⟨(aah _ _ _ (by omega)).trans f2.1,(aax _ _ _ _ (by omega) (by omega)).trans f2.2⟩
  · rw[if_neg e];exact f2
 rw[hb3]at h;rw[<-h,ahe _ c hc22 (by omega),f3.2]
theorem amg:∀(l:List Bk) (o e:Nat),abr o l e->l.length*32+o<=e
 | [],o,e,h=>by have:o=e:=h;simp;omega
 | x::r,o,e,⟨_,b,c⟩=>by
  have q:=(aac _).1 b;have:=amg r _ e c;rw[List.length_cons];omega
theorem ak2{l:List Bk}{o e:Nat}(ht:abr o l e) (c:Nat):(aa5 l c).Nodup:=by
 unfold aa5;have h:=adi l o e ht;refine List.pairwise_map.2 (List.Pairwise.filter _ (List.pairwise_reverse.2 (h.imp fun h=>h.symm)))
theorem ad8{bs:List UInt8}{c:Nat}:∀(k last p:Nat) (l:List Nat),aes bs c k last p=some l->aod bs last l 0/\l.headD 0=p
 | k,last,p,l,h=>by
  unfold aes at h;by_cases hp:p=0
  · rw[if_pos hp]at h;injection h with h;subst h;exact⟨trivial,hp.symm⟩
  · rw[if_neg hp]at h
    cases k with
    | zero=>cases h
    | succ k=>
     dsimp only at h;split at h
     · rename_i hc
       cases hr:aes bs c k p (aaf bs (p+8))with
       | none=>rw[hr]at h;cases h
       | some r=>
        rw[hr]at h;injection h with h;subst h;obtain⟨i1,i2⟩:=ad8 k _ _ r hr;exact⟨⟨hc.2,i2.symm,i1⟩,rfl⟩
     · cases h
structure Md (bs:List UInt8) (H:Hp):Prop where
 tl:abr 184 H.blks bs.length
 ls:Lists bs H.blks H.lists
 hi:aaf bs 0<4194304
 len:bs.length<=H.cap
theorem Rt.md{bs:List UInt8}{H:Hp}(h:Rt bs H) (hc:H.cap<=16384):Md bs H:=by
 obtain⟨w1,w2,w3⟩:=aaj h.walk;obtain⟨n1,_,_⟩:=h.nfree;have hl:=h.len;have hk:=h.chk;unfold ab8 at hk;rw[h.walk]at hk;simp only[Bool.and_eq_true]at hk;have h0:aaf bs 0<4194304:=by
  have e0:anQ bs 0=aaf bs 0:=by unfold anQ word?;rw[if_pos (by omega)];rfl
  rw[<-e0];exact of_decide_eq_true hk.1
 refine⟨w2,⟨w1,by omega,⟨w3,aaL _ _ _ w2⟩,fun c hc=> ?_,fun c hc=> ?_,fun c hc o ho=>abt ((n1 c hc).2 o ho),fun c hc=> ?_,fun c hc=>(n1 c hc).1⟩,h0,hl⟩
 · exact(ad8 _ _ _ _ (ah5 (h.all_ c hc)).2).2.symm
 · obtain⟨b1,b2⟩:=ah5 (h.all_ c hc);have e:=(ad8 _ _ _ _ b2).2;rw[b1,<-e]
   cases hL:H.lists c with
   | nil=>rfl
   | cons o r=>
    obtain⟨x,hx,ex,_⟩:=abt ((n1 c hc).2 o (by rw[hL];simp));have:=((aak _ _ _ w2).2 x hx).1;have:o≠0:=by omega
    simp[this]
 · exact(ad8 _ _ _ _ (ah5 (h.all_ c hc)).2).1
theorem ajJ{bs:List UInt8}{l:List Bk}{L:Nat->List Nat}(h:Lists bs l L) (hl:∀c,c<22->(L c).length<=1024) (hn:∀c,c<22->(L c).length=(aa5 l c).length):∀(k c:Nat) (fr:Int),c+k=22->afF bs l k c fr=(fr-ae5 l k c==0)
 | 0,c,fr,_=>by unfold afF ae5;simp
 | k+1,c,fr,hc=>by
  have ha:=h.all (c:=c) (by omega) (hl c (by omega));have hok:(L c).all (okO l (L c))=true:=by
   rw[List.all_eq_true];intro o ho;unfold okO acr;rw[Bool.and_eq_true];constructor
   · rw[List.any_eq_true];obtain⟨x,hx,e,hu,_⟩:=h.mem c (by omega) o ho;exact⟨x,hx,by simp[e,hu]⟩
   · rw[List.Nodup.count (h.nodup c (by omega)),if_pos ho];rfl
  unfold afF;rw[ha];dsimp only;rw[hok,Bool.true_and,ajJ h hl hn k (c+1) _ (by omega)];have e:fr-(ae5 l (k+1) c:Nat)=fr-((L c).length:Int)-(ae5 l k (c+1):Nat):=by
   have:ae5 l (k+1) c=(aa5 l c).length+ae5 l k (c+1):=rfl;have:=hn c (by omega);omega
  rw[e]
theorem Md.sub{bs:List UInt8}{H:Hp}(h:Md bs H){c:Nat}(hc:c<22):∀o∈H.lists c,o∈aa5 H.blks c:=fun o ho=>by
 obtain⟨x,hx,e,hu,hcl⟩:=h.ls.mem c hc o ho;rw[<-e];exact aa9 hx hu hcl
theorem Md.small{bs:List UInt8}{H:Hp}(h:Md bs H){c:Nat}(hc:c<22):(H.lists c).length<=1024:=by
 have h1:=aeP (h.ls.nodup c hc) (h.sub hc);have h2:=ai9 H.blks c;have h3:=amg _ _ _ h.tl;have h4:=h.ls.small;omega
theorem Md.rt{bs:List UInt8}{H:Hp}(h:Md bs H) (hF:∀c,c<22->∀o∈aa5 H.blks c,o∈H.lists c) (hn:adx H.blks=true):Rt bs H:=by
 have hw:abA bs=some H.blks:=ac0 h.tl h.ls.st.at_;have hlen:=h.ls.len;refine⟨hw,fun c hc=>h.ls.all hc (h.small hc),?_,h.len⟩;have e0:anQ bs 0=aaf bs 0:=by unfold anQ word?;rw[if_pos (by omega)];rfl
 have hnn:∀c,c<22->(H.lists c).length=(aa5 H.blks c).length:=fun c hc=>Nat.le_antisymm (aeP (h.ls.nodup c hc) (h.sub hc)) (aeP (ak2 h.tl c) (hF c hc));have hm:=(aak _ _ _ h.tl).2;unfold ab8;rw[hw];dsimp only;rw[e0,decide_eq_true h.hi,hn,Bool.true_and,Bool.true_and,ajJ h.ls (fun c hc=>h.small hc) hnn 22 0 _ rfl,ah4 H.blks (fun x hx=>(hm x hx).2.2.1),Int.sub_self];rfl
def afz:Bool->List Bk->Bool
 | _,[]=>true
 | u,x::r=>(u || x.used)&&afz x.used r
def ajK:Bool->List Bk->Bool
 | u,[]=>u
 | _,x::r=>ajK x.used r
theorem abz:∀(a b:List Bk) (u:Bool),afz u (a++b)=(afz u a&&afz (ajK u a) b)
 | [],b,u=>by simp[afz,ajK]
 | x::r,b,u=>by simp only[List.cons_append,afz,ajK];rw[abz r b x.used,Bool.and_assoc]
theorem agv:∀(a b:List Bk) (u:Bool),ajK u (a++b)=ajK (ajK u a) b
 | [],_,_=>rfl
 | x::r,b,_=>agv r b x.used
theorem aeQ{l:List Bk}{j:Nat}{y:Bk}(h:l[j]?=some y):ac1 l j=y.used:=by unfold ac1;rw[h]
theorem amh:∀(l:List Bk) (u:Bool),afz u l=true ↔ (∀y,l[0]?=some y->u=true\/y.used=true)/\∀j,j+1<l.length->ac1 l (j+1)=true\/ac1 l j=true
 | [],u=>by simp[afz]
 | x::r,u=>by
  unfold afz;rw[Bool.and_eq_true,Bool.or_eq_true,amh r x.used];constructor
  · rintro⟨h1,h2,h3⟩;refine⟨fun y hy=> ?_,fun j hj=> ?_⟩
    · injection hy with hy;subst hy;exact h1
    · rw[List.length_cons]at hj
      cases j with
      | zero=>
       obtain⟨y,hy⟩:∃y,r[0]?=some y:=⟨_,List.getElem?_eq_getElem (by omega)⟩;rw[aeQ (y:=y) (by simpa using hy),aeQ (y:=x) rfl];exact(h2 y hy).symm
      | succ j=>exact h3 j (by omega)
  · rintro⟨h1,h2⟩;refine⟨h1 x rfl,fun y hy=> ?_,fun j hj=> ?_⟩
    · have hl:=aaG hy;have:=h2 0 (by rw[List.length_cons];omega);rw[aeQ (y:=y) (by simpa using hy),aeQ (y:=x) rfl]at this;exact this.symm
    · exact h2 (j+1) (by rw[List.length_cons];omega)
theorem aba (l:List Bk):adx l=afz true l:=by
 rw[Bool.eq_iff_iff,amh];unfold adx;rw[List.all_eq_true];constructor
 · intro h;refine⟨fun _ _=> .inl rfl,fun j hj=> ?_⟩;have:=h (j+1) (List.mem_range.2 hj);unfold ac2 at this;rw[Bool.or_eq_true,Bool.or_eq_true,Nat.add_sub_cancel]at this;rcases this with h1 | h1
   · simp at h1
   · exact h1
 · rintro⟨_,h⟩ j hj;have hj:=List.mem_range.1 hj;unfold ac2
   cases j with
   | zero=>rfl
   | succ j=>
    rw[Bool.or_eq_true,Bool.or_eq_true,Nat.add_sub_cancel];exact .inr (h j hj)
def tkL (L:Nat->List Nat) (y:Bk):Nat->List Nat:=agO L (afx y) ((L (afx y)).filter fun o=>o !=y.off)
def ptL (L:Nat->List Nat) (y:Bk):Nat->List Nat:=agO L (afx y) (y.off::L (afx y))
def tkO (L:Nat->List Nat):Option Bk->Nat->List Nat
 | none=>L
 | some y=>tkL L y
theorem adW (A:List Bk) (y:Bk) (B:List Bk):aam (A++y::B) A.length=y:=aa6 (by rw[List.getElem?_append_right (Nat.le_refl _),Nat.sub_self];rfl)
theorem ak3 (A:List Bk) (y z:Bk) (B:List Bk):aam (A++y::z::B) (A.length+1)=z:=aa6 (by rw[List.getElem?_append_right (by omega),show A.length+1-A.length=1 by omega];rfl)
theorem aeR{l:List Bk}{i:Nat}(hi:i<l.length):l=l.take i++aam l i::l.drop (i+1)/\(l.take i).length=i:=by
 refine⟨?_,by rw[List.length_take];omega⟩;have e:l.drop i=aam l i::l.drop (i+1):=by
  have h:=aar hi;rw[List.getElem?_eq_getElem hi]at h;injection h with h;rw[List.drop_eq_getElem_cons hi,h]
 rw[<-e,List.take_append_drop]
section
variable {H:Hp} {A B:List Bk} {y z:Bk} {i:Nat}
theorem agw (hb:H.blks=A++y::B) (u:Bool):(H.use A.length u).blks=A++{y with used:=u}::B:=by
 show H.blks.set A.length {aam H.blks A.length with used:=u}=_;rw[hb,adW,List.set_append_right _ _ (Nat.le_refl _),Nat.sub_self];rfl
theorem ami (hb:H.blks=A++y::B) (s:Nat):(H.size A.length s).blks=A++{y with size:=s}::B:=by
 show H.blks.set A.length {aam H.blks A.length with size:=s}=_;rw[hb,adW,List.set_append_right _ _ (Nat.le_refl _),Nat.sub_self];rfl
theorem aix (hb:H.blks=A++y::z::B):(H.join A.length).blks=A++{y with size:=y.size+z.size}::B:=by
 rw[acD H (i:=A.length) (by rw[hb];simp),hb,adW,ak3,List.take_left,show A++y::z::B=(A++ [y,z])++B by simp,List.drop_left' (by simp)]
theorem agx (hb:H.blks=A++y::B):(H.out A.length).lists=tkL H.lists y:=by
 show agO H.lists (afx (aam H.blks A.length)) _=_;rw[hb,adW];rfl
theorem asc (hb:H.blks=A++y::B):(H.in_ A.length).lists=ptL H.lists y:=by
 show agO H.lists (afx (aam H.blks A.length)) _=_;rw[hb,adW];rfl
end
theorem agy (A:List Bk) (x:Bk) (B:List Bk):acC (A++x::B) A.length=match B with
 | []=>false
 | n::_=> !n.used:=by
 unfold acC
 cases B with
 | nil=>simp
 | cons n r=>
  rw[ak3];simp
theorem ajL (A:List Bk) (p x:Bk) (B:List Bk):ah6 (A++p::x::B) (A.length+1)= !p.used:=by
 unfold ah6;rw[Nat.add_sub_cancel,adW];simp
structure ak4 (A1:List Bk) (p:Option Bk) (n:Option Bk) (B1:List Bk):Prop where
 pf:∀y,p=some y->y.used=false
 nf:∀y,n=some y->y.used=false
 pu:p=none->∀y r,A1=r++ [y]->y.used=true
 nu:n=none->∀y r,B1=y::r->y.used=true
theorem ak5 (A B:List Bk):∃A1 p n B1,A=A1++p.toList/\B=n.toList++B1/\ak4 A1 p n B1:=by
 have h1:∃A1 p,A=A1++p.toList/\(∀y,p=some y->y.used=false)/\(p=none->∀y r,A1=r++ [y]->y.used=true):=by
  rcases List.eq_nil_or_concat A with e | ⟨r,y,e⟩
  · refine⟨[],none,e,fun y hy=>(by cases hy),fun _ y r h=> ?_⟩;have:=congrArg List.length h;simp at this
  · rw[List.concat_eq_append]at e
    cases hu:y.used with
    | false=>exact⟨r,some y,e,fun z hz=>(by injection hz with hz;rw[<-hz];exact hu),fun h=>(by cases h)⟩
    | true=>
     refine⟨A,none,by simp,fun y hy=>(by cases hy),fun _ z r2 h=> ?_⟩;rw[e]at h;have:=List.append_inj_right' h rfl;injection this with h1;rw[<-h1];exact hu
 have h2:∃n B1,B=n.toList++B1/\(∀y,n=some y->y.used=false)/\(n=none->∀y r,B1=y::r->y.used=true):=by
  cases B with
  | nil=>exact⟨none,[],rfl,fun y hy=>(by cases hy),fun _ y r h=>(by cases h)⟩
  | cons y r=>
   cases hu:y.used with
   | false=>exact⟨some y,r,rfl,fun z hz=>(by injection hz with hz;rw[<-hz];exact hu),fun h=>(by cases h)⟩
   | true=>exact⟨none,y::r,rfl,fun y hy=>(by cases hy),fun _ z r2 h=>(by injection h with h1 _;rw[<-h1];exact hu)⟩
 obtain⟨A1,p,e1,e2,e3⟩:=h1;obtain⟨n,B1,f1,f2,f3⟩:=h2;exact⟨A1,p,n,B1,e1,f1,e2,f2,e3,f3⟩
def adX (p:Option Bk) (x:Bk) (n:Option Bk):Bk:=⟨(p.getD x).off,(p.map Bk.size).getD 0+x.size+(n.map Bk.size).getD 0,false⟩
theorem ak6{H:Hp}{A1 B1:List Bk}{p n:Option Bk}{x:Bk}(hb:H.blks=(A1++p.toList)++x::(n.toList++B1)) (hN:ak4 A1 p n B1):
 (H.give (A1++p.toList).length).blks=A1++adX p x n::B1/\(H.give (A1++p.toList).length).lists=ptL (tkO (tkO H.lists n) p) (adX p x n):=by
 obtain⟨A,hA⟩:=nmE (A1++p.toList);rw[hA]at hb ⊢;obtain⟨H0,hH0⟩:=nmE ((H.use A.length false).wipe A.length);have b0:H0.blks=A++{x with used:=false}::(n.toList++B1):=by rw[<-hH0];exact agw hb false
 have l0:H0.lists=H.lists:=by rw[<-hH0];rfl
 have h1:(H0.giveB A.length).blks=A++⟨x.off,x.size+(n.map Bk.size).getD 0,false⟩::B1/\(H0.giveB A.length).lists=tkO H.lists n:=by
  unfold Hp.giveB;rw[b0,agy]
  cases n with
  | none=>
   have e:(match (none:Option Bk).toList++B1 with
    | []=>false
    | n::_=> !n.used)=false:=by
    cases B1 with
    | nil=>rfl
    | cons y r=>
     show(!y.used)=false;rw[hN.nu rfl y r rfl];rfl
   rw[e,if_neg (by simp)];exact⟨b0,l0⟩
  | some m=>
   have hm:=hN.nf m rfl;show(if (!m.used)=true then _ else _:Hp).blks=_/\(if (!m.used)=true then _ else _:Hp).lists=_;rw[hm,if_pos (by rfl)];constructor
   · exact aix (H:=H0.out (A.length+1)) (y:={x with used:=false}) (z:=m) b0
   · have b0':H0.blks=(A++ [{x with used:=false}])++m::B1:=by rw[b0];simp
     have:=agx b0';rw[List.length_append,List.length_singleton]at this;show(H0.out (A.length+1)).lists=_;rw[this,l0];rfl
 obtain⟨b1,l1⟩:=h1;have e:H.give A.length=(H0.giveB A.length).giveC A.length:=by rw[<-hH0];rfl
 rw[e];obtain⟨G,hG⟩:=nmE (H0.giveB A.length);rw[hG]at b1 l1 ⊢;unfold Hp.giveC
 cases p with
 | none=>
  have hA:A1=A:=by rw[<-hA];simp
  have hp:ah6 G.blks A.length=false:=by
   rcases List.eq_nil_or_concat A with e | ⟨r,y,e⟩
   · rw[b1,e];rfl
   · rw[List.concat_eq_append]at e;have hu:=hN.pu rfl y r (by rw[hA];exact e);rw[b1,e,List.append_assoc,List.length_append];exact(ajL r y _ B1).trans (by rw[hu];rfl)
  rw[hp,if_neg (by simp)];have hw:adX none x n=⟨x.off,x.size+(n.map Bk.size).getD 0,false⟩:=by unfold adX;simp
  rw[hw];refine⟨by rw[hA];exact b1,?_⟩;rw[asc b1,l1];rfl
 | some q=>
  have hq:=hN.pf q rfl;have hA':A=A1++ [q]:=by rw[<-hA];rfl
  have b1':G.blks=A1++q::⟨x.off,x.size+(n.map Bk.size).getD 0,false⟩::B1:=by rw[b1,hA'];simp
  have hlen:A.length=A1.length+1:=by rw[hA'];simp
  rw[hlen,Nat.add_sub_cancel,b1',ajL,hq,if_pos (by rfl)];have hw:adX (some q) x n={q with size:=q.size+(x.size+(n.map Bk.size).getD 0)}:=by
   unfold adX;show Bk.mk q.off (q.size+x.size+(n.map Bk.size).getD 0) false=Bk.mk q.off (q.size+(x.size+(n.map Bk.size).getD 0)) q.used;rw[hq,Nat.add_assoc]
  have b2:((G.out A1.length).join A1.length).blks=A1++adX (some q) x n::B1:=by
   rw[hw];exact aix (H:=G.out A1.length) b1'
  refine⟨b2,?_⟩;rw[asc b2];show ptL (G.out A1.length).lists _=_;rw[agx b1',l1];rfl
def Pay (z:Bk) (i:Nat):Prop:=z.off+8<=i/\i+8<z.off+z.size
theorem Kept.pay{P:List Bk}{bs out:List UInt8}(h:Kept P bs out) (h1:∀y∈P,184<=y.off/\32<=y.size) (ha:∀x∈P,∀y∈P,x=y\/x.off+x.size<=y.off\/y.off+y.size<=x.off){z:Bk}(hz:z∈P) (hu:z.used=true){i:Nat}(hi:Pay z i):out[i]?=bs[i]?:=by
 have hz1:=h1 z hz;obtain⟨p1,p2⟩:=hi;refine h i (by omega) fun y hy hyu=> ?_;have hy1:=h1 y hy;rcases ha z hz y hy with rfl | hd | hd
 · rw[hu]at hyu;cases hyu
 · omega
 · omega
theorem ac7{y:Bk}(h:aaD (y.size:Int)=true):aap (y.size:Int)=(afx y:Int)/\afx y<22:=by
 obtain⟨c,h1,h2⟩:=abs h;unfold afx;rw[h1];exact⟨rfl,h2⟩
theorem ak7{L:Nat->List Nat}{y:Bk}{c o:Nat}:o∈tkL L y c ↔ o∈L c/\(c=afx y->o≠y.off):=by
 unfold tkL agO;by_cases h:c=afx y
 · subst h;rw[if_pos rfl,List.mem_filter];simp
 · rw[if_neg h];simp[h]
theorem ads{L:Nat->List Nat}{p:Option Bk}{c o:Nat}:o∈tkO L p c ↔ o∈L c/\∀y,p=some y->c=afx y->o≠y.off:=by
 cases p with
 | none=>simp[tkO]
 | some y=>simp[tkO,ak7]
theorem asX{L:Nat->List Nat}{y:Bk}{c o:Nat}:o∈ptL L y c ↔ (c=afx y/\o=y.off)\/o∈L c:=by
 unfold ptL agO;by_cases h:c=afx y
 · subst h;rw[if_pos rfl,List.mem_cons];simp
 · rw[if_neg h];simp[h]
theorem aaI (u:Bool) (x:Bk) (r:List Bk):afz u (x::r)=((u || x.used)&&afz x.used r):=rfl
def apw (bs:List UInt8):Option Bk->Option (List UInt8)
 | none=>some bs
 | some y=>aee bs (y.off:Int)
section
variable {bs:List UInt8} {H:Hp}
theorem Md.congr{H':Hp}(h:Md bs H) (e1:H'.blks=H.blks) (e2:H'.lists=H.lists) (e3:H'.cap=H.cap):Md bs H':=⟨by rw[e1];exact h.tl,by rw[e1,e2];exact h.ls,h.hi,by rw[e3];exact h.len⟩
theorem Md.facts (h:Md bs H):∀y∈H.blks,184<=y.off/\32<=y.size:=fun y hy=>by
 have:=h.ls.st.facts hy;omega
theorem Md.takeO (h:Md bs H) (n:Option Bk) (hn:∀y,n=some y->y∈H.blks/\y.off∈H.lists (afx y)):∃out,apw bs n=some out/\Md out {H with lists:=tkO H.lists n}/\out.length=bs.length/\Kept H.blks bs out:=by
 cases n with
 | none=>exact⟨bs,rfl,h,rfl,Kept.refl _ _⟩
 | some y=>
  obtain⟨hy,hm⟩:=hn y rfl;have hf:=h.ls.st.facts hy;obtain⟨_,hc22⟩:=ac7 hf.2.2.2.2.2;obtain⟨out,h1,h2,h3,h4⟩:=h.ls.take hy hc22 hm;have e:(fun q:Nat=>decide (q≠y.off))=(fun o=>o !=y.off):=by funext q;simp[bne];rfl
  rw[e]at h2;have h5:=ahB h.ls.len h1;have h6:=h.hi;exact⟨out,h1,⟨by rw[h3];exact h.tl,h2,by omega,by rw[h3];exact h.len⟩,h3,h4⟩
theorem Md.put (h:Md bs H){y:Bk}(hy:y∈H.blks) (hu:y.used=false) (hm:y.off∉H.lists (afx y)):∃out,ag8 bs (y.off:Int)=some out/\Md out {H with lists:=ptL H.lists y}/\out.length=bs.length/\Kept H.blks bs out:=by
 have hf:=h.ls.st.facts hy;obtain⟨hc,hc22⟩:=ac7 hf.2.2.2.2.2;obtain⟨out,h1,h2,h3,h4⟩:=h.ls.put hy hu hc hc22 hm;have h5:=(af8 h.ls.len h1).2;have h6:=h.hi;exact⟨out,h1,⟨by rw[h3];exact h.tl,h2,by omega,by rw[h3];exact h.len⟩,h3,h4⟩
def frO:Option Bk->Option Bk
 | none=>none
 | some y=>if y.used=true then none else some y
theorem arr (bs:List UInt8):aa2 bs (bs.length:Int)=none:=by
 cases h:aa2 bs (bs.length:Int)with
 | none=>rfl
 | some x=>
  obtain⟨h1,_,_,h2,h3,_⟩:=aaw h;have:=(aac _).1 h3;omega
theorem anj (bs:List UInt8):abD bs 184=none:=by
 unfold abD;split
 · rfl
 · split
   · rfl
   · split
     · rfl
     · rename_i s u _ x hg;obtain⟨h1,h2,_,_,h3,_⟩:=aaw hg;have:=(aac _).1 h3;rw[if_neg (by omega)]
theorem Md.behind (h:Md bs H){A1 B1:List Bk}{p n:Option Bk}{x:Bk}(hb:H.blks=(A1++p.toList)++x::(n.toList++B1)) (hN:ak4 A1 p n B1):frO (aa2 bs ((x.off:Int)+(x.size:Int)))=n:=by
 have ht:=h.tl;rw[hb,aaC]at ht;obtain⟨_,h1,_,h3⟩:=ht;have e:(x.off:Int)+(x.size:Int)=((184+aa7 (A1++p.toList)+x.size:Nat):Int):=by omega
 rw[e];obtain⟨q,hq⟩:=nmE (184+aa7 (A1++p.toList)+x.size);rw[hq]at h3 ⊢
 cases n with
 | some m=>
  obtain⟨a,_,_⟩:=h3;rw[<-a,h.ls.st.at_ m (by rw[hb];simp)];show(if m.used=true then none else some m)=some m;rw[hN.nf m rfl,if_neg (by simp)]
 | none=>
  cases B1 with
  | nil=>
   have e:q=bs.length:=h3;rw[e,arr];rfl
  | cons y r=>
   obtain⟨a,_,_⟩:=h3;rw[<-a,h.ls.st.at_ y (by rw[hb];simp)];show(if y.used=true then none else some y)=none;rw[hN.nu rfl y r rfl,if_pos rfl]
theorem Md.ends (h:Md bs H){A B:List Bk}(hb:H.blks=A++B){o:Nat}(ho:o=184+aa7 A):(A= []/\abD bs (o:Int)=none)\/∃r y,A=r++ [y]/\abD bs (o:Int)=some y:=by
 rcases List.eq_nil_or_concat A with e | ⟨r,y,e⟩
 · left;subst e;subst ho;exact⟨rfl,anj bs⟩
 · right;rw[List.concat_eq_append]at e;refine⟨r,y,e,?_⟩;have ht:=h.tl;rw[hb,e,List.append_assoc,aaC]at ht;obtain⟨_,h1,_,_⟩:=ht;have hy:=aog (h.ls.st.at_ y (by rw[hb,e];simp));have e2:(o:Int)=(y.off:Int)+(y.size:Int):=by
    rw[ho,e,aeC];show((184+(aa7 r+(y.size+0)):Nat):Int)=_;omega
   rw[e2];exact hy
theorem Md.ahead (h:Md bs H){A1 B1:List Bk}{p n:Option Bk}{x:Bk}(hb:H.blks=(A1++p.toList)++x::(n.toList++B1)) (hN:ak4 A1 p n B1):frO (abD bs (x.off:Int))=p:=by
 have ht:=h.tl;rw[hb,aaC]at ht;obtain⟨_,h1,_,_⟩:=ht;rcases h.ends hb h1 with⟨e,e2⟩ | ⟨r,y,e,e2⟩
 · rw[e2]
   cases p with
   | none=>rfl
   | some q=>simp at e
 · rw[e2]
   cases p with
   | none=>
    show(if y.used=true then none else some y)=none;rw[hN.pu rfl y r (by simpa using e),if_pos rfl]
   | some q=>
    have h1:q=y:=by
     have:=congrArg List.getLast? e;simpa using this
    have hq:=hN.pf q rfl;rw[h1]at hq ⊢;unfold frO;dsimp only;rw[hq,if_neg (by simp)]
theorem Rt.gives (h:Rt bs H) (hc:H.cap<=16384){A1 B1:List Bk}{p n:Option Bk}{x:Bk}(hb:H.blks=(A1++p.toList)++x::(n.toList++B1)) (hN:ak4 A1 p n B1) (hu:x.used=true):
 ∃b1 b2 out,apw bs n=some b1/\apw b1 p=some b2/\ad5 b2 ((adX p x n).off:Int) ((adX p x n).size:Int) false=some (aaT b2 (adX p x n))/\ag8 (aaT b2 (adX p x n)) ((adX p x n).off:Int)=some out/\
  b1.length=bs.length/\b2.length=bs.length/\(aaT b2 (adX p x n)).length=bs.length/\out.length=bs.length/\Rt out (H.give (A1++p.toList).length)/\∀z∈H.blks,z.used=true->z≠x->∀i,Pay z i->out[i]?=bs[i]?:=by
 obtain⟨gb,gl⟩:=ak6 hb hN;have gc:(H.give (A1++p.toList).length).cap=H.cap:=afG;obtain⟨w,hw⟩:=nmE (adX p x n);have hwu:w.used=false:=by rw[<-hw];rfl
 rw[hw]at gb gl ⊢;have hM:=h.md hc;have hF:=h.complete;have hadj:afz true H.blks=true:=by rw[<-aba];exact h.nfree.2.1
 have hsm:=hM.ls.small;have ht:=hM.tl;rw[hb,aaC,aaC,aeC]at ht;obtain⟨⟨t1,t2⟩,t3,t4,t5⟩:=ht;obtain⟨o1,ho1⟩:=nmE (184+aa7 A1);obtain⟨e,he⟩:=nmE bs.length;rw[he]at t5;have hp:(p=none/\w.off=o1/\x.off=o1/\w.size=x.size+(n.map Bk.size).getD 0)\/∃q,p=some q/\q.off=o1/\aaD (q.size:Int)=true/\x.off=o1+q.size/\w.off=o1/\w.size=q.size+x.size+(n.map Bk.size).getD 0:=by
  cases p with
  | none=>
   left;have e1:x.off=o1:=by rw[t3,<-ho1];simp[aa7]
   refine⟨rfl,?_,e1,?_⟩
   · rw[<-hw];exact e1
   · rw[<-hw];show 0+x.size+_=_;omega
  | some q=>
   right;obtain⟨a,b,_⟩:=t2;refine⟨q,rfl,by rw[a,ho1],b,?_,?_,?_⟩
   · rw[t3,<-ho1];simp[aa7];omega
   · rw[<-hw];show q.off=_;rw[a,ho1]
   · rw[<-hw];rfl
 have hxo:184+(aa7 A1+aa7 p.toList)=x.off:=t3.symm;have t1':abr 184 A1 o1:=by rw[<-ho1];exact t1
 rw[hxo]at t5;rw[aaC]at t5;obtain⟨t6,t7⟩:=t5;have hn:(n=none/\(n.map Bk.size).getD 0=0/\aa7 n.toList=0)\/∃m,n=some m/\m.off=x.off+x.size/\aaD (m.size:Int)=true/\(n.map Bk.size).getD 0=m.size/\aa7 n.toList=m.size:=by
  cases n with
  | none=>exact .inl ⟨rfl,rfl,rfl⟩
  | some m=>
   obtain⟨a,b,_⟩:=t6;exact .inr ⟨m,rfl,a,b,rfl,by simp[aa7]⟩
 obtain⟨mA1,mA⟩:=aak A1 _ _ t1';obtain⟨mB1,mB⟩:=aak B1 _ _ t7;have sx:=(aac _).1 t4;have hwe:w.off+w.size=x.off+x.size+aa7 n.toList/\w.off=o1/\o1<=x.off/\w.size%16=0/\32<=w.size:=by
  rcases hp with⟨_,p1,p2,p3⟩ | ⟨q,_,p1,p4,p2,p5,p3⟩
  · rcases hn with⟨_,n1,n2⟩ | ⟨m,_,n0,n3,n1,n2⟩
    · omega
    · have:=(aac _).1 n3;omega
  · have:=(aac _).1 p4;rcases hn with⟨_,n1,n2⟩ | ⟨m,_,n0,n3,n1,n2⟩
    · omega
    · have:=(aac _).1 n3;omega
 obtain⟨w1,w2,w3,w4,w5⟩:=hwe;have ho1e:o1%16=8/\184<=o1:=by
  refine⟨?_,by omega⟩;have hxm:=((aak _ _ _ hM.tl).2 x (by rw[hb];simp)).2.2.2;rcases hp with⟨_,p1,p2,p3⟩ | ⟨q,_,p1,p4,p2,p5,p3⟩
  · omega
  · have:=(aac _).1 p4;omega
 have hws:aaD (w.size:Int)=true:=(aac _).2 (by omega);have inA:∀y∈A1,y.off+y.size<=w.off:=fun y hy=>by have:=mA y hy;omega
 have inB:∀y∈B1,w.off+w.size<=y.off:=fun y hy=>by have:=mB y hy;omega
 have hn0:∀y,n=some y->y∈H.blks/\y.off∈H.lists (afx y):=fun y hy=>by
  have hm:y∈H.blks:=by rw[hb,hy];simp
  obtain⟨c1,c2⟩:=ac7 (hM.ls.st.facts hm).2.2.2.2.2;exact⟨hm,hF _ c2 _ (aa9 hm (hN.nf y hy) c1)⟩
 obtain⟨b1,e1,M1,l1,k1⟩:=hM.takeO n hn0;have hp0:∀y,p=some y->y∈H.blks/\y.off∈tkO H.lists n (afx y):=fun y hy=>by
  have hm:y∈H.blks:=by rw[hb,hy];simp
  obtain⟨c1,c2⟩:=ac7 (hM.ls.st.facts hm).2.2.2.2.2;refine⟨hm,ads.2 ⟨hF _ c2 _ (aa9 hm (hN.pf y hy) c1),fun z hz _=> ?_⟩⟩;rcases hp with⟨p0,_⟩ | ⟨q,p0,p1,p4,p2,_⟩
  · rw[p0]at hy;cases hy
  · rw[p0]at hy;injection hy with hy;subst hy;rcases hn with⟨n0,_⟩ | ⟨m,n0,n1,_⟩
    · rw[n0]at hz;cases hz
    · rw[n0]at hz;injection hz with hz;subst hz;omega
 obtain⟨b2,e2,M2,l2,k2⟩:=M1.takeO p hp0;have k2:Kept H.blks b1 b2:=k2;have M2L:Lists b2 H.blks (tkO (tkO H.lists n) p):=M2.ls;have hwl:w.off+w.size<=b2.length:=by
  rcases B1 with _ | ⟨y,r⟩
  · have:x.off+x.size+aa7 n.toList=e:=t7;omega
  · have:=mB1;omega
 have hL:∀c,c<22->∀o∈tkO (tkO H.lists n) p c,∃y∈A1++w::B1,y∈H.blks/\y.off=o/\(y.off+y.size<=w.off\/w.off+w.size<=y.off):=fun c hc o ho=>by
  rw[ads,ads]at ho;obtain⟨⟨ho,hno⟩,hpo⟩:=ho;obtain⟨y,hy,ey,hyu,hyc⟩:=hM.ls.mem c hc o ho;obtain⟨c1,_⟩:=ac7 (hM.ls.st.facts hy).2.2.2.2.2;have hcc:c=afx y:=by omega
  have hy':=hy;rw[hb]at hy;rcases List.mem_append.1 hy with hy | hy
  · rcases List.mem_append.1 hy with hy | hy
    · exact⟨y,by simp[hy],hy',ey, .inl (inA y hy)⟩
    · exact absurd ey.symm (hpo y (by simpa using hy) hcc)
  · rcases List.mem_cons.1 hy with rfl | hy
    · rw[hu]at hyu;cases hyu
    · rcases List.mem_append.1 hy with hy | hy
      · exact absurd ey.symm (hno y (by simpa using hy) hcc)
      · exact⟨y,by simp[hy],hy',ey, .inr (inB y hy)⟩
 have hQ:∀y∈A1++w::B1,y=w\/(y∈H.blks/\(y.off+y.size<=w.off\/w.off+w.size<=y.off)):=fun y hy=>by
  rcases List.mem_append.1 hy with hy | hy
  · exact .inr ⟨by rw[hb];simp[hy], .inl (inA y hy)⟩
  · rcases List.mem_cons.1 hy with rfl | hy
    · exact .inl rfl
    · exact .inr ⟨by rw[hb];simp[hy], .inr (inB y hy)⟩
 have w184:184<=w.off:=by omega
 have w16:w.off%16=8:=by omega
 have LS:=M2L.set w184 w16 hwl hws hQ hL;have l3:=aa4 hws hwl;have M3:Md (aaT b2 w) {H with blks:=A1++w::B1,lists:=tkO (tkO H.lists n) p}:=by
  refine⟨?_,LS,?_,by rw[l3,l2,l1];exact hM.len⟩
  · show abr 184 (A1++w::B1) _;rw[l3,l2,l1,aaC,ho1,he];refine⟨t1',w2,hws,?_⟩;rw[show o1+w.size=x.off+x.size+aa7 n.toList by omega];exact t7
  · rw[aaQ hws hwl _ (by omega)];exact M2.hi
 have hwm:w.off∉tkO (tkO H.lists n) p (afx w):=fun hm=>by
  obtain⟨_,c2⟩:=ac7 hws;obtain⟨y,_,hyP,ey,hd⟩:=hL _ c2 _ hm;have:=hM.facts y hyP;omega
 obtain⟨out,e4,M4,l4,k4⟩:=M3.put (y:=w) (by simp) hwu hwm;refine⟨b1,b2,out,e1,e2,?_,e4,l1,by rw[l2,l1],by rw[l3,l2,l1],by rw[l4,l3,l2,l1],?_,fun z hz hzu hzx i hi=> ?_⟩
 · have:=aen b2 w w184 w16 hwl hws;rw[hwu]at this;exact this
 ·
  refine Md.rt (M4.congr gb gl gc) (fun c hc o ho=> ?_) ?_
  · rw[gb]at ho;rw[gl,asX];obtain⟨y,hy,ey,hyu,hyc⟩:=abt ho;rcases hQ y hy with rfl | ⟨hyP,hd⟩
    · left;obtain⟨c1,_⟩:=ac7 hws;exact⟨by omega,ey.symm⟩
    · right;rw[ads,ads];refine⟨⟨by rw[<-ey];exact hF c hc _ (aa9 hyP hyu hyc),fun z hz _=> ?_⟩,fun z hz _=> ?_⟩
      · have hz0:z.off=x.off+x.size/\z.off+z.size<=w.off+w.size:=by
         rcases hn with⟨n0,_⟩ | ⟨m,n0,n1,_,_,n4⟩
         · rw[n0]at hz;cases hz
         · rw[n0]at hz;injection hz with hz;subst hz;omega
        have:=hM.facts y hyP;have:=hM.facts z (hn0 z hz).1;omega
      · have hz0:z.off=o1/\z.off+z.size<=w.off+w.size:=by
         rcases hp with⟨p0,_⟩ | ⟨q,p0,p1,p4,p2,_⟩
         · rw[p0]at hz;cases hz
         · rw[p0]at hz;injection hz with hz;subst hz;omega
        have:=hM.facts y hyP;have:=hM.facts z (hp0 z hz).1;omega
  · rw[gb,aba,abz];rw[hb,abz,abz,aaI]at hadj;rw[aaI];simp only[Bool.and_eq_true,Bool.or_eq_true]at hadj ⊢;obtain⟨⟨a1,a2⟩,_,a3⟩:=hadj;rw[hwu];refine⟨a1, .inl ?_,?_⟩
    · cases p with
      | none=>
       rcases List.eq_nil_or_concat A1 with e | ⟨r,y,e⟩
       · rw[e];rfl
       · rw[List.concat_eq_append]at e;rw[e,agv];exact hN.pu rfl y r e
      | some q=>
       have hq:=hN.pf q rfl;have a2:afz (ajK true A1) [q]=true:=a2;rw[aaI,hq,Bool.or_false,Bool.and_eq_true]at a2;exact a2.1
    · rw[hu]at a3
      cases n with
      | none=>
       cases B1 with
       | nil=>rfl
       | cons y r=>
        have hy:=hN.nu rfl y r rfl;have a3:afz true (y::r)=true:=a3;rw[aaI,hy,Bool.and_eq_true]at a3;rw[aaI,hy,Bool.and_eq_true];exact⟨rfl,a3.2⟩
      | some m=>
       have hm:=hN.nf m rfl;have a3:afz true (m::B1)=true:=a3;rw[aaI,hm,Bool.and_eq_true]at a3;exact a3.2
 ·
  have hz2:z∈A1\/z∈B1:=by
   rw[hb]at hz;rcases List.mem_append.1 hz with hz | hz
   · rcases List.mem_append.1 hz with hz | hz
     · exact .inl hz
     · have:=hN.pf z (by simpa using hz);rw[hzu]at this;cases this
   · rcases List.mem_cons.1 hz with hz | hz
     · exact absurd hz hzx
     · rcases List.mem_append.1 hz with hz | hz
       · have:=hN.nf z (by simpa using hz);rw[hzu]at this;cases this
       · exact .inr hz
  have hzf:=hM.facts z hz;have ap:=hM.ls.st.apart;have zw:z.off+z.size<=w.off\/w.off+w.size<=z.off:=by
   rcases hz2 with h2 | h2
   · exact .inl (inA z h2)
   · exact .inr (inB z h2)
  have zQ:z∈A1++w::B1:=by rcases hz2 with h2 | h2<;>simp[h2]
  have s4:=k4.pay M3.facts M3.ls.st.apart (z:=z) zQ hzu hi;obtain⟨i1,i2⟩:=hi;have s3:=acw hws hwl i (by omega);rw[s4,s3,k2.pay hM.facts ap hz hzu ⟨i1,i2⟩,k1.pay hM.facts ap hz hzu ⟨i1,i2⟩]
end
section
variable {bs:List UInt8} {H:Hp}
theorem Rt.congr{H':Hp}(h:Rt bs H) (e1:H'.blks=H.blks) (e2:H'.lists=H.lists) (e3:H'.cap=H.cap):Rt bs H':=⟨by rw[e1];exact h.walk,by rw[e2];exact h.all_,h.chk,by rw[e3];exact h.len⟩
theorem Lists.takeO{P:List Bk}{L:Nat->List Nat}(h:Lists bs P L) (n:Option Bk) (hn:∀y,n=some y->y∈P/\y.off∈L (afx y)):∃out,apw bs n=some out/\Lists out P (tkO L n)/\out.length=bs.length/\Kept P bs out/\aaf out 0/4194304=aaf bs 0/4194304:=by
 cases n with
 | none=>exact⟨bs,rfl,h,rfl,Kept.refl _ _,rfl⟩
 | some y=>
  obtain⟨hy,hm⟩:=hn y rfl;have hf:=h.st.facts hy;obtain⟨_,hc22⟩:=ac7 hf.2.2.2.2.2;obtain⟨out,h1,h2,h3,h4⟩:=h.take hy hc22 hm;have e:(fun q:Nat=>decide (q≠y.off))=(fun o=>o !=y.off):=by funext q;simp[bne];rfl
  rw[e]at h2;exact⟨out,h1,h2,h3,h4,ahB h.len h1⟩
theorem afS{A B:List Bk}{x:Bk}{e:Nat}(ht:abr 184 (A++x::B) e):abr 184 A x.off/\aaD (x.size:Int)=true/\abr (x.off+x.size) B e/\x.off%16=8/\184<=x.off/\x.off+x.size<=e/\(∀y∈A,y.off+y.size<=x.off)/\∀y∈B,x.off+x.size<=y.off:=by
 have hx:=(aak _ _ _ ht).2 x (by simp);rw[aaC]at ht;obtain⟨t1,t2,t3,t4⟩:=ht;rw[<-t2]at t1 t4;exact⟨t1,t3,t4,by omega,by omega,by omega,fun y hy=>((aak _ _ _ t1).2 y hy).2.1,fun y hy=>((aak _ _ _ t4).2 y hy).1⟩
theorem Rt.cuts (h:Rt bs H) (hc:H.cap<=16384){A B:List Bk}{x:Bk}(hb:H.blks=A++x::B) (hu:x.used=true){s:Nat}(hs:aaD (s:Int)=true) (hle:s+32<=x.size):
 ad5 bs (x.off:Int) (s:Int) true=some (aaT bs ⟨x.off,s,true⟩)/\
 ad5 (aaT bs ⟨x.off,s,true⟩) ((x.off+s:Nat):Int) ((x.size-s:Nat):Int) true=some (aaT (aaT bs ⟨x.off,s,true⟩) ⟨x.off+s,x.size-s,true⟩)/\
 (aaT bs ⟨x.off,s,true⟩).length=bs.length/\(aaT (aaT bs ⟨x.off,s,true⟩) ⟨x.off+s,x.size-s,true⟩).length=bs.length/\
 (((H.use A.length true).size A.length s).put (A.length+1) ⟨x.off+s,x.size-s,true⟩).blks=(A++ [⟨x.off,s,true⟩])++⟨x.off+s,x.size-s,true⟩::B/\
 Rt (aaT (aaT bs ⟨x.off,s,true⟩) ⟨x.off+s,x.size-s,true⟩) (((H.use A.length true).size A.length s).put (A.length+1) ⟨x.off+s,x.size-s,true⟩)/\
 (∀z∈H.blks,z≠x->∀i,Pay z i->(aaT (aaT bs ⟨x.off,s,true⟩) ⟨x.off+s,x.size-s,true⟩)[i]?=bs[i]?)/\(∀i,Pay ⟨x.off,s,true⟩ i->(aaT (aaT bs ⟨x.off,s,true⟩) ⟨x.off+s,x.size-s,true⟩)[i]?=bs[i]?):=by
 have hM:=h.md hc;have hF:=h.complete;have hadj:afz true H.blks=true:=by rw[<-aba];exact h.nfree.2.1
 have ht:=hM.tl;rw[hb]at ht;obtain⟨t1,t2,t3,t4,t5,t6,tA,tB⟩:=afS ht;have sx:=(aac _).1 t2;have ss:=(aac _).1 hs;have hs2:aaD ((x.size-s:Nat):Int)=true:=(aac _).2 (by omega);obtain⟨y1,hy1⟩:∃y1:Bk,y1=⟨x.off,s,true⟩:=⟨_,rfl⟩;obtain⟨y2,hy2⟩:∃y2:Bk,y2=⟨x.off+s,x.size-s,true⟩:=⟨_,rfl⟩;have o1:y1.off=x.off:=by rw[hy1]
 have z1:y1.size=s:=by rw[hy1]
 have u1:y1.used=true:=by rw[hy1]
 have o2:y2.off=x.off+s:=by rw[hy2]
 have z2:y2.size=x.size-s:=by rw[hy2]
 have u2:y2.used=true:=by rw[hy2]
 have s1:ad5 bs (y1.off:Int) (y1.size:Int) y1.used=some (aaT bs y1):=aen bs y1 (by omega) (by omega) (by omega) (by rw[z1];exact hs);have l1:(aaT bs y1).length=bs.length:=aa4 (by rw[z1];exact hs) (by omega);have s2:ad5 (aaT bs y1) (y2.off:Int) (y2.size:Int) y2.used=some (aaT (aaT bs y1) y2):=aen _ y2 (by omega) (by omega) (by omega) (by rw[z2];exact hs2);have l2:(aaT (aaT bs y1) y2).length=bs.length:=(aa4 (by rw[z2];exact hs2) (by omega)).trans l1;rw[o1,z1,u1]at s1;rw[o2,z2,u2]at s2;rw[<-hy2,<-hy1];have hblk:(((H.use A.length true).size A.length s).put (A.length+1) y2).blks=(A++ [y1])++y2::B:=by
  have e:((H.use A.length true).size A.length s).blks=(A++ [y1])++B:=by
   rw[ami (agw hb true) s,hy1];simp
  show((H.use A.length true).size A.length s).blks.take (A.length+1)++y2::((H.use A.length true).size A.length s).blks.drop (A.length+1)=_;rw[e,List.take_left' (by simp),List.drop_left' (by simp)]
 have hL:∀c,c<22->∀o∈H.lists c,∃y,(y∈A\/y∈B)/\y∈H.blks/\y.off=o/\(y.off+y.size<=x.off\/x.off+x.size<=y.off):=fun c hc o ho=>by
  obtain⟨y,hy,ey,hyu,_⟩:=hM.ls.mem c hc o ho;have hy':=hy;rw[hb]at hy;rcases List.mem_append.1 hy with hy | hy
  · exact⟨y, .inl hy,hy',ey, .inl (tA y hy)⟩
  · rcases List.mem_cons.1 hy with rfl | hy
    · rw[hu]at hyu;cases hyu
    · exact⟨y, .inr hy,hy',ey, .inr (tB y hy)⟩
 have L1:Lists (aaT bs y1) (A++y1::B) H.lists:=by
  refine hM.ls.set (by omega) (by omega) (by omega) (by rw[z1];exact hs) (fun y hy=> ?_) fun c hc o ho=> ?_
  · rcases List.mem_append.1 hy with hy | hy
    · exact .inr ⟨by rw[hb];simp[hy], .inl (by have:=tA y hy;omega)⟩
    · rcases List.mem_cons.1 hy with rfl | hy
      · exact .inl rfl
      · exact .inr ⟨by rw[hb];simp[hy], .inr (by have:=tB y hy;omega)⟩
  · obtain⟨y,hy,hyP,ey,hd⟩:=hL c hc o ho;exact⟨y,by rcases hy with hy | hy<;>simp[hy],hyP,ey,by omega⟩
 have L2:Lists (aaT (aaT bs y1) y2) ((A++ [y1])++y2::B) H.lists:=by
  refine L1.set (by omega) (by omega) (by omega) (by rw[z2];exact hs2) (fun y hy=> ?_) fun c hc o ho=> ?_
  · rcases List.mem_append.1 hy with hy | hy
    · rcases List.mem_append.1 hy with hy | hy
      · exact .inr ⟨by simp[hy], .inl (by have:=tA y hy;omega)⟩
      · rw[List.mem_singleton]at hy;exact .inr ⟨by simp[hy], .inl (by rw[hy];omega)⟩
    · rcases List.mem_cons.1 hy with rfl | hy
      · exact .inl rfl
      · exact .inr ⟨by simp[hy], .inr (by have:=tB y hy;omega)⟩
  · obtain⟨y,hy,hyP,ey,hd⟩:=hL c hc o ho;exact⟨y,by rcases hy with hy | hy<;>simp[hy],by rcases hy with hy | hy<;>simp[hy],ey,by omega⟩
 refine⟨s1,s2,l1,l2,hblk,?_,fun z hz hzx i hi=> ?_,fun i hi=> ?_⟩
 · have M:Md (aaT (aaT bs y1) y2) (((H.use A.length true).size A.length s).put (A.length+1) y2):=by
    refine⟨?_,by rw[hblk];exact L2,?_,by rw[l2];exact hM.len⟩
    · rw[hblk,l2,List.append_assoc,aaC];rw[aaC]at ht;obtain⟨q1,q2,_⟩:=ht;refine⟨q1,by omega,by rw[z1];exact hs,by omega,by rw[z2];exact hs2,?_⟩;rw[<-q2,show x.off+y1.size+y2.size=x.off+x.size by omega];exact t3
    · rw[aaQ (by rw[z2];exact hs2) (by omega) _ (by omega),aaQ (by rw[z1];exact hs) (by omega) _ (by omega)];exact hM.hi
   refine M.rt (fun c hc o ho=> ?_) ?_
   · rw[hblk]at ho;obtain⟨y,hy,ey,hyu,hyc⟩:=abt ho;have hyP:y∈H.blks:=by
      rw[hb];rcases List.mem_append.1 hy with hy | hy
      · rcases List.mem_append.1 hy with hy | hy
        · simp[hy]
        · rw[List.mem_singleton]at hy;rw[hy,u1]at hyu;cases hyu
      · rcases List.mem_cons.1 hy with rfl | hy
        · rw[u2]at hyu;cases hyu
        · simp[hy]
     rw[<-ey];exact hF c hc _ (aa9 hyP hyu hyc)
   · rw[hblk,aba,abz,abz,aaI,aaI,agv,u1,u2];rw[hb,abz,aaI,hu]at hadj;simp only[Bool.and_eq_true,Bool.or_true]at hadj ⊢;exact⟨⟨hadj.1,trivial,rfl⟩,trivial,hadj.2.2⟩
 · obtain⟨i1,i2⟩:=hi;have hd:z.off+z.size<=x.off\/x.off+x.size<=z.off:=by
    rw[hb]at hz;rcases List.mem_append.1 hz with hz | hz
    · exact .inl (tA z hz)
    · rcases List.mem_cons.1 hz with hz | hz
      · exact absurd hz hzx
      · exact .inr (tB z hz)
   rw[acw (by rw[z2];exact hs2) (by omega) i (by omega),acw (by rw[z1];exact hs) (by omega) i (by omega)]
 · obtain⟨i1,i2⟩:=hi;rw[acw (by rw[z2];exact hs2) (by omega) i (by omega),acw (by rw[z1];exact hs) (by omega) i (by omega)]
theorem Rt.uses (h:Rt bs H) (hc:H.cap<=16384){A B:List Bk}{x:Bk}(hb:H.blks=A++x::B) (hu:x.used=false):
 ∃b1,aee bs (x.off:Int)=some b1/\ad5 b1 (x.off:Int) (x.size:Int) true=some (aaT b1 ⟨x.off,x.size,true⟩)/\b1.length=bs.length/\(aaT b1 ⟨x.off,x.size,true⟩).length=bs.length/\
  ((H.out A.length).use A.length true).blks=A++⟨x.off,x.size,true⟩::B/\Rt (aaT b1 ⟨x.off,x.size,true⟩) ((H.out A.length).use A.length true)/\
  ∀z∈H.blks,z.used=true->∀i,Pay z i->(aaT b1 ⟨x.off,x.size,true⟩)[i]?=bs[i]?:=by
 have hM:=h.md hc;have hF:=h.complete;have hadj:afz true H.blks=true:=by rw[<-aba];exact h.nfree.2.1
 have ht:=hM.tl;rw[hb]at ht;obtain⟨t1,t2,t3,t4,t5,t6,tA,tB⟩:=afS ht;have sx:=(aac _).1 t2;have hxP:x∈H.blks:=by rw[hb];simp
 obtain⟨c1,c2⟩:=ac7 t2;obtain⟨b1,e1,L1,l1,k1,w1⟩:=hM.ls.takeO (some x) (fun y hy=>by
  injection hy with hy;subst hy;exact⟨hxP,hF _ c2 _ (aa9 hxP hu c1)⟩)
 obtain⟨y1,hy1⟩:∃y1:Bk,y1=⟨x.off,x.size,true⟩:=⟨_,rfl⟩;have o1:y1.off=x.off:=by rw[hy1]
 have z1:y1.size=x.size:=by rw[hy1]
 have u1:y1.used=true:=by rw[hy1]
 have s1:ad5 b1 (y1.off:Int) (y1.size:Int) y1.used=some (aaT b1 y1):=aen b1 y1 (by omega) (by omega) (by omega) (by rw[z1];exact t2);have l2:(aaT b1 y1).length=b1.length:=aa4 (by rw[z1];exact t2) (by omega);rw[o1,z1,u1]at s1;rw[<-hy1];have hblk:((H.out A.length).use A.length true).blks=A++y1::B:=by
  rw[agw (H:=H.out A.length) (A:=A) (y:=x) (B:=B) hb true,hy1]
 have hlst:((H.out A.length).use A.length true).lists=tkL H.lists x:=agx hb;have hdA:∀y∈A++y1::B,y=y1\/(y∈H.blks/\(y.off+y.size<=y1.off\/y1.off+y1.size<=y.off)):=fun y hy=>by
  rcases List.mem_append.1 hy with hy | hy
  · exact .inr ⟨by rw[hb];simp[hy], .inl (by have:=tA y hy;omega)⟩
  · rcases List.mem_cons.1 hy with rfl | hy
    · exact .inl rfl
    · exact .inr ⟨by rw[hb];simp[hy], .inr (by have:=tB y hy;omega)⟩
 have L2:Lists (aaT b1 y1) (A++y1::B) (tkL H.lists x):=by
  refine L1.set (by omega) (by omega) (by omega) (by rw[z1];exact t2) hdA fun c hc o ho=> ?_;have ho:o∈tkL H.lists x c:=ho;rw[ak7]at ho;obtain⟨y,hy,ey,hyu,hyc⟩:=hM.ls.mem c hc o ho.1;have hy':=hy;rw[hb]at hy;rcases List.mem_append.1 hy with hy | hy
  · exact⟨y,by simp[hy],hy',ey, .inl (by have:=tA y hy;omega)⟩
  · rcases List.mem_cons.1 hy with rfl | hy
    · exact absurd ey.symm (ho.2 (by omega))
    · exact⟨y,by simp[hy],hy',ey, .inr (by have:=tB y hy;omega)⟩
 refine⟨b1,e1,s1,l1,l2.trans l1,hblk,?_,fun z hz hzu i hi=> ?_⟩
 · have hi:=hM.hi;have M:Md (aaT b1 y1) ((H.out A.length).use A.length true):=by
    refine⟨?_,by rw[hblk,hlst];exact L2,?_,by rw[l2,l1];exact hM.len⟩
    · rw[hblk,l2,l1,aaC];rw[aaC]at ht;obtain⟨q1,q2,q3,q4⟩:=ht;refine⟨q1,by omega,by rw[z1];exact t2,?_⟩;rw[z1];exact q4
    · rw[aaQ (by rw[z1];exact t2) (by omega) _ (by omega)];omega
   refine M.rt (fun c hc o ho=> ?_) ?_
   · rw[hblk]at ho;rw[hlst,ak7];obtain⟨y,hy,ey,hyu,hyc⟩:=abt ho;rcases hdA y hy with rfl | ⟨hyP,hd⟩
     · rw[u1]at hyu;cases hyu
     · have:=hM.facts y hyP;exact⟨by rw[<-ey];exact hF c hc _ (aa9 hyP hyu hyc),fun _=>by omega⟩
   · rw[hblk,aba,abz,aaI,u1];rw[hb,abz,aaI,hu]at hadj;simp only[Bool.and_eq_true,Bool.or_true]at hadj ⊢;refine⟨hadj.1,trivial,?_⟩;have h2:=hadj.2.2
     cases B with
     | nil=>rfl
     | cons y r=>
      rw[aaI]at h2 ⊢;simp only[Bool.and_eq_true,Bool.or_eq_true,Bool.true_or,true_and]at h2 ⊢;exact h2.2
 · have hd:z.off+z.size<=x.off\/x.off+x.size<=z.off:=by
    rcases hM.ls.st.apart z hz x hxP with rfl | hd
    · rw[hu]at hzu;cases hzu
    · exact hd
   have k:=k1.pay hM.facts hM.ls.st.apart hz hzu hi;obtain⟨i1,i2⟩:=hi;rw[acw (by rw[z1];exact t2) (by omega) i (by omega),k]
theorem Rt.adds (h:Rt bs H) (hc:H.cap<=16384){A:List Bk}{p:Option Bk}{o s n:Nat}(hb:H.blks=A++p.toList) (hp:∀y,p=some y->y.used=false) (ho:o=184+aa7 A) (hs:aaD (s:Int)=true) (hn:n+aa7 p.toList=s) (hcap:bs.length+n<=H.cap):
 ∃b1,apw (bs++List.replicate n 0) p=some b1/\ad5 b1 (o:Int) (s:Int) true=some (aaT b1 ⟨o,s,true⟩)/\b1.length=bs.length+n/\(aaT b1 ⟨o,s,true⟩).length=bs.length+n/\
  (∀H':Hp,H'.blks=A++ [⟨o,s,true⟩]->H'.lists=tkO H.lists p->H'.cap=H.cap->Rt (aaT b1 ⟨o,s,true⟩) H')/\
  ∀z∈H.blks,z.used=true->∀i,Pay z i->(aaT b1 ⟨o,s,true⟩)[i]?=bs[i]?:=by
 have hM:=h.md hc;have hF:=h.complete;have hadj:afz true H.blks=true:=by rw[<-aba];exact h.nfree.2.1
 have ht:=hM.tl;rw[hb,aaC,<-ho]at ht;obtain⟨t1,t2⟩:=ht;have hlen:bs.length=o+aa7 p.toList:=aeB _ _ _ t2;have ss:=(aac _).1 hs;have hA:=(aak _ _ _ t1).2;have hpf:∀y,p=some y->y∈H.blks/\y.off=o:=fun y hy=>by
  rw[hy]at t2;exact⟨by rw[hb,hy];simp,t2.1⟩
 have hlm:(bs++List.replicate n (0:UInt8)).length=bs.length+n:=by rw[List.length_append,List.length_replicate]
 have hl0:=hM.ls.len;obtain⟨b1,e1,L1,l1,k1,w1⟩:=(hM.ls.more n (by omega)).takeO p (fun y hy=>by
  have hyP:=(hpf y hy).1;obtain⟨c1,c2⟩:=ac7 (hM.ls.st.facts hyP).2.2.2.2.2;exact⟨hyP,hF _ c2 _ (aa9 hyP (hp y hy) c1)⟩)
 have o16:o%16=8:=by
  cases p with
  | none=>
   have e:abr 184 A o:=t1;rcases List.eq_nil_or_concat A with e1 | ⟨r,y,e1⟩
   · rw[e1]at ho;have:o=184:=ho;omega
   · rw[List.concat_eq_append]at e1;have hy:=(aak _ _ _ e).2 y (by rw[e1];simp);rw[e1,aaC]at e;obtain⟨_,q1,q2,q3⟩:=e;have q3:184+aa7 r+y.size=o:=q3;have:=(aac _).1 q2;omega
  | some y=>
   have:=hM.ls.st.facts (hpf y rfl).1;have:=(hpf y rfl).2;omega
 have o184:184<=o:=by omega
 obtain⟨y1,hy1⟩:∃y1:Bk,y1=⟨o,s,true⟩:=⟨_,rfl⟩;have o1:y1.off=o:=by rw[hy1]
 have z1:y1.size=s:=by rw[hy1]
 have u1:y1.used=true:=by rw[hy1]
 have hs1:aaD (y1.size:Int)=true:=by rw[z1];exact hs
 have hle:y1.off+y1.size<=b1.length:=by omega
 have s1:ad5 b1 (y1.off:Int) (y1.size:Int) y1.used=some (aaT b1 y1):=aen b1 y1 (by omega) (by omega) hle hs1;have l2:(aaT b1 y1).length=b1.length:=aa4 hs1 hle;rw[o1,z1,u1]at s1;rw[<-hy1];have hdA:∀y∈A++ [y1],y=y1\/(y∈H.blks/\y∈A/\(y.off+y.size<=y1.off\/y1.off+y1.size<=y.off)):=fun y hy=>by
  rcases List.mem_append.1 hy with hy | hy
  · exact .inr ⟨by rw[hb];simp[hy],hy, .inl (by have:=hA y hy;omega)⟩
  · exact .inl (by simpa using hy)
 have L2:Lists (aaT b1 y1) (A++ [y1]) (tkO H.lists p):=by
  refine L1.set (by omega) (by omega) hle hs1 (fun y hy=>(hdA y hy).imp id fun h=>⟨h.1,h.2.2⟩) fun c hc q hq=> ?_;rw[ads]at hq;obtain⟨y,hy,ey,hyu,hyc⟩:=hM.ls.mem c hc q hq.1;have hy':=hy;rw[hb]at hy;rcases List.mem_append.1 hy with hy | hy
  · exact⟨y,by simp[hy],hy',ey, .inl (by have:=hA y hy;omega)⟩
  · obtain⟨c1,_⟩:=ac7 (hM.ls.st.facts hy').2.2.2.2.2;exact absurd ey.symm (hq.2 y (by simpa using hy) (by omega))
 refine⟨b1,e1,s1,by omega,by omega,fun H' g1 g2 g3=> ?_,fun z hz hzu i hi=> ?_⟩
 · have hi:=hM.hi;have hi2:aaf (bs++List.replicate n (0:UInt8)) 0=aaf bs 0:=ab4 _ _ _ (by omega);have M:Md (aaT b1 y1) H':=by
    refine⟨?_,by rw[g1,g2];exact L2,?_,by rw[g3];omega⟩
    · rw[g1,aaC,<-ho];exact⟨t1,o1,hs1,by show o+y1.size=_;omega⟩
    · rw[aaQ hs1 hle _ (by omega)];omega
   refine M.rt (fun c hc q hq=> ?_) ?_
   · rw[g1]at hq;rw[g2,ads];obtain⟨y,hy,ey,hyu,hyc⟩:=abt hq;rcases hdA y hy with rfl | ⟨hyP,hyA,hd⟩
     · rw[u1]at hyu;cases hyu
     · have:=hM.facts y hyP;refine⟨by rw[<-ey];exact hF c hc _ (aa9 hyP hyu hyc),fun z hz _=> ?_⟩;have:=(hpf z hz).2;have:=hA y hyA;omega
   · rw[g1,aba,abz,aaI,u1];rw[hb,abz]at hadj;simp only[Bool.and_eq_true,Bool.or_true]at hadj ⊢;exact⟨hadj.1,trivial,rfl⟩
 · have hzf:=hM.facts z hz;have hzA:z∈A:=by
    rw[hb]at hz;rcases List.mem_append.1 hz with hz | hz
    · exact hz
    · have:=hp z (by simpa using hz);rw[hzu]at this;cases this
   have hd:=hA z hzA;have k:=k1.pay hM.facts hM.ls.st.apart hz hzu hi;obtain⟨i1,i2⟩:=hi;rw[acw hs1 hle i (by omega),k,afR _ _ _ (by omega)]
theorem ahC (hg:∀x∈H.blks,aa2 bs (x.off:Int)=some x) (s:Nat):∀L:List Nat,(∀o∈L,∃i,atB (o:Int) H.blks=some i)->L.find? (fun o=>decide ((s:Int)<=(szB bs o:Int)))=(afy H.blks s L).map fun i=>(aam H.blks i).off
 | [],_=>rfl
 | o::r,hL=>by
  obtain⟨i,hi⟩:=hL o (by simp);obtain⟨h1,h2⟩:=afm hi;have h2:(aam H.blks i).off=o:=by omega
  have hz:szB bs o=(aam H.blks i).size:=by
   rw[<-h2];exact ar4 (hg _ (List.mem_of_getElem? (aar h1)))
  have ih:=ahC hg s r fun q hq=>hL q (by simp[hq]);unfold afy;rw[hi];dsimp only;by_cases hle:s<=(aam H.blks i).size
  · rw[List.find?_cons_of_pos (by rw[hz];exact decide_eq_true (by omega)),if_pos hle,Option.map_some,h2]
  · rw[List.find?_cons_of_neg (by rw[hz];simp;omega),if_neg hle];exact ih
theorem Rt.findsC (h:Rt bs H) (s:Nat):∀k c,c+k=22->agQ bs (s:Int) k c=some (((H.findC s k c).map fun i=>(aam H.blks i).off).getD 0)
 | 0,_,_=>rfl
 | k+1,c,hc=>by
  unfold agQ Hp.findC;rw[h.all_ c (by omega)];dsimp only;rw[ahC (aaj h.walk).2.2 s (H.lists c) (h.listed c (by omega))]
  cases afy H.blks s (H.lists c)with
  | none=>exact h.findsC s k (c+1) (by omega)
  | some i=>rfl
theorem Rt.finds (h:Rt bs H){s:Nat}(hs:aaD (s:Int)=true):aoh bs (s:Int)=some (((H.find s).map fun i=>(aam H.blks i).off).getD 0):=by
 unfold aoh Hp.find;refine h.findsC s _ _ ?_;obtain⟨c,h1,h2⟩:=abs (x:=⟨0,s,false⟩) hs;have h1:aap (s:Int)=(c:Int):=h1;omega
end
section
variable {bs:List UInt8} {H:Hp}
theorem Rt.mid (h:Rt bs H) (hc:H.cap<=16384){A B:List Bk}{x:Bk}(hb:H.blks=A++x::B):(∀y∈A,32<=y.size/\y.off+y.size<=x.off)/\(∀y∈B,x.off+x.size<=y.off)/\aaD (x.size:Int)=true/\184<=x.off/\32<=x.size/\x.off+x.size<=bs.length:=by
 have hM:=h.md hc;have ht:=hM.tl;rw[hb]at ht;obtain⟨_,t2,_,_,t5,t6,tA,tB⟩:=afS ht;have hf:=hM.facts;have hx:=hf x (by rw[hb];simp);exact⟨fun y hy=>⟨(hf y (by rw[hb];simp[hy])).2,tA y hy⟩,tB,t2,t5,hx.2,t6⟩
theorem Rt.gave (h:Rt bs H) (hc:H.cap<=16384){A1 B1:List Bk}{p n:Option Bk}{x:Bk}(hb:H.blks=(A1++p.toList)++x::(n.toList++B1)) (hN:ak4 A1 p n B1){out:List UInt8}
 (hP:∀z∈H.blks,z.used=true->z≠x->∀i,Pay z i->out[i]?=bs[i]?):Held H bs (H.give (A1++p.toList).length) out:=by
 intro z hz hzu y hy hyu e i i1 i2 i3;obtain⟨tA,tB,_,_,t5,_⟩:=h.mid hc hb;obtain⟨gb,_⟩:=ak6 hb hN;by_cases hzx:z=x
 · exfalso;subst hzx;rw[gb]at hy;rcases List.mem_append.1 hy with hy | hy
   · have:=tA y (by simp[hy]);omega
   · rcases List.mem_cons.1 hy with rfl | hy
     · cases hyu
     · have:=tB y (by simp[hy]);omega
 · exact hP z hz hzu hzx i ⟨i1,i2⟩
theorem Rt.cutting (h:Rt bs H) (hc:H.cap<=16384){A B:List Bk}{xo xs:Nat}(hb:H.blks=A++⟨xo,xs,true⟩::B){s:Nat}(hs:aaD (s:Int)=true) (hle:s+32<=xs):
 ∃(b1 b2:List UInt8) (H1:Hp) (A1 B1:List Bk) (p n:Option Bk),ad5 bs (xo:Int) (s:Int) true=some b1/\ad5 b1 ((xo+s:Nat):Int) ((xs-s:Nat):Int) true=some b2/\b1.length=bs.length/\b2.length=bs.length/\
  H1.cap=H.cap/\Rt b2 H1/\H1.blks=(A1++p.toList)++⟨xo+s,xs-s,true⟩::(n.toList++B1)/\ak4 A1 p n B1/\H1.give (A1++p.toList).length=H.cut A.length s/\
  ∀out:List UInt8,(∀z∈H1.blks,z.used=true->z≠⟨xo+s,xs-s,true⟩->∀i,Pay z i->out[i]?=b2[i]?)->Held H bs (H.cut A.length s) out/\∀z∈H.blks,z.used=true->z.off≠xo->∀i,Pay z i->out[i]?=bs[i]?:=by
 obtain⟨s1,s2,l1,l2,hblk,hR1,P1,P2⟩:=h.cuts hc hb rfl hs hle;obtain⟨tA,tB,_,t4,t5,_⟩:=h.mid hc hb;dsimp only at s1 s2 l1 l2 hblk hR1 P1 P2 tA tB t4 t5;have q:=(aac _).1 hs;obtain⟨H1,hH1⟩:=nmE (((H.use A.length true).size A.length s).put (A.length+1) ⟨xo+s,xs-s,true⟩);rw[hH1]at hblk hR1;obtain⟨A1,p,n,B1,eA,eB,hN⟩:=ak5 (A++ [⟨xo,s,true⟩]) B;have hlen:(A1++p.toList).length=A.length+1:=by rw[<-eA];simp
 have hbx:aam H.blks A.length=⟨xo,xs,true⟩:=by rw[hb,adW]
 have hcut:H1.give (A1++p.toList).length=H.cut A.length s:=by
  unfold Hp.cut;rw[hbx];dsimp only;rw[if_neg (by omega),hH1,hlen]
 have hb1:H1.blks=(A1++p.toList)++⟨xo+s,xs-s,true⟩::(n.toList++B1):=by rw[hblk,eA,eB]
 refine⟨_,_,H1,A1,B1,p,n,s1,s2,l1,l2,by rw[<-hH1];rfl,hR1,hb1,hN,hcut,fun out hP=> ?_⟩;have hz:∀z∈H.blks,z.used=true->z.off≠xo->∀i,Pay z i->out[i]?=bs[i]?:=fun z hz hzu hzo i hi=>by
  have hne:z≠⟨xo,xs,true⟩:=fun e=>hzo (by rw[e]);rw[<-P1 z hz hne i hi];rw[hb]at hz;rcases List.mem_append.1 hz with hz | hz
  · have:=tA z hz;exact hP z (by rw[hblk];simp[hz]) hzu (fun e=>by rw[e]at this;dsimp only at this;omega) i hi
  · rcases List.mem_cons.1 hz with hz | hz
    · exact absurd hz hne
    · have:=tB z hz;exact hP z (by rw[hblk];simp[hz]) hzu (fun e=>by rw[e]at this;dsimp only at this;omega) i hi
 refine⟨fun z hzm hzu y hy hyu e i i1 i2 i3=> ?_,hz⟩;by_cases hzo:z.off=xo
 · rw[<-hcut]at hy;obtain⟨gb,_⟩:=ak6 hb1 hN;rw[gb]at hy;have hy1:y=⟨xo,s,true⟩:=by
    rcases List.mem_append.1 hy with hy | hy
    · have hy:y∈A++ [⟨xo,s,true⟩]:=by rw[eA];simp[hy]
      rcases List.mem_append.1 hy with hy | hy
      · have:=tA y hy;omega
      · simpa using hy
    · rcases List.mem_cons.1 hy with rfl | hy
      · cases hyu
      · have hy:y∈B:=by rw[eB];simp[hy]
        have:=tB y hy;omega
   subst hy1;dsimp only at i3 e;rw[<-P2 i ⟨by dsimp only;omega,i3⟩];exact hP ⟨xo,s,true⟩ (by rw[hblk];simp) rfl (fun e=>by injection e with e1 e2;omega) i ⟨by dsimp only;omega,i3⟩
 · exact hz z hzm hzu hzo i ⟨i1,i2⟩
theorem Rt.uncut (h:Rt bs H){A B:List Bk}{xo xs:Nat}(hb:H.blks=A++⟨xo,xs,true⟩::B){s:Nat}(hlt:xs<s+32):Rt bs (H.cut A.length s)/\Held H bs (H.cut A.length s) bs:=by
 have hbx:aam H.blks A.length=⟨xo,xs,true⟩:=by rw[hb,adW]
 have hcut:H.cut A.length s=H.use A.length true:=by
  unfold Hp.cut;rw[hbx];dsimp only;rw[if_pos (by omega)]
 refine⟨?_,fun _ _ _ _ _ _ _ _ _ _ _=>rfl⟩;rw[hcut];refine h.congr ?_ rfl rfl;rw[agw hb true,hb]
end
theorem asY{H:Hp}{i:Nat}(hi:i<H.blks.length):(H.use i true).use i true=H.use i true:=by
 have e:aam (H.use i true).blks i={aam H.blks i with used:=true}:=by
  show aam (H.blks.set i _) i=_;rw[acu _ _ _ _ hi,if_pos rfl]
 unfold Hp.use at e ⊢;dsimp only at e ⊢;rw[e,List.set_set]
theorem asZ{H:Hp}{i s:Nat}(hi:i<H.blks.length):(H.use i true).cut i s=H.cut i s:=by
 have e:aam (H.use i true).blks i={aam H.blks i with used:=true}:=by
  show aam (H.blks.set i _) i=_;rw[acu _ _ _ _ hi,if_pos rfl]
 unfold Hp.cut;rw[e,asY hi]
theorem ank (r:List Bk) (y:Bk):aci (r++ [y])=if y.used=true then 0 else y.size:=by
 have e:aam (r++ [y]) ((r++ [y]).length-1)=y:=by
  rw[show(r++ [y]).length-1=r.length by simp];exact adW r y []
 unfold aci;rw[if_neg (by simp),e]
section
variable {bs:List UInt8} {H:Hp}
theorem Rt.tail (h:Rt bs H) (hc:H.cap<=16384):∃A p,H.blks=A++p.toList/\(∀y,p=some y->y.used=false)/\frO (abD bs (bs.length:Int))=p/\aci H.blks=aa7 p.toList:=by
 have hM:=h.md hc;have hb:H.blks=H.blks++ []:=by simp
 rcases hM.ends hb (o:=bs.length) h.lenE.symm with⟨e1,e2⟩ | ⟨r,y,e1,e2⟩
 · refine⟨[],none,e1,fun y hy=>(by cases hy),?_,?_⟩
   · rw[e2];rfl
   · rw[e1];rfl
 · have e3:=ank r y
   cases hu:y.used with
   | true=>
    rw[hu,if_pos rfl]at e3;refine⟨H.blks,none,by simp,fun y hy=>(by cases hy),?_,by rw[e1,e3];rfl⟩;rw[e2];show(if y.used=true then none else some y)=none;rw[hu,if_pos rfl]
   | false=>
    rw[hu,if_neg (by simp)]at e3;refine⟨r,some y,e1,?_,?_,by rw[e1,e3];simp[aa7]⟩
    · intro z hz
      cases hz;exact hu
    rw[e2];show(if y.used=true then none else some y)=some y;rw[hu,if_neg (by simp)]
theorem ars{s i:Nat}(hf:H.find s=some i):H.take s=(some (aam H.blks i).off,(H.out i).cut i s):=by
 unfold Hp.take;rw[hf]
theorem apx{s:Nat}(hf:H.find s=none) (hcap:H.cap<lenB H.blks+s-aci H.blks):H.take s=(none,H):=by
 unfold Hp.take;rw[hf];dsimp only;rw[if_pos hcap]
theorem art{s:Nat}(hf:H.find s=none) (hcap:¬H.cap<lenB H.blks+s-aci H.blks){A:List Bk}{p:Option Bk}(hb:H.blks=A++p.toList) (ht:aci H.blks=aa7 p.toList)
 (hp:∀y,p=some y->y.off=184+aa7 A/\0<y.size):∃H',H.take s=(some (184+aa7 A),H')/\H'.blks=A++ [⟨184+aa7 A,s,true⟩]/\H'.lists=tkO H.lists p/\H'.cap=H.cap:=by
 refine⟨(H.take s).2,?_,?_,?_,?_⟩
 · have:(H.take s).1=some (184+aa7 A):=by
    unfold Hp.take;rw[hf];dsimp only;rw[if_neg hcap]
    cases p with
    | none=>
     have e:aci H.blks=0:=ht;rw[e,if_neg (by omega)];rw[hb];simp[lenB]
    | some y=>
     have e:aci H.blks=y.size:=by rw[ht];simp[aa7]
     obtain⟨h1,h2⟩:=hp y rfl;rw[e,if_pos h2];have e2:H.blks.length-1=A.length:=by rw[hb];simp
     rw[e2,hb];show some (aam (A++y:: []) A.length).off=_;rw[adW,h1]
   rw[<-this]
 · unfold Hp.take;rw[hf];dsimp only;rw[if_neg hcap]
   cases p with
   | none=>
    have e:aci H.blks=0:=ht;rw[e,if_neg (by omega)];have hb':H.blks=A:=by rw[hb];simp
    show H.blks.take H.blks.length++_::H.blks.drop H.blks.length=_;rw[List.take_length,List.drop_length,hb'];rfl
   | some y=>
    have e:aci H.blks=y.size:=by rw[ht];simp[aa7]
    obtain⟨h1,h2⟩:=hp y rfl;rw[e,if_pos h2];have e2:H.blks.length-1=A.length:=by rw[hb];simp
    rw[e2];have hb2:(H.out A.length).blks=A++y:: []:=hb;have:=agw (ami hb2 s) true;show(((H.out A.length).size A.length s).use A.length true).blks=_;rw[this,<-h1]
 · unfold Hp.take;rw[hf];dsimp only;rw[if_neg hcap]
   cases p with
   | none=>
    have e:aci H.blks=0:=ht;rw[e,if_neg (by omega)];rfl
   | some y=>
    have e:aci H.blks=y.size:=by rw[ht];simp[aa7]
    obtain⟨h1,h2⟩:=hp y rfl;rw[e,if_pos h2];have e2:H.blks.length-1=A.length:=by rw[hb];simp
    rw[e2];show(H.out A.length).lists=_;rw[agx hb];rfl
 · exact take_cap
theorem Rt.usedHeld (h:Rt bs H) (hc:H.cap<=16384){A B:List Bk}{xo xs:Nat}(hb:H.blks=A++⟨xo,xs,false⟩::B){b2 out:List UInt8}{H2 H3:Hp}(hb2:H2.blks=A++⟨xo,xs,true⟩::B)
 (h1:∀z∈H.blks,z.used=true->∀i,Pay z i->b2[i]?=bs[i]?) (h2:∀z∈H2.blks,z.used=true->z.off≠xo->∀i,Pay z i->out[i]?=b2[i]?):Held H bs H3 out:=by
 intro z hz hzu y _ _ _ i i1 i2 _;have hp:Pay z i:=⟨i1,i2⟩;obtain⟨tA,tB,_,t4,t5,_⟩:=h.mid hc hb;dsimp only at tA tB t4 t5;rw[<-h1 z hz hzu i hp];rw[hb]at hz;rcases List.mem_append.1 hz with hz | hz
 · have:=tA z hz;exact h2 z (by rw[hb2];simp[hz]) hzu (by omega) i hp
 · rcases List.mem_cons.1 hz with hz | hz
   · rw[hz]at hzu;cases hzu
   · have:=tB z hz;exact h2 z (by rw[hb2];simp[hz]) hzu (by omega) i hp
end
theorem apy{l:List Bk}(h:afz false l=true):afz true l=true:=by
 cases l with
 | nil=>rfl
 | cons y r=>
  rw[aaI,Bool.false_or,Bool.and_eq_true]at h;rw[aaI,Bool.true_or,Bool.true_and];exact h.2
section
variable {bs:List UInt8} {H:Hp}
theorem aiy{A B1:List Bk}{n:Option Bk}{xo xs:Nat}(hb:H.blks=A++⟨xo,xs,true⟩::(n.toList++B1)) (hf:∀y,n=some y->y.used=false) (hu:n=none->∀y r,B1=y::r->y.used=true):
 (H.widen A.length).blks=A++⟨xo,xs+(n.map Bk.size).getD 0,true⟩::B1/\(H.widen A.length).lists=tkO H.lists n/\agV H.blks A.length=xs+(n.map Bk.size).getD 0/\acC H.blks A.length=n.isSome:=by
 have hbk:aam H.blks A.length=⟨xo,xs,true⟩:=by rw[hb,adW]
 have hi:A.length<H.blks.length:=by rw[hb];simp
 cases n with
 | none=>
  have hn:acC H.blks A.length=false:=by
   rw[hb,agy]
   cases B1 with
   | nil=>rfl
   | cons y r=>
    show(!y.used)=false;rw[hu rfl y r rfl];rfl
  have e:=akZ hn;rw[hbk]at e;refine⟨?_,?_,e,by rw[hn];rfl⟩
  · rw[(aff hn hi).1,hb];rfl
  · unfold Hp.widen;rw[ahv hn];rfl
 | some m=>
  have hm:=hf m rfl;have hn:acC H.blks A.length=true:=by
   rw[hb,agy];show(!m.used)=true;rw[hm];rfl
  have e:=air hn;have hbk1:aam H.blks (A.length+1)=m:=by rw[hb];exact ak3 A _ m B1
  rw[hbk,hbk1]at e;refine⟨?_,?_,e,by rw[hn];rfl⟩
  · rw[(afe hn).1];exact aix (H:=H.out (A.length+1)) (y:=⟨xo,xs,true⟩) (z:=m) hb
  · have hb':H.blks=(A++ [⟨xo,xs,true⟩])++m::B1:=by rw[hb];simp
    have:=agx hb';rw[List.length_append,List.length_singleton]at this;unfold Hp.widen;rw[ags hn];exact this
theorem Rt.wide (h:Rt bs H) (hc:H.cap<=16384){A B1:List Bk}{n:Option Bk}{xo xs n0 t:Nat}(hb:H.blks=A++⟨xo,xs,true⟩::(n.toList++B1)) (hf:∀y,n=some y->y.used=false)
 (ht:t=xs+(n.map Bk.size).getD 0+n0) (hend:n0=0\/B1= []) (hs:aaD (t:Int)=true) (hcap:bs.length+n0<=H.cap):
 ∃b1,apw (bs++List.replicate n0 0) n=some b1/\ad5 b1 (xo:Int) (t:Int) true=some (aaT b1 ⟨xo,t,true⟩)/\b1.length=bs.length+n0/\(aaT b1 ⟨xo,t,true⟩).length=bs.length+n0/\
  (∀H':Hp,H'.blks=A++⟨xo,t,true⟩::B1->H'.lists=tkO H.lists n->H'.cap=H.cap->Rt (aaT b1 ⟨xo,t,true⟩) H')/\
  (∀z∈H.blks,z.used=true->z.off≠xo->∀i,Pay z i->(aaT b1 ⟨xo,t,true⟩)[i]?=bs[i]?)/\∀i,Pay ⟨xo,xs,true⟩ i->(aaT b1 ⟨xo,t,true⟩)[i]?=bs[i]?:=by
 have hM:=h.md hc;have hF:=h.complete;have hadj:afz true H.blks=true:=by rw[<-aba];exact h.nfree.2.1
 have htl:=hM.tl;rw[hb]at htl;obtain⟨t1,t2,t3,t4,t5,t6,tA,tB⟩:=afS htl;dsimp only at t1 t2 t3 t4 t5 t6 tA tB;rw[aaC]at t3;obtain⟨t7,t8⟩:=t3;have hl0:=hM.ls.len;have ss:=(aac _).1 hs;have sx:=(aac _).1 t2;have hnz:(n.map Bk.size).getD 0=aa7 n.toList:=by cases n<;>simp[aa7]
 have hB1:=(aak _ _ _ t8).2;have hle8:=(aak _ _ _ t8).1;have hlm:(bs++List.replicate n0 (0:UInt8)).length=bs.length+n0:=by rw[List.length_append,List.length_replicate]
 have hnm:∀y,n=some y->y∈H.blks/\xo+xs<=y.off/\y.off+y.size<=xo+xs+aa7 n.toList:=fun y hy=>by
  rw[hy]at t7;obtain⟨a,_,_⟩:=t7;refine⟨by rw[hb,hy];simp,by omega,?_⟩;rw[hy];simp[aa7];omega
 obtain⟨b1,e1,L1,l1,k1,w1⟩:=(hM.ls.more n0 (by omega)).takeO n (fun y hy=>by
  have hyP:=(hnm y hy).1;obtain⟨c1,c2⟩:=ac7 (hM.ls.st.facts hyP).2.2.2.2.2;exact⟨hyP,hF _ c2 _ (aa9 hyP (hf y hy) c1)⟩)
 obtain⟨y1,hy1⟩:∃y1:Bk,y1=⟨xo,t,true⟩:=⟨_,rfl⟩;have o1:y1.off=xo:=by rw[hy1]
 have z1:y1.size=t:=by rw[hy1]
 have u1:y1.used=true:=by rw[hy1]
 have hs1:aaD (y1.size:Int)=true:=by rw[z1];exact hs
 have hendl:xo+xs+aa7 n.toList<=bs.length/\(n0=0\/xo+xs+aa7 n.toList=bs.length):=by
  refine⟨hle8,hend.imp id fun e=> ?_⟩;rw[e]at t8;exact t8
 have hle:y1.off+y1.size<=b1.length:=by omega
 have s1:ad5 b1 (y1.off:Int) (y1.size:Int) y1.used=some (aaT b1 y1):=aen b1 y1 (by omega) (by omega) hle hs1;have l2:(aaT b1 y1).length=b1.length:=aa4 hs1 hle;rw[o1,z1,u1]at s1;rw[<-hy1];have inB:∀y∈B1,y1.off+y1.size<=y.off:=fun y hy=>by
  rcases hend with e | e
  · have:=(hB1 y hy).1;omega
  · rw[e]at hy;cases hy
 have hdA:∀y∈A++y1::B1,y=y1\/(y∈H.blks/\(y.off+y.size<=y1.off\/y1.off+y1.size<=y.off)):=fun y hy=>by
  rcases List.mem_append.1 hy with hy | hy
  · exact .inr ⟨by rw[hb];simp[hy], .inl (by have:=tA y hy;omega)⟩
  · rcases List.mem_cons.1 hy with rfl | hy
    · exact .inl rfl
    · exact .inr ⟨by rw[hb];simp[hy], .inr (inB y hy)⟩
 have L2:Lists (aaT b1 y1) (A++y1::B1) (tkO H.lists n):=by
  refine L1.set (by omega) (by omega) hle hs1 hdA fun c hc q hq=> ?_;rw[ads]at hq;obtain⟨y,hy,ey,hyu,hyc⟩:=hM.ls.mem c hc q hq.1;have hy':=hy;rw[hb]at hy;rcases List.mem_append.1 hy with hy | hy
  · exact⟨y,by simp[hy],hy',ey, .inl (by have:=tA y hy;omega)⟩
  · rcases List.mem_cons.1 hy with rfl | hy
    · cases hyu
    · rcases List.mem_append.1 hy with hy | hy
      · obtain⟨c1,_⟩:=ac7 (hM.ls.st.facts hy').2.2.2.2.2;exact absurd ey.symm (hq.2 y (by simpa using hy) (by omega))
      · exact⟨y,by simp[hy],hy',ey, .inr (inB y hy)⟩
 refine⟨b1,e1,s1,by omega,by omega,fun H' g1 g2 g3=> ?_,fun z hz hzu hzo i hi=> ?_,fun i hi=> ?_⟩
 · have hi:=hM.hi;have hi2:aaf (bs++List.replicate n0 (0:UInt8)) 0=aaf bs 0:=ab4 _ _ _ (by omega);have M:Md (aaT b1 y1) H':=by
    refine⟨?_,by rw[g1,g2];exact L2,?_,by rw[g3];omega⟩
    · rw[g1,aaC];have q0:xo=184+aa7 A:=aeB _ _ _ t1;rw[<-q0];refine⟨t1,o1,hs1,?_⟩;rw[l2,l1,hlm,z1];rcases hend with e | e
      · rw[show xo+t=xo+xs+aa7 n.toList by omega,show bs.length+n0=bs.length by omega];exact t8
      · rw[e];show xo+t=bs.length+n0;have:=hendl.2;rw[e]at t8;have t8:xo+xs+aa7 n.toList=bs.length:=t8;omega
    · rw[aaQ hs1 hle _ (by omega)];omega
   refine M.rt (fun c hc q hq=> ?_) ?_
   · rw[g1]at hq;rw[g2,ads];obtain⟨y,hy,ey,hyu,hyc⟩:=abt hq;rcases hdA y hy with rfl | ⟨hyP,hd⟩
     · rw[u1]at hyu;cases hyu
     · have:=hM.facts y hyP;refine⟨by rw[<-ey];exact hF c hc _ (aa9 hyP hyu hyc),fun z hz _=> ?_⟩;have:=hnm z hz;have:=hM.facts z (hnm z hz).1;omega
   · rw[g1,aba,abz,aaI,u1];rw[hb,abz,aaI]at hadj;simp only[Bool.and_eq_true,Bool.or_true]at hadj ⊢;refine⟨hadj.1,trivial,?_⟩;have h2:=hadj.2.2
     cases n with
     | none=>exact h2
     | some m=>
      have hm:=hf m rfl;have h2:afz true (m::B1)=true:=h2;rw[aaI,hm,Bool.and_eq_true]at h2;exact apy h2.2
 · have hd:z.off+z.size<=y1.off\/y1.off+y1.size<=z.off:=by
    rw[hb]at hz;rcases List.mem_append.1 hz with hz | hz
    · exact .inl (by have:=tA z hz;omega)
    · rcases List.mem_cons.1 hz with rfl | hz
      · exact absurd rfl hzo
      · rcases List.mem_append.1 hz with hz | hz
        · have:=hf z (by simpa using hz);rw[hzu]at this;cases this
        · exact .inr (inB z hz)
   have hzf:=hM.ls.st.facts hz;have k:=k1.pay hM.facts hM.ls.st.apart hz hzu hi;obtain⟨i1,i2⟩:=hi;rw[acw hs1 hle i (by omega),k,afR _ _ _ (by omega)]
 · have hxP:(⟨xo,xs,true⟩:Bk)∈H.blks:=by rw[hb];simp
   have k:=k1.pay hM.facts hM.ls.st.apart hxP rfl hi;obtain⟨i1,i2⟩:=hi;dsimp only at i1 i2;have hzf:=hM.ls.st.facts hxP;dsimp only at hzf;rw[acw hs1 hle i (by omega),k,afR _ _ _ (by omega)]
end
open Go.RowKit
inductive QT where
 | fin:QT
 | one:Nat->QT->QT
 | two:Nat->QT->Nat->QT->QT
 | three:Nat->QT->Nat->QT->Nat->QT->QT
section
variable {P:Program} {ops:Array Oper} {Q:Exit->Act->World->Prop} {T:List Nat}
def ak8 (T:List Nat):QT->Nat
 | .fin=>T.length
 | .one _ q=>1+ak8 T q
 | .two _ q _ _=>1+ak8 T q
 | .three _ q _ _ _ _=>1+ak8 T q
def agz (ops:Array Oper) (T:List Nat):Array Bool->QT->Bool
 | l, .fin=>asv ops l T
 | l, .one i q=>Region.ready .any ops l== [i]&&(!mv ops i&&agz ops T (l.setIfInBounds i true) q)
 | l, .two i q j r=>Region.ready .any ops l== [i,j]&&(!mv ops i&&(!mv ops j&&(ak8 T q==ak8 T r&&(agz ops T (l.setIfInBounds i true) q&&agz ops T (l.setIfInBounds j true) r))))
 | l, .three i q j r k s=>Region.ready .any ops l== [i,j,k]&&(!mv ops i&&(!mv ops j&&(!mv ops k&&(ak8 T q==ak8 T r&&(ak8 T q==ak8 T s&&(agz ops T (l.setIfInBounds i true) q&&(agz ops T (l.setIfInBounds j true) r&&agz ops T (l.setIfInBounds k true) s)))))))
def wpQ (P:Program) (ops:Array Oper) (Q:Exit->Act->World->Prop) (T:List Nat) (B:Nat):QT->Act->World->Prop
 | .fin,a,w=>wpList P ops Q (pick ops T) a w
 | .one i q,a,w=>wpOp P ops Q i (fun a' w'=>Below B w w'/\wpQ P ops Q T B q a' w') a w
 | .two i q j r,a,w=>wpOp P ops Q i (fun a' w'=>Below B w w'/\wpQ P ops Q T B q a' w') a w/\wpOp P ops Q j (fun a' w'=>Below B w w'/\wpQ P ops Q T B r a' w') a w
 | .three i q j r k s,a,w=>wpOp P ops Q i (fun a' w'=>Below B w w'/\wpQ P ops Q T B q a' w') a w/\wpOp P ops Q j (fun a' w'=>Below B w w'/\wpQ P ops Q T B r a' w') a w/\wpOp P ops Q k (fun a' w'=>Below B w w'/\wpQ P ops Q T B s a' w') a w
theorem ahD{B n i:Nat}{q:QT}{l:Array Bool}{a:Act}{w:World}(hm:mv ops i=false)
 (ih:∀a w,wpQ P ops Q T B q a w->abN P ops Q (Below B w) T n (l.setIfInBounds i true) a w)
 (h:wpOp P ops Q i (fun a' w'=>Below B w w'/\wpQ P ops Q T B q a' w') a w):
 wpOp P ops Q i (fun a' w'=>(i∉T->mv ops i=false->Below B w w')/\(mv ops i=true->w'=w)/\abN P ops Q (Below B w) T n (l.setIfInBounds i true) a' w') a w:=
 wpOp_mono (fun a' w' hh=>by
  refine⟨fun _ _=>hh.1,fun e=> ?_,aa3 (fun w3 h4=>hh.1.trans h4) _ _ _ _ (ih a' w' hh.2)⟩;rw[hm]at e
  cases e) h
theorem acN (B:Nat):∀(q:QT) (l:Array Bool) (a:Act) (w:World),agz ops T l q=true->wpQ P ops Q T B q a w->abN P ops Q (Below B w) T (ak8 T q) l a w
 | .fin,l,a,w,hc,h=>aet (fun _ h=>h) T l a w (fun _ h=>h) hc h
 | .one i q,l,a,w,hc,h=>by
  simp only[agz,Bool.and_eq_true,beq_iff_eq,Bool.not_eq_true']at hc;obtain⟨h1,m1,c1⟩:=hc;have k:=ahD m1 (fun a w=>acN B q _ a w c1) h;show abN P ops Q (Below B w) T (1+ak8 T q) l a w;rw[Nat.add_comm];refine⟨fun h0=>(by rw[h1]at h0;cases h0),fun j hj=> ?_⟩;rw[h1]at hj;obtain rfl:j=i:=by simpa using hj
  exact k
 | .two i q j r,l,a,w,hc,h=>by
  simp only[agz,Bool.and_eq_true,beq_iff_eq,Bool.not_eq_true']at hc;obtain⟨h1,m1,m2,e2,c1,c2⟩:=hc;have k1:=ahD m1 (fun a w=>acN B q _ a w c1) h.1;have k2:=ahD m2 (fun a w=>acN B r _ a w c2) h.2;rw[<-e2]at k2;show abN P ops Q (Below B w) T (1+ak8 T q) l a w;rw[Nat.add_comm];refine⟨fun h0=>(by rw[h1]at h0;cases h0),fun j' hj=> ?_⟩;rw[h1]at hj;rcases List.mem_cons.1 hj with rfl | hj
  · exact k1
  · obtain rfl:j'=j:=by simpa using hj
    exact k2
 | .three i q j r k s,l,a,w,hc,h=>by
  simp only[agz,Bool.and_eq_true,beq_iff_eq,Bool.not_eq_true']at hc;obtain⟨h1,m1,m2,m3,e2,e3,c1,c2,c3⟩:=hc;have k1:=ahD m1 (fun a w=>acN B q _ a w c1) h.1;have k2:=ahD m2 (fun a w=>acN B r _ a w c2) h.2.1;have k3:=ahD m3 (fun a w=>acN B s _ a w c3) h.2.2;rw[<-e2]at k2;rw[<-e3]at k3;show abN P ops Q (Below B w) T (1+ak8 T q) l a w;rw[Nat.add_comm];refine⟨fun h0=>(by rw[h1]at h0;cases h0),fun j' hj=> ?_⟩;rw[h1]at hj;rcases List.mem_cons.1 hj with rfl | hj
  · exact k1
  · rcases List.mem_cons.1 hj with rfl | hj
    · exact k2
    · obtain rfl:j'=k:=by simpa using hj
      exact k3
theorem ak9{id:Nat}{a:Act}{w:World}(B:Nat) (rs:List Nat) (q:QT) (T:List Nat) (hm:P.follows .mixedOrders=true) (hsel:Region.noSelect ops=true)
 (hc:(anP ops T (Array.replicate ops.size false) rs&&(agz ops T (aiT (Array.replicate ops.size false) rs) q&&ak8 T q+rs.length==ops.size))=true)
 (hQ:∀c a t v w,Q (.panic c) (Act.put a (some t) v) w->Q (.panic c) a w)
 (h:wpQuiet P ops (ab7 B w.drew) (fun a'=>wpQ P ops Q T B q a' w.drew) (pick ops rs) a):(Code.region id ops true).wp P Q a w:=by
 simp only[Bool.and_eq_true,beq_iff_eq]at hc;obtain⟨h1,h2,h3⟩:=hc;have hs:=acO (T:=T) hsel hQ B w.drew _ (ak8 T q) rs _ a h1 h (fun a' ha=>acN B q _ a' _ h2 ha);rw[h3]at hs;exact wp_region_any hm (acW _ _ _ _ hs)
theorem at3{B:Nat}{rs:List Nat}{q:QT}{a:Act}{w:World}{l:List Oper}(hl:pick ops rs=l) (h:wpQuiet P ops (ab7 B w) (fun a'=>wpQ P ops Q T B q a' w) l a):wpQuiet P ops (ab7 B w) (fun a'=>wpQ P ops Q T B q a' w) (pick ops rs) a:=by
 subst hl;exact h
theorem au1{B:Nat}{a:Act}{w:World}{t:List Oper}(ht:pick ops T=t) (h:wpList P ops Q t a w):wpQ P ops Q T B .fin a w:=by
 subst ht;exact h
end
def Ag (S:List Nat) (a0 a:Act):Prop:=∀s∈S,a.tmps.getD s undef=a0.tmps.getD s undef
theorem Ag.refl (S:List Nat) (a:Act):Ag S a a:=fun _ _=>rfl
theorem Ag.put{S:List Nat}{a0 a:Act}(h:Ag S a0 a){d:Nat}(hd:d∉S) (v:Value):Ag S a0 (a.put (some d) v):=fun s hs=>by
 have hne:d≠s:=fun e=>hd (e▸hs);rw[<-h s hs];simp[Act.put,Array.getElem?_setIfInBounds_ne hne]
theorem adY{x y:Nat}(h:x≠y):∀d:Tmp,(some x:Option Tmp)=some d->(some y:Option Tmp)≠some d:=fun _ e k=>h (Option.some.inj (e.trans k.symm))
def adb (p:Nat):Value:= .pointer (some ⟨p,0,none⟩)
section
variable {P:Program} {ops:Array Oper} {Q:Exit->Act->World->Prop}
def Stp (P:Program) (ops:Array Oper) (Q:Exit->Act->World->Prop) (B:Nat) (w0:World) (S:List Nat) (a0:Act) (i d:Nat) (v:Value):Prop:=
 ∀(a:Act) (w:World) (K:Act->World->Prop),Ag S a0 a->Below B w0 w->(∀w',Below w.heap.size w w'->K (a.put (some d) v) w')->wpOp P ops Q i K a w
def Sta (P:Program) (ops:Array Oper) (Q:Exit->Act->World->Prop) (j e:Nat) (cs:Array Value) (ty:TypeId):Prop:=
 ∀(a:Act) (w:World) (K:Act->World->Prop),K (a.put (some e) (adb w.heap.size)) (w.alloc (.cells cs ty))->wpOp P ops Q j K a w
theorem amj{B i d:Nat}{w0:World}{S:List Nat}{a0:Act}{v:Value}{f:FuncId}{args:Array Operand}{tys:Array TypeId}{ty:TypeId}{pos:String}{after:Array Edge}
 (hf:∀(xs:Array Value) (w:World),(callFunc f xs).run P w= .ok (.enter f xs) w)
 (ho:ops[i]?=some {dst:=some d,op:= .call {callee:= .value (.func f),args:=args,argTypes:=tys},type:=ty,pos:=pos,after:=after,guard:=none})
 {vs:Array Value} (hvl:∀a,Ag S a0 a->args.toList.map a.eval=vs.toList)
 (hc:∀w,Below B w0 w->Calls P f vs w (fun e w'=>e= .returned v/\Below w.heap.size w w')):Stp P ops Q B w0 S a0 i d v:=by
 intro a w K ha hb hk;have hw:Region.wanted {dst:=some d,op:= .call {callee:= .value (.func f),args:=args,argTypes:=tys},type:=ty,pos:=pos,after:=after,guard:=none} (yielded ops a.tmps)=true:=rfl;unfold wpOp;simp only[ho];rw[if_pos hw];refine .inl ?_;have hvs:args.map a.eval=vs:=Array.ext' (by simpa using hvl a ha);subst hvs;unfold Oper.wp;rw[execOp_call_go,hf];simp only[Oper.upon,Array.empty_append,Array.append_empty];refine(hc w hb).mono fun e w' hh=> ?_;obtain⟨rfl,h1⟩:=hh;exact hk w' h1
theorem ajM{j e:Nat}{o:Oper}{cs:Array Value}{ty:TypeId}(ho:ops[j]?=some o) (hd:o.dst=some e) (hw:∀xs,Region.wanted o xs=true)
 (hr:∀(ρ:Operand->Value) (w:World),(execOp ρ o).run P w= .ok (.value (.pointer (some ⟨w.heap.size,0,none⟩))) (w.alloc (.cells cs ty))):Sta P ops Q j e cs ty:=by
 intro a w K hk;unfold wpOp;simp only[ho];rw[if_pos (hw _)];refine .inl ?_;unfold Oper.wp;rw[hr];show K (a.put o.dst _) _;rw[hd];exact hk
end
def aru (_ _ _ _:Nat):QT:= .fin
def arv (i1 i2 j1 j2:Nat):QT:= .one i2 (aru i1 i2 j1 j2)
def as0 (i1 i2 j1 j2:Nat):QT:= .one j1 (aru i1 i2 j1 j2)
def as1 (i1 i2 j1 j2:Nat):QT:= .one j2 (aru i1 i2 j1 j2)
def as2 (i1 i2 j1 j2:Nat):QT:= .one i1 (arv i1 i2 j1 j2)
def as3 (i1 i2 j1 j2:Nat):QT:= .two i2 (as0 i1 i2 j1 j2) j1 (arv i1 i2 j1 j2)
def as4 (i1 i2 j1 j2:Nat):QT:= .two i2 (as1 i1 i2 j1 j2) j2 (arv i1 i2 j1 j2)
def at6 (i1 i2 j1 j2:Nat):QT:= .two j1 (as1 i1 i2 j1 j2) j2 (as0 i1 i2 j1 j2)
def at7 (i1 i2 j1 j2:Nat):QT:= .two i1 (as3 i1 i2 j1 j2) j1 (as2 i1 i2 j1 j2)
def at9 (i1 i2 j1 j2:Nat):QT:= .two i1 (as4 i1 i2 j1 j2) j2 (as2 i1 i2 j1 j2)
def aua (i1 i2 j1 j2:Nat):QT:= .three i2 (at6 i1 i2 j1 j2) j1 (as4 i1 i2 j1 j2) j2 (as3 i1 i2 j1 j2)
def aub (i1 i2 j1 j2:Nat):QT:= .three i1 (aua i1 i2 j1 j2) j1 (at9 i1 i2 j1 j2) j2 (at7 i1 i2 j1 j2)
def auc (i1 i2 j1 j2:Nat):QT:=aub i1 i2 j1 j2
section
variable {P:Program} {ops:Array Oper} {Q:Exit->Act->World->Prop} {T:List Nat} {B i1 i2 j1 j2 d1 d2 e1 e2:Nat} {w0:World} {S:List Nat} {a0:Act} {v1 v2:Value} {cs:Array Value} {ty:TypeId}
structure ac8 (P:Program) (ops:Array Oper) (Q:Exit->Act->World->Prop) (T:List Nat) (B i1 i2 j1 j2 d1 d2 e1 e2:Nat) (w0:World) (S:List Nat) (a0:Act) (v1 v2:Value) (cs:Array Value) (ty:TypeId):Prop where
 s1:Stp P ops Q B w0 S a0 i1 d1 v1
 s2:Stp P ops Q B w0 S a0 i2 d2 v2
 t1:Sta P ops Q j1 e1 cs ty
 t2:Sta P ops Q j2 e2 cs ty
 n1:d1∉S
 n2:d2∉S
 n3:e1∉S
 n4:e2∉S
 e12:e1≠d1/\e1≠d2/\e2≠d1/\e2≠d2/\e2≠e1
 hB:B=w0.heap.size
 fin:∀(p1 p2:Nat) (w:World),B<=p1->B<=p2->p1≠p2->w.heap[p1]?=some (.cells cs ty (0,0))->w.heap[p2]?=some (.cells cs ty (0,0))->Below B w0 w->
  wpQ P ops Q T B .fin ((((a0.put (some d1) v1).put (some d2) v2).put (some e1) (adb p1)).put (some e2) (adb p2)) w
theorem ala (h:ac8 P ops Q T B i1 i2 j1 j2 d1 d2 e1 e2 w0 S a0 v1 v2 cs ty):∀(p1 p2:Nat) (w:World),Below B w0 w->B<=p1->w.heap[p1]?=some (.cells cs ty (0,0))->B<=p2->w.heap[p2]?=some (.cells cs ty (0,0))->p1≠p2->wpQ P ops Q T B (aru i1 i2 j1 j2) ((((a0.put (some d1) v1).put (some d2) v2).put (some e1) (adb p1)).put (some e2) (adb p2)) w:=by
 intro p1 p2 w hb b1 x1 b2 x2 ne;exact h.fin p1 p2 w b1 b2 ne x1 x2 hb
theorem alb (h:ac8 P ops Q T B i1 i2 j1 j2 d1 d2 e1 e2 w0 S a0 v1 v2 cs ty):∀(p1 p2:Nat) (w:World),Below B w0 w->B<=p1->w.heap[p1]?=some (.cells cs ty (0,0))->B<=p2->w.heap[p2]?=some (.cells cs ty (0,0))->p1≠p2->wpQ P ops Q T B (arv i1 i2 j1 j2) (((a0.put (some d1) v1).put (some e1) (adb p1)).put (some e2) (adb p2)) w:=by
 intro p1 p2 w hb b1 x1 b2 x2 ne;have hs:B<=w.heap.size:=Nat.le_trans (Nat.le_of_eq h.hB) hb.size;refine h.s2 _ _ _ (Ag.put (Ag.put (Ag.put (Ag.refl S a0) h.n1 v1) h.n3 (adb p1)) h.n4 (adb p2)) hb (fun w' hw=>⟨hw.mono hs,?_⟩);rw[Act.put_comm ((a0.put (some d1) v1).put (some e1) (adb p1)) (adb p2) v2 (adY h.e12.2.2.2.1),Act.put_comm (a0.put (some d1) v1) (adb p1) v2 (adY h.e12.2.1)];exact ala h p1 p2 w' (hb.trans (hw.mono hs)) b1 ((hw.block p1 (aae x1)).trans x1) b2 ((hw.block p2 (aae x2)).trans x2) ne
theorem apz (h:ac8 P ops Q T B i1 i2 j1 j2 d1 d2 e1 e2 w0 S a0 v1 v2 cs ty):∀(p2:Nat) (w:World),Below B w0 w->B<=p2->w.heap[p2]?=some (.cells cs ty (0,0))->wpQ P ops Q T B (as0 i1 i2 j1 j2) (((a0.put (some d1) v1).put (some d2) v2).put (some e2) (adb p2)) w:=by
 intro p2 w hb b2 x2;have hs:B<=w.heap.size:=Nat.le_trans (Nat.le_of_eq h.hB) hb.size;refine h.t1 _ _ _ ⟨(Below.refl _ _).alloc hs _,?_⟩;rw[Act.put_comm ((a0.put (some d1) v1).put (some d2) v2) (adb p2) (adb w.heap.size) (adY h.e12.2.2.2.2)];exact ala h w.heap.size p2 _ (hb.trans ((Below.refl _ _).alloc hs _)) hs (heap_alloc_new w _) b2 ((heap_alloc_old _ _ (aae x2)).trans x2) (fun e=>by have:=aae x2;omega)
theorem apA (h:ac8 P ops Q T B i1 i2 j1 j2 d1 d2 e1 e2 w0 S a0 v1 v2 cs ty):∀(p1:Nat) (w:World),Below B w0 w->B<=p1->w.heap[p1]?=some (.cells cs ty (0,0))->wpQ P ops Q T B (as1 i1 i2 j1 j2) (((a0.put (some d1) v1).put (some d2) v2).put (some e1) (adb p1)) w:=by
 intro p1 w hb b1 x1;have hs:B<=w.heap.size:=Nat.le_trans (Nat.le_of_eq h.hB) hb.size;refine h.t2 _ _ _ ⟨(Below.refl _ _).alloc hs _,?_⟩;exact ala h p1 w.heap.size _ (hb.trans ((Below.refl _ _).alloc hs _)) b1 ((heap_alloc_old _ _ (aae x1)).trans x1) hs (heap_alloc_new w _) (fun e=>by have:=aae x1;omega)
theorem apB (h:ac8 P ops Q T B i1 i2 j1 j2 d1 d2 e1 e2 w0 S a0 v1 v2 cs ty):∀(p1 p2:Nat) (w:World),Below B w0 w->B<=p1->w.heap[p1]?=some (.cells cs ty (0,0))->B<=p2->w.heap[p2]?=some (.cells cs ty (0,0))->p1≠p2->wpQ P ops Q T B (as2 i1 i2 j1 j2) ((a0.put (some e1) (adb p1)).put (some e2) (adb p2)) w:=by
 intro p1 p2 w hb b1 x1 b2 x2 ne;have hs:B<=w.heap.size:=Nat.le_trans (Nat.le_of_eq h.hB) hb.size;refine h.s1 _ _ _ (Ag.put (Ag.put (Ag.refl S a0) h.n3 (adb p1)) h.n4 (adb p2)) hb (fun w' hw=>⟨hw.mono hs,?_⟩);rw[Act.put_comm (a0.put (some e1) (adb p1)) (adb p2) v1 (adY h.e12.2.2.1),Act.put_comm a0 (adb p1) v1 (adY h.e12.1)];exact alb h p1 p2 w' (hb.trans (hw.mono hs)) b1 ((hw.block p1 (aae x1)).trans x1) b2 ((hw.block p2 (aae x2)).trans x2) ne
theorem apC (h:ac8 P ops Q T B i1 i2 j1 j2 d1 d2 e1 e2 w0 S a0 v1 v2 cs ty):∀(p2:Nat) (w:World),Below B w0 w->B<=p2->w.heap[p2]?=some (.cells cs ty (0,0))->wpQ P ops Q T B (as3 i1 i2 j1 j2) ((a0.put (some d1) v1).put (some e2) (adb p2)) w:=by
 intro p2 w hb b2 x2;have hs:B<=w.heap.size:=Nat.le_trans (Nat.le_of_eq h.hB) hb.size;refine⟨?_,?_⟩
 · refine h.s2 _ _ _ (Ag.put (Ag.put (Ag.refl S a0) h.n1 v1) h.n4 (adb p2)) hb (fun w' hw=>⟨hw.mono hs,?_⟩);rw[Act.put_comm (a0.put (some d1) v1) (adb p2) v2 (adY h.e12.2.2.2.1)];exact apz h p2 w' (hb.trans (hw.mono hs)) b2 ((hw.block p2 (aae x2)).trans x2)
 · refine h.t1 _ _ _ ⟨(Below.refl _ _).alloc hs _,?_⟩;rw[Act.put_comm (a0.put (some d1) v1) (adb p2) (adb w.heap.size) (adY h.e12.2.2.2.2)];exact alb h w.heap.size p2 _ (hb.trans ((Below.refl _ _).alloc hs _)) hs (heap_alloc_new w _) b2 ((heap_alloc_old _ _ (aae x2)).trans x2) (fun e=>by have:=aae x2;omega)
theorem apD (h:ac8 P ops Q T B i1 i2 j1 j2 d1 d2 e1 e2 w0 S a0 v1 v2 cs ty):∀(p1:Nat) (w:World),Below B w0 w->B<=p1->w.heap[p1]?=some (.cells cs ty (0,0))->wpQ P ops Q T B (as4 i1 i2 j1 j2) ((a0.put (some d1) v1).put (some e1) (adb p1)) w:=by
 intro p1 w hb b1 x1;have hs:B<=w.heap.size:=Nat.le_trans (Nat.le_of_eq h.hB) hb.size;refine⟨?_,?_⟩
 · refine h.s2 _ _ _ (Ag.put (Ag.put (Ag.refl S a0) h.n1 v1) h.n3 (adb p1)) hb (fun w' hw=>⟨hw.mono hs,?_⟩);rw[Act.put_comm (a0.put (some d1) v1) (adb p1) v2 (adY h.e12.2.1)];exact apA h p1 w' (hb.trans (hw.mono hs)) b1 ((hw.block p1 (aae x1)).trans x1)
 · refine h.t2 _ _ _ ⟨(Below.refl _ _).alloc hs _,?_⟩;exact alb h p1 w.heap.size _ (hb.trans ((Below.refl _ _).alloc hs _)) b1 ((heap_alloc_old _ _ (aae x1)).trans x1) hs (heap_alloc_new w _) (fun e=>by have:=aae x1;omega)
theorem as5 (h:ac8 P ops Q T B i1 i2 j1 j2 d1 d2 e1 e2 w0 S a0 v1 v2 cs ty):∀(w:World),Below B w0 w->wpQ P ops Q T B (at6 i1 i2 j1 j2) ((a0.put (some d1) v1).put (some d2) v2) w:=by
 intro w hb;have hs:B<=w.heap.size:=Nat.le_trans (Nat.le_of_eq h.hB) hb.size;refine⟨?_,?_⟩
 · refine h.t1 _ _ _ ⟨(Below.refl _ _).alloc hs _,?_⟩;exact apA h w.heap.size _ (hb.trans ((Below.refl _ _).alloc hs _)) hs (heap_alloc_new w _)
 · refine h.t2 _ _ _ ⟨(Below.refl _ _).alloc hs _,?_⟩;exact apz h w.heap.size _ (hb.trans ((Below.refl _ _).alloc hs _)) hs (heap_alloc_new w _)
theorem as6 (h:ac8 P ops Q T B i1 i2 j1 j2 d1 d2 e1 e2 w0 S a0 v1 v2 cs ty):∀(p2:Nat) (w:World),Below B w0 w->B<=p2->w.heap[p2]?=some (.cells cs ty (0,0))->wpQ P ops Q T B (at7 i1 i2 j1 j2) (a0.put (some e2) (adb p2)) w:=by
 intro p2 w hb b2 x2;have hs:B<=w.heap.size:=Nat.le_trans (Nat.le_of_eq h.hB) hb.size;refine⟨?_,?_⟩
 · refine h.s1 _ _ _ (Ag.put (Ag.refl S a0) h.n4 (adb p2)) hb (fun w' hw=>⟨hw.mono hs,?_⟩);rw[Act.put_comm a0 (adb p2) v1 (adY h.e12.2.2.1)];exact apC h p2 w' (hb.trans (hw.mono hs)) b2 ((hw.block p2 (aae x2)).trans x2)
 · refine h.t1 _ _ _ ⟨(Below.refl _ _).alloc hs _,?_⟩;rw[Act.put_comm a0 (adb p2) (adb w.heap.size) (adY h.e12.2.2.2.2)];exact apB h w.heap.size p2 _ (hb.trans ((Below.refl _ _).alloc hs _)) hs (heap_alloc_new w _) b2 ((heap_alloc_old _ _ (aae x2)).trans x2) (fun e=>by have:=aae x2;omega)
theorem as7 (h:ac8 P ops Q T B i1 i2 j1 j2 d1 d2 e1 e2 w0 S a0 v1 v2 cs ty):∀(p1:Nat) (w:World),Below B w0 w->B<=p1->w.heap[p1]?=some (.cells cs ty (0,0))->wpQ P ops Q T B (at9 i1 i2 j1 j2) (a0.put (some e1) (adb p1)) w:=by
 intro p1 w hb b1 x1;have hs:B<=w.heap.size:=Nat.le_trans (Nat.le_of_eq h.hB) hb.size;refine⟨?_,?_⟩
 · refine h.s1 _ _ _ (Ag.put (Ag.refl S a0) h.n3 (adb p1)) hb (fun w' hw=>⟨hw.mono hs,?_⟩);rw[Act.put_comm a0 (adb p1) v1 (adY h.e12.1)];exact apD h p1 w' (hb.trans (hw.mono hs)) b1 ((hw.block p1 (aae x1)).trans x1)
 · refine h.t2 _ _ _ ⟨(Below.refl _ _).alloc hs _,?_⟩;exact apB h p1 w.heap.size _ (hb.trans ((Below.refl _ _).alloc hs _)) b1 ((heap_alloc_old _ _ (aae x1)).trans x1) hs (heap_alloc_new w _) (fun e=>by have:=aae x1;omega)
theorem as8 (h:ac8 P ops Q T B i1 i2 j1 j2 d1 d2 e1 e2 w0 S a0 v1 v2 cs ty):∀(w:World),Below B w0 w->wpQ P ops Q T B (aua i1 i2 j1 j2) (a0.put (some d1) v1) w:=by
 intro w hb;have hs:B<=w.heap.size:=Nat.le_trans (Nat.le_of_eq h.hB) hb.size;refine⟨?_,?_,?_⟩
 · refine h.s2 _ _ _ (Ag.put (Ag.refl S a0) h.n1 v1) hb (fun w' hw=>⟨hw.mono hs,?_⟩);exact as5 h w' (hb.trans (hw.mono hs))
 · refine h.t1 _ _ _ ⟨(Below.refl _ _).alloc hs _,?_⟩;exact apD h w.heap.size _ (hb.trans ((Below.refl _ _).alloc hs _)) hs (heap_alloc_new w _)
 · refine h.t2 _ _ _ ⟨(Below.refl _ _).alloc hs _,?_⟩;exact apC h w.heap.size _ (hb.trans ((Below.refl _ _).alloc hs _)) hs (heap_alloc_new w _)
theorem as9 (h:ac8 P ops Q T B i1 i2 j1 j2 d1 d2 e1 e2 w0 S a0 v1 v2 cs ty):∀(w:World),Below B w0 w->wpQ P ops Q T B (aub i1 i2 j1 j2) a0 w:=by
 intro w hb;have hs:B<=w.heap.size:=Nat.le_trans (Nat.le_of_eq h.hB) hb.size;refine⟨?_,?_,?_⟩
 · refine h.s1 _ _ _ (Ag.refl S a0) hb (fun w' hw=>⟨hw.mono hs,?_⟩);exact as8 h w' (hb.trans (hw.mono hs))
 · refine h.t1 _ _ _ ⟨(Below.refl _ _).alloc hs _,?_⟩;exact as7 h w.heap.size _ (hb.trans ((Below.refl _ _).alloc hs _)) hs (heap_alloc_new w _)
 · refine h.t2 _ _ _ ⟨(Below.refl _ _).alloc hs _,?_⟩;exact as6 h w.heap.size _ (hb.trans ((Below.refl _ _).alloc hs _)) hs (heap_alloc_new w _)
theorem apE (h:ac8 P ops Q T B i1 i2 j1 j2 d1 d2 e1 e2 w0 S a0 v1 v2 cs ty):wpQ P ops Q T B (auc i1 i2 j1 j2) a0 w0:=as9 h w0 (Below.refl _ _)
end
def acS (k:Int) (g base cap:Nat) (A:Option Addr) (bs:List UInt8) (H:Hp) (y:Option Hp) (w:World) (e:Ending) (w':World):Prop:=
 match y with
 | none=>e= .returned (aat false k)/\Below w.heap.size w w'
 | some H'=>e= .returned (aat true k)/\∃out,Became 195 g base cap A out w w'/\Rt out H'/\Held H bs H' out
def ab5 (g base cap:Nat) (A:Option Addr) (bs:List UInt8) (H:Hp) (y:Option Nat × Hp) (w:World) (e:Ending) (w':World):Prop:=
 match y.1 with
 | none=>e= .returned (.tuple #[.int .i64 0,aat false 5])/\Below w.heap.size w w'
 | some o=>e= .returned (.tuple #[.int .i64 (o:Int),aat true 5])/\∃out,Became 195 g base cap A out w w'/\Rt out y.2/\Held H bs y.2 out
def au2:Prop:=∀(w:World) (g base cap c:Nat) (A:Option Addr) (bs:List UInt8) (H:Hp) (s:Int),Ar w 195 g base cap A c bs->base<=4611686018427387904->cap<=16384->H.cap=cap->Rt bs H->(-9223372036854775808<=s/\s<=9223372036854775807)->
 (aaD s=false->Calls Tryz.prog 188 #[.pointer (some ⟨g,0,none⟩), .int .i64 s] w fun e w'=>e= .returned (.tuple #[.int .i64 0,aat false 1])/\Below w.heap.size w w')/\
 (aaD s=true->Calls Tryz.prog 188 #[.pointer (some ⟨g,0,none⟩), .int .i64 s] w fun e w'=>ab5 g base cap A bs H (H.take s.toNat) w e w')
def au4:Prop:=∀(w:World) (g base cap c:Nat) (A:Option Addr) (bs:List UInt8) (H:Hp) (o:Int),Ar w 195 g base cap A c bs->base<=4611686018427387904->cap<=16384->H.cap=cap->Rt bs H->(-9223372036854775808<=o/\o<=9223372036854775807)->
 Calls Tryz.prog 127 #[.pointer (some ⟨g,0,none⟩), .int .i64 o] w fun e w'=>acS 3 g base cap A bs H (H.giveO o) w e w'
def au5:Prop:=∀(w:World) (g base cap c:Nat) (A:Option Addr) (bs:List UInt8) (H:Hp) (o s:Int),Ar w 195 g base cap A c bs->base<=4611686018427387904->cap<=16384->H.cap=cap->Rt bs H->(-9223372036854775808<=o/\o<=9223372036854775807)->(-9223372036854775808<=s/\s<=9223372036854775807)->
 (aaD s=false->Calls Tryz.prog 191 #[.pointer (some ⟨g,0,none⟩), .int .i64 o, .int .i64 s] w fun e w'=>e= .returned (aat false 1)/\Below w.heap.size w w')/\
 (aaD s=true->Calls Tryz.prog 191 #[.pointer (some ⟨g,0,none⟩), .int .i64 o, .int .i64 s] w fun e w'=>acS 3 g base cap A bs H (H.trimO o s.toNat) w e w')
def au6:Prop:=∀(w:World) (g base cap c:Nat) (A:Option Addr) (bs:List UInt8) (H:Hp) (o:Int),Ar w 195 g base cap A c bs->base<=4611686018427387904->cap<=16384->H.cap=cap->Rt bs H->(-9223372036854775808<=o/\o<=9223372036854775807)->
 Calls Tryz.prog 189 #[.pointer (some ⟨g,0,none⟩), .int .i64 o] w fun e w'=>aay ((aaY H.blks o).map (aam H.blks)) w e w'
def frV (o:Int):Option Bk->Value
 | none=> .agg #[.int .i64 o, .int .i64 0, .bool false]
 | some y=> .agg #[.int .i64 (y.off:Int), .int .i64 (y.size:Int), .bool false]
theorem acx{fn:Func}{R:Ending->World->Prop}{a:Act}{w:World}{p:Tmp}{g:Nat}{o s:Int}{b:Bool}(hres:fn.results= #[.cell p 112]) (hp:a.tmps.getD p undef= .pointer (some ⟨g,0,none⟩)) (hd:a.defers= [])
 (hg:w.heap[g]?=some (.cells #[.int .i64 o, .int .i64 s, .bool b] 112 (0,0))) (hR:R (.returned (.agg #[.int .i64 o, .int .i64 s, .bool b])) w):bodyPost Tryz.prog fn R .ret a w:=by
 refine bodyPost_ret (v:= .agg #[.int .i64 o, .int .i64 s, .bool b]) ?_ hd hR;exact results_cell_row hres _ _ g _ _ _ _ hp hg rfl rfl rfl
section
variable {w:World} {g base cap c:Nat} {A:Option Addr} {bs:List UInt8}
theorem alc (h:Ar w 195 g base cap A c bs) (hb:base<=4611686018427387904) (hl:bs.length<=16384) (o:Int) (ho: -9223372036854775808<=o/\o<=9223372036854775807) (hy:aa2 bs o=none):
 Calls Tryz.prog 236 #[.pointer (some ⟨g,0,none⟩), .int .i64 o] w fun e w'=>e= .returned (frV o none)/\Below w.heap.size w w':=by
 obtain⟨w1,hw1⟩:=nmE (w.alloc (.cells #[.int .i64 0, .int .i64 0, .bool false] 112));have hb1:=abE hw1;have hn1:=anE hw1;have h1:=h.below hb1;have hG:=ajv w1 g base cap c A bs o _ h1 hb hl ho hy;dsimp only[aay,bkV,Bk.val,Option.isSome,aat]at hG;have HG:=hE0 hG;have HW1:=hE0 hw1;have HB1:=hE0 hb1;have HN1:=hE0 hn1;clear hG hy hw1 hb1 hn1 h1 h;go_enter Tryz.func236,Tryz.ntmps236
 go_wp2_with fail
 rw[HW1.out]
 with_reducible refine HG.out.mono ?_
 rintro e w2 ⟨rfl,hb2⟩;have hn2:=(hb2.block w.heap.size (aae HN1.out)).trans HN1.out;have HB2:=hE0 (HB1.out.trans (hb2.mono HB1.out.size));have HN2:=hE0 hn2;clear hb2 hn2 HG;obtain⟨⟨c0,c1,c2⟩,f0,f1,f2⟩:=aad HN2.out;have hlt:=aaa HN2.out;go_wp2
 (try simp only[Exit.inBlock,Exit.then])
 refine acx (g:=w.heap.size) (o:=o) (s:=0) (b:=false) Tryz.results236 ?_ ?_ ((heap_alloc_old _ _ (aae (aav HN2.out _ _ _))).trans (aav HN2.out _ _ _)) ?_
 · rfl
 · rfl
 · refine⟨rfl,Below.alloc (((HB2.out.setCell ?_ _).setCell ?_ _).setCell ?_ _) ?_ _⟩
   · exact Nat.le_refl _
   · exact Nat.le_refl _
   · exact Nat.le_refl _
   · simp only[World.setCell];have h9:=HB2.out.size;simpa using h9
theorem ald (h:Ar w 195 g base cap A c bs) (hb:base<=4611686018427387904) (hl:bs.length<=16384) (o:Int) (ho: -9223372036854775808<=o/\o<=9223372036854775807) (xo xs:Nat) (hy:aa2 bs o=some ⟨xo,xs,true⟩):
 Calls Tryz.prog 236 #[.pointer (some ⟨g,0,none⟩), .int .i64 o] w fun e w'=>e= .returned (frV o none)/\Below w.heap.size w w':=by
 obtain⟨w1,hw1⟩:=nmE (w.alloc (.cells #[.int .i64 0, .int .i64 0, .bool false] 112));have hb1:=abE hw1;have hn1:=anE hw1;have h1:=h.below hb1;have hG:=ajv w1 g base cap c A bs o _ h1 hb hl ho hy;dsimp only[aay,bkV,Bk.val,Option.isSome,aat]at hG;have HG:=hE0 hG;have HW1:=hE0 hw1;have HB1:=hE0 hb1;have HN1:=hE0 hn1;clear hG hy hw1 hb1 hn1 h1 h;go_enter Tryz.func236,Tryz.ntmps236
 go_wp2_with fail
 rw[HW1.out]
 with_reducible refine HG.out.mono ?_
 rintro e w2 ⟨rfl,hb2⟩;have hn2:=(hb2.block w.heap.size (aae HN1.out)).trans HN1.out;have HB2:=hE0 (HB1.out.trans (hb2.mono HB1.out.size));have HN2:=hE0 hn2;clear hb2 hn2 HG;obtain⟨⟨c0,c1,c2⟩,f0,f1,f2⟩:=aad HN2.out;have hlt:=aaa HN2.out;go_wp2
 (try simp only[Exit.inBlock,Exit.then])
 refine acx (g:=w.heap.size) (o:=o) (s:=0) (b:=false) Tryz.results236 ?_ ?_ ((heap_alloc_old _ _ (aae (aav HN2.out _ _ _))).trans (aav HN2.out _ _ _)) ?_
 · rfl
 · rfl
 · refine⟨rfl,Below.alloc (((HB2.out.setCell ?_ _).setCell ?_ _).setCell ?_ _) ?_ _⟩
   · exact Nat.le_refl _
   · exact Nat.le_refl _
   · exact Nat.le_refl _
   · simp only[World.setCell];have h9:=HB2.out.size;simpa using h9
theorem ale (h:Ar w 195 g base cap A c bs) (hb:base<=4611686018427387904) (hl:bs.length<=16384) (o:Int) (ho: -9223372036854775808<=o/\o<=9223372036854775807) (xo xs:Nat) (hy:aa2 bs o=some ⟨xo,xs,false⟩):
 Calls Tryz.prog 236 #[.pointer (some ⟨g,0,none⟩), .int .i64 o] w fun e w'=>e= .returned (frV o (some ⟨xo,xs,false⟩))/\Below w.heap.size w w':=by
 obtain⟨w1,hw1⟩:=nmE (w.alloc (.cells #[.int .i64 0, .int .i64 0, .bool false] 112));have hb1:=abE hw1;have hn1:=anE hw1;have h1:=h.below hb1;have hG:=ajv w1 g base cap c A bs o _ h1 hb hl ho hy;dsimp only[aay,bkV,Bk.val,Option.isSome,aat]at hG;have HG:=hE0 hG;have HW1:=hE0 hw1;have HB1:=hE0 hb1;have HN1:=hE0 hn1;clear hG hy hw1 hb1 hn1 h1 h;go_enter Tryz.func236,Tryz.ntmps236
 go_wp2_with fail
 rw[HW1.out]
 with_reducible refine HG.out.mono ?_
 rintro e w2 ⟨rfl,hb2⟩;have hn2:=(hb2.block w.heap.size (aae HN1.out)).trans HN1.out;have HB2:=hE0 (HB1.out.trans (hb2.mono HB1.out.size));have HN2:=hE0 hn2;clear hb2 hn2 HG;obtain⟨⟨c0,c1,c2⟩,f0,f1,f2⟩:=aad HN2.out;have hlt:=aaa HN2.out;go_wp2
 (try simp only[Exit.inBlock,Exit.then])
 refine acx (g:=w.heap.size) (o:=(xo:Int)) (s:=(xs:Int)) (b:=false) Tryz.results236 ?_ ?_ ((heap_alloc_old _ _ (aae (aav HN2.out _ _ _))).trans (aav HN2.out _ _ _)) ?_
 · rfl
 · rfl
 · refine⟨rfl,Below.alloc (((HB2.out.setCell ?_ _).setCell ?_ _).setCell ?_ _) ?_ _⟩
   · exact Nat.le_refl _
   · exact Nat.le_refl _
   · exact Nat.le_refl _
   · simp only[World.setCell];have h9:=HB2.out.size;simpa using h9
theorem anl (h:Ar w 195 g base cap A c bs) (hb:base<=4611686018427387904) (hl:bs.length<=16384) (o:Int) (ho: -9223372036854775808<=o/\o<=9223372036854775807) (y:Option Bk) (hy:frO (aa2 bs o)=y):
 Calls Tryz.prog 236 #[.pointer (some ⟨g,0,none⟩), .int .i64 o] w fun e w'=>e= .returned (frV o y)/\Below w.heap.size w w':=by
 subst hy
 cases hg:aa2 bs o with
 | none=>exact alc h hb hl o ho hg
 | some x=>
  obtain⟨xo,xs,xu⟩:=x
  cases xu with
  | true=>exact ald h hb hl o ho xo xs hg
  | false=>exact ale h hb hl o ho xo xs hg
theorem ajN (o:Int) (hA:∀w1,Below w.heap.size w w1->Calls Tryz.prog 270 #[.pointer (some ⟨g,0,none⟩), .int .i64 o] w1 fun e w'=>aay none w1 e w'):
 Calls Tryz.prog 237 #[.pointer (some ⟨g,0,none⟩), .int .i64 o] w fun e w'=>e= .returned (frV o none)/\Below w.heap.size w w':=by
 obtain⟨w1,hw1⟩:=nmE (w.alloc (.cells #[.int .i64 0, .int .i64 0, .bool false] 112));have hb1:=abE hw1;have hn1:=anE hw1;have hG:=hA w1 hb1;dsimp only[aay,bkV,Bk.val,Option.isSome,aat]at hG;have HG:=hE0 hG;have HW1:=hE0 hw1;have HB1:=hE0 hb1;have HN1:=hE0 hn1;clear hG hA hw1 hb1 hn1;go_enter Tryz.func237,Tryz.ntmps237
 go_wp2_with fail
 rw[HW1.out]
 with_reducible refine HG.out.mono ?_
 rintro e w2 ⟨rfl,hb2⟩;have hn2:=(hb2.block w.heap.size (aae HN1.out)).trans HN1.out;have HB2:=hE0 (HB1.out.trans (hb2.mono HB1.out.size));have HN2:=hE0 hn2;clear hb2 hn2 HG;obtain⟨⟨c0,c1,c2⟩,f0,f1,f2⟩:=aad HN2.out;have hlt:=aaa HN2.out;go_wp2
 (try simp only[Exit.inBlock,Exit.then])
 refine acx (g:=w.heap.size) (o:=o) (s:=0) (b:=false) Tryz.results237 ?_ ?_ ((heap_alloc_old _ _ (aae (aav HN2.out _ _ _))).trans (aav HN2.out _ _ _)) ?_
 · rfl
 · rfl
 · refine⟨rfl,Below.alloc (((HB2.out.setCell ?_ _).setCell ?_ _).setCell ?_ _) ?_ _⟩
   · exact Nat.le_refl _
   · exact Nat.le_refl _
   · exact Nat.le_refl _
   · simp only[World.setCell];have h9:=HB2.out.size;simpa using h9
theorem agX (h:Ar w 195 g base cap A c bs) (hb:base<=4611686018427387904) (hl:bs.length<=16384) (o:Int) (ho: -9223372036854775808<=o/\o<=9223372036854775807) (hy:abD bs o=none):
 Calls Tryz.prog 237 #[.pointer (some ⟨g,0,none⟩), .int .i64 o] w fun e w'=>e= .returned (frV o none)/\Below w.heap.size w w':=
 ajN o fun w1 hb1=>ao4 w1 g base cap c A bs o _ (h.below hb1) hb hl ho hy
theorem agY (h:Ar w 195 g base cap A c bs) (hb:base<=4611686018427387904) (hl:bs.length<=16384) (o:Int) (ho: -9223372036854775808<=o/\o<=9223372036854775807) (xo xs:Nat) (hy:abD bs o=some ⟨xo,xs,true⟩):
 Calls Tryz.prog 237 #[.pointer (some ⟨g,0,none⟩), .int .i64 o] w fun e w'=>e= .returned (frV o none)/\Below w.heap.size w w':=by
 obtain⟨w1,hw1⟩:=nmE (w.alloc (.cells #[.int .i64 0, .int .i64 0, .bool false] 112));have hb1:=abE hw1;have hn1:=anE hw1;have h1:=h.below hb1;have hG:=ao4 w1 g base cap c A bs o _ h1 hb hl ho hy;dsimp only[aay,bkV,Bk.val,Option.isSome,aat]at hG;have HG:=hE0 hG;have HW1:=hE0 hw1;have HB1:=hE0 hb1;have HN1:=hE0 hn1;clear hG hy hw1 hb1 hn1 h1 h;go_enter Tryz.func237,Tryz.ntmps237
 go_wp2_with fail
 rw[HW1.out]
 with_reducible refine HG.out.mono ?_
 rintro e w2 ⟨rfl,hb2⟩;have hn2:=(hb2.block w.heap.size (aae HN1.out)).trans HN1.out;have HB2:=hE0 (HB1.out.trans (hb2.mono HB1.out.size));have HN2:=hE0 hn2;clear hb2 hn2 HG;obtain⟨⟨c0,c1,c2⟩,f0,f1,f2⟩:=aad HN2.out;have hlt:=aaa HN2.out;go_wp2
 (try simp only[Exit.inBlock,Exit.then])
 refine acx (g:=w.heap.size) (o:=o) (s:=0) (b:=false) Tryz.results237 ?_ ?_ ((heap_alloc_old _ _ (aae (aav HN2.out _ _ _))).trans (aav HN2.out _ _ _)) ?_
 · rfl
 · rfl
 · refine⟨rfl,Below.alloc (((HB2.out.setCell ?_ _).setCell ?_ _).setCell ?_ _) ?_ _⟩
   · exact Nat.le_refl _
   · exact Nat.le_refl _
   · exact Nat.le_refl _
   · simp only[World.setCell];have h9:=HB2.out.size;simpa using h9
theorem agZ (h:Ar w 195 g base cap A c bs) (hb:base<=4611686018427387904) (hl:bs.length<=16384) (o:Int) (ho: -9223372036854775808<=o/\o<=9223372036854775807) (xo xs:Nat) (hy:abD bs o=some ⟨xo,xs,false⟩):
 Calls Tryz.prog 237 #[.pointer (some ⟨g,0,none⟩), .int .i64 o] w fun e w'=>e= .returned (frV o (some ⟨xo,xs,false⟩))/\Below w.heap.size w w':=by
 obtain⟨w1,hw1⟩:=nmE (w.alloc (.cells #[.int .i64 0, .int .i64 0, .bool false] 112));have hb1:=abE hw1;have hn1:=anE hw1;have h1:=h.below hb1;have hG:=ao4 w1 g base cap c A bs o _ h1 hb hl ho hy;dsimp only[aay,bkV,Bk.val,Option.isSome,aat]at hG;have HG:=hE0 hG;have HW1:=hE0 hw1;have HB1:=hE0 hb1;have HN1:=hE0 hn1;clear hG hy hw1 hb1 hn1 h1 h;go_enter Tryz.func237,Tryz.ntmps237
 go_wp2_with fail
 rw[HW1.out]
 with_reducible refine HG.out.mono ?_
 rintro e w2 ⟨rfl,hb2⟩;have hn2:=(hb2.block w.heap.size (aae HN1.out)).trans HN1.out;have HB2:=hE0 (HB1.out.trans (hb2.mono HB1.out.size));have HN2:=hE0 hn2;clear hb2 hn2 HG;obtain⟨⟨c0,c1,c2⟩,f0,f1,f2⟩:=aad HN2.out;have hlt:=aaa HN2.out;go_wp2
 (try simp only[Exit.inBlock,Exit.then])
 refine acx (g:=w.heap.size) (o:=(xo:Int)) (s:=(xs:Int)) (b:=false) Tryz.results237 ?_ ?_ ((heap_alloc_old _ _ (aae (aav HN2.out _ _ _))).trans (aav HN2.out _ _ _)) ?_
 · rfl
 · rfl
 · refine⟨rfl,Below.alloc (((HB2.out.setCell ?_ _).setCell ?_ _).setCell ?_ _) ?_ _⟩
   · exact Nat.le_refl _
   · exact Nat.le_refl _
   · exact Nat.le_refl _
   · simp only[World.setCell];have h9:=HB2.out.size;simpa using h9
theorem adt (h:Ar w 195 g base cap A c bs) (hb:base<=4611686018427387904) (hl:bs.length<=16384) (o:Int) (ho: -9223372036854775808<=o/\o<=9223372036854775807) (y:Option Bk) (hy:frO (abD bs o)=y):
 Calls Tryz.prog 237 #[.pointer (some ⟨g,0,none⟩), .int .i64 o] w fun e w'=>e= .returned (frV o y)/\Below w.heap.size w w':=by
 subst hy
 cases hg:abD bs o with
 | none=>exact agX h hb hl o ho hg
 | some x=>
  obtain⟨xo,xs,xu⟩:=x
  cases xu with
  | true=>exact agY h hb hl o ho xo xs hg
  | false=>exact agZ h hb hl o ho xo xs hg
theorem ajO (o:Int):
 Calls Tryz.prog 238 #[.pointer (some ⟨g,0,none⟩), .agg #[.int .i64 o, .int .i64 0, .bool false]] w fun e w'=>e= .returned (.tuple #[])/\Below w.heap.size w w':=by
 go_enter Tryz.func238,Tryz.ntmps238
 go_wp2
 go_end0
 exact⟨rfl,(Below.refl _ _).alloc (Nat.le_refl _) _⟩
theorem ajP (h:Ar w 195 g base cap A c bs) (hb:base<=4611686018427387904) (hl:bs.length<=16384) (o s:Nat) (ho:(o:Int)<=9223372036854775807) (hs:(0:Int)<(s:Int)) (out:List UInt8) (hy:aee bs (o:Int)=some out):
 Calls Tryz.prog 238 #[.pointer (some ⟨g,0,none⟩), .agg #[.int .i64 (o:Int), .int .i64 (s:Int), .bool false]] w fun e w'=>e= .returned (.tuple #[])/\Became 195 g base cap A out w w':=by
 obtain⟨w1,hw1⟩:=nmE (w.alloc (.cells #[.int .i64 (o:Int), .int .i64 (s:Int), .bool false] 112));have hb1:=abE hw1;have hT:=atX w1 g base cap c A bs (o:Int) _ (h.below hb1) hb hl (by omega) hy;dsimp only[ao1,aat]at hT;have HT:=hE0 hT;have HW1:=hE0 hw1;have HB1:=hE0 hb1;clear hT hy hw1 hb1 h;go_enter Tryz.func238,Tryz.ntmps238
 go_wp2_with fail
 rw[HW1.out]
 with_reducible refine HT.out.mono ?_
 rintro e w2 ⟨rfl,hb2⟩;have HB2:=hE0 (hb2.after HB1.out);clear hb2 HT;go_wp2
 go_end0
 exact⟨rfl,HB2.out⟩
end
def Loc (w w':World):Prop:=∀(k:Nat) (cs:Array Value),w.heap[k]?=some (.cells cs 112 (0,0))->w'.heap[k]?=some (.cells cs 112 (0,0))
theorem Loc.below{w w':World}(h:Below w.heap.size w w'):Loc w w':=fun i _ hi=>(h.block i (aae hi)).trans hi
theorem aiz{w:World}{g base cap c:Nat}{A:Option Addr}{bs:List UInt8}(h:Ar w 195 g base cap A c bs){k:Nat}{cs:Array Value}(hk:w.heap[k]?=some (.cells cs 112 (0,0))):¬foot g A k:=by
 rintro(rfl | ⟨a,ea,rfl⟩)
 · have h1:=h.obj;rw[hk]at h1;injection h1 with h1;injection h1 with _ h2 _;exact absurd h2 (by decide)
 · obtain⟨h',e,cur,h1,_⟩:=h.row ea;rw[e]at hk;have hk:w.heap[h']?=some (.cells cs 112 (0,0)):=hk;rw[hk]at h1;injection h1 with h1;injection h1 with _ h2 _;exact absurd h2 (by decide)
theorem Loc.tch{w w':World}{g base cap c:Nat}{A:Option Addr}{bs:List UInt8}(h:Ar w 195 g base cap A c bs) (ht:Tch (foot g A) w w'):Loc w w':=fun i _ hi=>(ht.block i (aae hi) (aiz h hi)).trans hi
section
variable {w w1:World} {g base cap:Nat} {A:Option Addr} {b1 b2:List UInt8}
theorem ahE{k:Nat}{cs:Array Value}(h:Became 195 g base cap A b1 w w1) (hk:w1.heap[k]?=some (.cells cs 112 (0,0))) (hB:w.heap.size<=k) (i:Nat) (v:Value):Became 195 g base cap A b1 w (w1.setCell ⟨k,i,none⟩ v):=by
 obtain⟨A',c',a,tc,kk⟩:=h;have hne:=aiz a hk;refine⟨A',c',a.keep fun q hq=>Below.heap_setCell w1 ⟨k,i,none⟩ v q (fun e=>by have e:q=k:=e;subst e;exact hne hq),?_,kk⟩;exact⟨tc.os,tc.tape,tc.output,by simpa[World.setCell]using tc.size,fun q hq hn=>(Below.heap_setCell w1 ⟨k,i,none⟩ v q (fun e=>by have e:q=k:=e;omega)).trans (tc.block q hq hn)⟩
theorem aa1 (h:Became 195 g base cap A b1 w w1) (o:Obj):Became 195 g base cap A b1 w (w1.alloc o):=aaA h ((Below.refl _ _).alloc (Nat.le_refl _) _)
theorem aud (h:Became 195 g base cap A b1 w w1) (hb:base<=4611686018427387904) (hl:b1.length<=16384) (o:Int) (ho: -9223372036854775808<=o/\o<=9223372036854775807) (y:Option Bk) (hy:frO (aa2 b1 o)=y):
 Calls Tryz.prog 236 #[.pointer (some ⟨g,0,none⟩), .int .i64 o] w1 fun e w2=>e= .returned (frV o y)/\Became 195 g base cap A b1 w w2/\Below w1.heap.size w1 w2:=by
 obtain⟨A',c',a,tc,k⟩:=h;refine(anl a hb hl o ho y hy).mono ?_;rintro e w2 ⟨h1,h2⟩;exact⟨h1,aaA ⟨A',c',a,tc,k⟩ h2,h2⟩
theorem arw (h:Became 195 g base cap A b1 w w1) (hb:base<=4611686018427387904) (hl:b1.length<=16384) (o:Int) (ho: -9223372036854775808<=o/\o<=9223372036854775807) (y:Option Bk) (hy:frO (abD b1 o)=y):
 Calls Tryz.prog 237 #[.pointer (some ⟨g,0,none⟩), .int .i64 o] w1 fun e w2=>e= .returned (frV o y)/\Became 195 g base cap A b1 w w2/\Below w1.heap.size w1 w2:=by
 obtain⟨A',c',a,tc,k⟩:=h;refine(adt a hb hl o ho y hy).mono ?_;rintro e w2 ⟨h1,h2⟩;exact⟨h1,aaA ⟨A',c',a,tc,k⟩ h2,h2⟩
theorem amk (h:Became 195 g base cap A b1 w w1) (hb:base<=4611686018427387904) (hl:b1.length<=16384) (o:Int) (y:Option Bk) (hs:∀z,y=some z->0<z.size/\z.off<=16384) (hy:apw b1 y=some b2):
 Calls Tryz.prog 238 #[.pointer (some ⟨g,0,none⟩),frV o y] w1 fun e w2=>e= .returned (.tuple #[])/\Became 195 g base cap A b2 w w2/\Loc w1 w2:=by
 cases y with
 | none=>
  injection hy with hy;subst hy;refine(ajO o).mono ?_;rintro e w2 ⟨h1,h2⟩;exact⟨h1,aaA h h2,Loc.below h2⟩
 | some z=>
  obtain⟨A',c',a,tc,k⟩:=h;have hz:=hs z rfl;refine(ajP a hb hl z.off z.size (by omega) (by omega) b2 hy).mono ?_;rintro e w2 ⟨h1,h2⟩;have h2':=h2;obtain⟨_,_,_,ht,_⟩:=h2';exact⟨h1,Became.trans a tc k h2,Loc.tch a ht⟩
theorem ahF (h:Became 195 g base cap A b1 w w1) (hb:base<=4611686018427387904) (hl:b1.length<=16384) (o s:Nat) (u:Bool) (ho:o<=16384) (hs:s<=16384) (hy:ad5 b1 (o:Int) (s:Int) u=some b2):
 Calls Tryz.prog 217 #[.pointer (some ⟨g,0,none⟩), .agg #[.int .i64 (o:Int), .int .i64 (s:Int), .bool u]] w1 fun e w2=>e= .returned .nilIface/\Became 195 g base cap A b2 w w2/\Loc w1 w2:=by
 obtain⟨A',c',a,tc,k⟩:=h;refine(auX w1 g base cap c' A' b1 (o:Int) (s:Int) u _ a hb hl (by omega) (by omega) hy).mono ?_;rintro e w2 ⟨h1,h2⟩;have h2':=h2;obtain⟨_,_,_,ht,_⟩:=h2';exact⟨h1,Became.trans a tc k h2,Loc.tch a ht⟩
theorem aue (h:Became 195 g base cap A b1 w w1) (hb:base<=4611686018427387904) (hl:b1.length<=16384) (o:Nat) (ho:o<=16384) (hy:ag8 b1 (o:Int)=some b2):
 Calls Tryz.prog 174 #[.pointer (some ⟨g,0,none⟩), .int .i64 (o:Int)] w1 fun e w2=>e= .returned .nilIface/\Became 195 g base cap A b2 w w2/\Loc w1 w2:=by
 obtain⟨A',c',a,tc,k⟩:=h;refine(avl w1 g base cap c' A' b1 (o:Int) _ a hb hl (by omega) hy).mono ?_;rintro e w2 ⟨h1,h2⟩;have h2':=h2;obtain⟨_,_,_,ht,_⟩:=h2';exact⟨h1,Became.trans a tc k h2,Loc.tch a ht⟩
theorem ata (h:Became 195 g base cap A b1 w w1) (n:Nat) (hl:b1.length<=cap) (hcap:cap<=16384) (hn:b1.length+n<=cap):
 Calls Tryz.prog 65 #[.pointer (some ⟨g,0,none⟩), .int .i64 (n:Int)] w1 fun e w2=>e= .returned .nilIface/\Became 195 g base cap A (b1++List.replicate n 0) w w2/\Loc w1 w2:=by
 obtain⟨A',c',a,tc,k⟩:=h;refine(ahW a n hl hcap hn).mono ?_;rintro e w2 ⟨h1,h2⟩;have h2':=h2;obtain⟨_,_,_,ht,_⟩:=h2';exact⟨h1,Became.trans a tc k h2,Loc.tch a ht⟩
end
end Go.Proofs.YtncadccbepjekaaGreatDoor
