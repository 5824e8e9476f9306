/- Texts of mine, joined. -/
import Derived.Test.YtncadccbepjekaaGreatDoorU19
set_option maxRecDepth 100000
set_option maxHeartbeats 1000000
namespace Go.Proofs.YtncadccbepjekaaGreatDoor
open Go.RowKit
def acb (l:List Bk) (o k:Nat):Bool:=l.any fun x=>x.off==o&& !x.used&&aaq (x.size:Int)==(k:Int)
theorem aik:∀(l:List Bk) (o e:Nat),abA o l e->l.Pairwise (fun a b=>a.off<b.off)
 | [],_,_,_=>List.Pairwise.nil
 | x::r,o,e,⟨a,b,c⟩=>by
  have q:=(aab _).1 b;refine List.pairwise_cons.2 ⟨fun y hy=> ?_,aik r _ _ c⟩;have:=((aak r _ _ c).2 y hy).1;omega
theorem alN{l:List Bk}{j:Nat}{x:Bk}(h:l[j]?=some x) (o k:Nat):acb (l.take (j+1)) o k=(acb (l.take j) o k || (x.off==o&& !x.used&&aaq (x.size:Int)==(k:Int))):=arP h
theorem an2{l:List Bk}{j:Nat}{x:Bk}(hp:l.Pairwise (fun a b=>a.off<b.off)) (h:l[j]?=some x) (k:Nat):acb (l.take j) x.off k=false:=by
 unfold acb;rw[List.any_eq_false];intro y hy hc;obtain⟨i,hi,e⟩:=List.getElem_of_mem hy;rw[List.length_take]at hi;rw[List.getElem_take]at e;obtain⟨hj,e2⟩:=List.getElem?_eq_some_iff.1 h;have:=List.pairwise_iff_getElem.1 hp i j (by omega) hj (by omega);rw[e,e2]at this;simp at hc;omega
theorem ar5{l:List Bk}{j:Nat}{x:Bk}(h:l[j]?=some x):abl (l.take (j+1))=abl (l.take j)+if x.used=true then 0 else 1:=by
 unfold abl;rw[alx h]
 cases x.used<;>rfl
theorem alO (w:World) (A2:Option Addr) (c2:Nat) (l:List Bk) (hr:BkRd w w.heap.size A2 l) (hl:l.length<=100000) (hp:l.Pairwise (fun a b=>a.off<b.off))
 (hg:∀x∈l,aaB (x.size:Int)=true/\x.off<=100000):
 Calls Tryz.prog 116 #[.slice A2 l.length c2] w fun e w'=>e= .returned (.map (some w.heap.size))/\PSet w' w.heap.size l.length (acb l) (abl l)/\Below w.heap.size w w':=by
 have HR:=hE0 hr;have HG:=hE0 hg;have HP:=hE0 hp;have hmm:= @run_makeMap Tryz.prog;obtain⟨B0,hB0⟩:=nmE w.heap.size;have HB0:=hE0 hB0;have hP0:=PSet.made w;rw[hB0]at hP0;obtain⟨w1,hw1⟩:=nmE (w.alloc (.map #[] 0));have hb1:=abE hw1;rw[hw1]at hP0;have HW1:=hE0 hw1;have HB1:=hE0 hb1;have HP0:=hE0 hP0;clear hr hg hp hP0 hw1 hb1;go_enter Tryz.func116,Tryz.ntmps116
 go_wp2_with (first | (rw[HW1.out]) | fail)
 clear hmm hB0;go_loopw [9] (fun t wr=>∃j:Nat,t= .int .i64 (j:Int)/\j<=l.length/\PSet wr B0 j (acb (l.take j)) (abl (l.take j))/\Below B0 w wr) (fun t _=>l.length-(intOf t).toNat)
 case atStart=>exact⟨0,rfl,Nat.zero_le _,HP0.out,by rw[<-HB0.out];exact HB1.out⟩
 case round=>
  obtain⟨j,rfl,hj,hps,hbe⟩:=hrel;by_cases hlt:j<l.length
  · obtain⟨x,hx⟩:∃x,l[j]?=some x:=⟨l[j],List.getElem?_eq_getElem hlt⟩;obtain⟨b2,o,rfl,hbb,hcl⟩:=HR.out (by omega);rw[HB0.out]at hbb;obtain⟨p0,p1,p2⟩:=hcl j x hx;have ht:=alN hx;have hn:=an2 HP.out hx;have hct:=ar5 hx;obtain⟨hsz,hoff⟩:=HG.out x (List.mem_of_getElem? hx);obtain⟨k,hk,hk22⟩:=abq hsz;have hq:=(aab _).1 hsz;have r0:=aaV hbe p0 hbb;have r1:=aaV hbe p1 hbb;have r2:=aaV hbe p2 hbb;obtain⟨xo,xs,xu⟩:=x;dsimp only at p0 p1 p2 r0 r1 r2 ht hn hct hoff hk hq;have hBr:=hps.lt;obtain⟨w4,hw4⟩:=nmE (wr.alloc (.cells #[.int .i64 (xo:Int), .int .i64 (xs:Int), .bool xu] 112));have hb4:=abE hw4;have n4:=anE hw4;obtain⟨⟨d0,d1,d2⟩,_⟩:=aad n4;have hlt4:=aae n4;have ps4:=hps.below hb4 hBr;have HW4:=hE0 hw4;have HB4:=hE0 (hbe.trans (hb4.mono (by omega)))
    cases xu with
    | true=>
     have hP:PSet w4 B0 (j+1) (acb (l.take (j+1))) (abl (l.take (j+1))):=by
      rw[hct];exact(ps4.mono (Nat.le_succ j)).same fun o k _ _=>by rw[ht];simp
     have HPN:=hE0 hP;clear hx hbe hps p0 p1 p2 hb4 n4 hw4 hcl hk hsz ht hn hct ps4 hP;go_wp2_with (first | (rw[HW4.out]) | fail)
     go_roundw
     case rel=>exact⟨j+1,by go_num,by omega,HPN.out,HB4.out⟩
     case measure=>simp only[intOf];omega
    | false=>
     have hC:=fun W=>ajX W (xs:Int) (by omega);rw[hk]at hC;have HC:=hE0 (hC w4.drew);have HPS:=hE0 (⟨ps4,hlt4⟩:PSet w4 B0 j (acb (l.take j)) (abl (l.take j))/\wr.heap.size<w4.heap.size);have hP:∀W,PSet W B0 (j+1) (fun p' c'=>acb (l.take j) p' c' || (p'==xo&&c'==k)) (abl (l.take j)+1)->PSet W B0 (j+1) (acb (l.take (j+1))) (abl (l.take (j+1))):=fun W h=>by
      rw[hct];refine h.same fun o k' _ _=> ?_;rw[ht,hk];congr 1;rw[Bool.eq_iff_iff];simp;omega
     have HPN:=hE0 hP;have HN:=hE0 (hn k);clear hx hbe hps p0 p1 p2 hb4 n4 hw4 hcl hk hsz ht hn hct ps4 hP hC;go_wp2_with (first | (rw[HW4.out]) | fail)
     refine aar w4.heap.size [([0,1,2,3,4],5)] [6] [7] (by kernel_rfl) (by kernel_rfl) (by kernel_rfl) (fun _ _ _ _ _ h=>h) ?_;have q0:∀z:LaterB w4.heap.size w4.drew,z.val.cell? ⟨wr.heap.size,0,none⟩=some (.int .i64 (xo:Int)):=fun z=>aaV z.ext d0 hlt4;have q1:∀z:LaterB w4.heap.size w4.drew,z.val.cell? ⟨wr.heap.size,1,none⟩=some (.int .i64 (xs:Int)):=fun z=>aaV z.ext d1 hlt4;refine tail_cons (l:= ?seg1) ?hseg1 ?_
     case hseg1=>simp only[pick,lE1,lE2,lE3];rfl
     repeat (go_big_quiet_step (fail))
     refine wpQuiet_nil ?_;clear q0 q1;refine aau (vs:= #[.int .i64 (xs:Int)]) Tryz.call177 rfl rfl rfl (R:=fun r w'=>r= .int .i64 (k:Int)/\Below w4.heap.size w4.drew w') (HC.out.mono ?_) w4.heap.size (Nat.le_refl _) ?_
     · rintro e w' ⟨rfl,hb⟩;exact⟨_,rfl,hb,rfl,hb⟩
     rintro r w5 _ ⟨rfl,hb5⟩;have hb6:Below w4.heap.size w4 w5:=⟨hb5.os,hb5.tape,hb5.output,hb5.size,hb5.block⟩;have hs6:w4.heap.size<=w5.heap.size:=hb6.size;have hps5:=HPS.out.1.below hb6 (by omega);refine aaO (l:= ?la1) (t:= ?tl1) ?hla1 ?htl1 ?_
     case hla1=>simp only[pick,lE1,lE2,lE3];rfl
     case htl1=>simp only[pick,lE1,lE2,lE3];rfl
     simp only[Act.put,lE4,lE5,lE6];repeat (go_big_quiet_step (fail))
     refine wpQuiet_nil ?_;refine apg rfl _ _ _ rfl rfl hps5 (by unfold maxLen;omega) xo k (by omega) (by omega) rfl rfl HN.out ?_;intro w6 hp6 ht6;have HP6:=hE0 (HPN.out w6 hp6);have HB6:=hE0 ((HB4.out.trans (hb6.mono (by omega))).trans (ht6.below (B:=B0) (fun q hq=>by omega) (by omega)));clear hp6 ht6 hps5 hb5 hb6 hs6;go_wp2
     go_roundw
     case rel=>exact⟨j+1,by go_num,by omega,HP6.out,HB6.out⟩
     case measure=>simp only[intOf];omega
  · have e:l.take j=l:=List.take_of_length_le (by omega);rw[e]at hps;have HPS:=hE0 (hps.mono (n':=l.length) (by omega));have HB:=hE0 hbe;clear hbe hps e;go_wp2
    go_ret
    exact⟨by rw[HB0.out];rfl,by rw[HB0.out];exact HPS.out,by rw[HB0.out];exact HB.out⟩
section
variable {bs:List UInt8} {H:Hp} {i s:Nat} {x:Bk}
theorem adj{l:List Bk}{o:Int}{i:Nat}(h:aaY l o=some i):i<l.length/\((aam l i).off:Int)=o/\(aam l i).used=true:=by
 unfold aaY at h;split at h
 · cases h
 · rename_i j hj;split at h
   · rename_i hu;injection h with h;subst h;exact⟨(afQ hj).1,(afQ hj).2,hu⟩
   · cases h
theorem acF{p o:Int}:(H.moveD p o).blks=H.blks:=by unfold Hp.moveD;split<;>rfl
theorem aqd{o:Int}(hx:x∈H.blks) (hu:x.used=true) (hne:(x.off:Int)≠o):x∈((H.giveO o).getD H).blks:=by
 unfold Hp.giveO
 cases h:aaY H.blks o with
 | none=>exact hx
 | some j=>
  obtain⟨h1,h2,_⟩:=adj h;exact amX h1 hx hu (fun e=>hne (by rw[e];exact h2))
theorem Rt.rezHas (h:Rt bs H) (hok:H.Ok) (hs:aaB (s:Int)=true){o:Int}(he:(H.resize o s).1.2=0):∃y∈(H.resize o s).2.blks,y.used=true/\y.off=(H.resize o s).1.1/\s<=y.size:=by
 unfold Hp.resize at he ⊢;split
 · rename_i hn;rw[hn]at he
   cases he
 · rename_i i hi;obtain⟨h1,h2,h3⟩:=adj hi;rw[hi]at he;dsimp only at he ⊢;split
   · rename_i hle;obtain⟨y,a,b,c,d,_⟩:=alH h1 hle;exact⟨y,a,c,b,d⟩
   · rename_i hlt;rw[if_neg hlt]at he;have hw:=hok.widen h1;split
     · rename_i hb;obtain⟨y,a,b,c,d,_⟩:=alH (H:=H.widen i) (s:=s) hw.2.1 (by rw[hw.2.2];exact hb);rw[hw.2.2]at b;exact⟨y,a,c,b,d⟩
     · rename_i hb;rw[if_neg hb]at he;split
       · have hat:((H.widen i).size i s).blks[i]?=some {aam (H.widen i).blks i with size:=s}:=List.getElem?_set_self hw.2.1;rw[hw.2.2]at hat;exact⟨_,List.mem_of_getElem? hat,h3,rfl,Nat.le_refl _⟩
       · rename_i hg;rw[if_neg hg]at he;split
         · rename_i hn;rw[hn]at he
           cases he
         · rename_i q hq;obtain⟨y,a,b,c,d,_,ap⟩:=h.what hs hq;refine⟨y,?_,c,b,d⟩;refine aqd (H:=(H.take s).2.moveD (q:Int) o) (by rw[acF];exact a) c (fun e=> ?_);have hap:=ap _ (List.mem_of_getElem? (aas h1)) h3;have hsz:=(aab _).1 (hok.sz h1);have hss:=(aab _).1 hs;omega
end
def ai6 (H:Hp) (bs:List UInt8) (o:Int) (H':Hp) (out:List UInt8) (p:Nat):Prop:=
 ∀x∈H.blks,x.used=true->(x.off:Int)=o->∀y∈H'.blks,y.used=true->y.off=p->∀i,8<=i->i+8<x.size->i+8<y.size->out[p+i]?=bs[x.off+i]?
def Hp.One (H:Hp):Prop:=∀(a b:Nat) (x y:Bk),H.blks[a]?=some x->H.blks[b]?=some y->x.off=y.off->a=b
theorem Rt.one{bs:List UInt8}{H:Hp}(h:Rt bs H):H.One:=fun a b x y ha hb e=>by
 have hpw:=List.pairwise_iff_getElem.1 (aeD _ _ _ (aaj h.walk).2.1);have e1:H.blks[a]'(abi ha)=x:=by have:=List.getElem?_eq_getElem (abi ha);rw[ha]at this;exact(Option.some.inj this).symm
 have e2:H.blks[b]'(abi hb)=y:=by have:=List.getElem?_eq_getElem (abi hb);rw[hb]at this;exact(Option.some.inj this).symm
 rcases Nat.lt_trichotomy a b with h' | h' | h'
 · exact absurd (by rw[e1,e2];exact e) (hpw a b (abi ha) (abi hb) h')
 · exact h'
 · exact absurd (by rw[e1,e2];exact e.symm) (hpw b a (abi hb) (abi ha) h')
section
variable {H:Hp} {i j k s:Nat} {x:Bk} {d:Dt}
theorem ai7 (h:(H.widen i).At j x d):∃j' x0,H.At j' x0 d/\x0.off=x.off/\x0.used=x.used/\(j=i->j'=i)/\(j≠i->j'≠i/\x0=x):=by
 unfold Hp.widen at h;obtain⟨x0,h1,h2,h3,h4⟩:=ag5 h;unfold Hp.swallow at h1;split at h1
 · obtain⟨j',c1,h1,c2,c3⟩:=ap5 h1;exact⟨j',x0,⟨h1.1,h1.2⟩,h2,h3,fun e=>by rw[c2 (by omega),e],fun e=>⟨by
    rcases Nat.lt_or_ge j (i+1)with hh | hh
    · rw[c2 hh];exact e
    · rw[c3 hh];omega,h4 e⟩⟩
 · exact⟨j,x0,h1,h2,h3,id,fun e=>⟨e,h4 e⟩⟩
theorem ar6{p o:Int}(h:(H.moveD p o).At j x d):(H.At j x d/\∀ip io,atB p H.blks=some ip->atB o H.blks=some io->j≠ip)\/((x.off:Int)=p/\∃io xo,atB o H.blks=some io/\H.blks[io]?=some xo/\d=H.ds.getD io acI):=by
 unfold Hp.moveD at h;split at h
 · rename_i ip io h1 h2;obtain⟨a,b⟩:=h;have b:(H.ds.set ip (H.ds.getD io acI))[j]?=some d:=b;have a':H.blks[j]?=some x:=a;by_cases e:j=ip
   · subst e;have hl:j<H.ds.length:=by
      have:=abi b;rwa [List.length_set]at this
     rw[List.getElem?_set_self hl]at b;injection b with b;obtain⟨x1,e1,e2⟩:=ab5 h1;obtain⟨x2,e3,_⟩:=ab5 h2;obtain rfl:x=x1:=Option.some.inj (a'.symm.trans e1);exact .inr ⟨e2,io,x2,h2,e3,b.symm⟩
   · rw[List.getElem?_set_ne (fun e'=>e e'.symm)]at b;exact .inl ⟨⟨a',b⟩,fun ip' io' h3 _=>by rw[h1]at h3;injection h3 with h3;rw[<-h3];exact e⟩
 · rename_i hn;exact .inl ⟨h,fun ip io h1 h2=>absurd h2 (hn ip io h1)⟩
theorem ar7{o:Int}(h:((H.giveO o).getD H).At j x d) (hu:x.used=true):∃j',H.At j' x d/\∀i,aaY H.blks o=some i->j'≠i:=by
 unfold Hp.giveO at h
 cases hi:aaY H.blks o with
 | none=>rw[hi]at h;exact⟨j,h,fun i hh=>by cases hh⟩
 | some i=>
  rw[hi]at h;obtain⟨j',e,h'⟩:=alJ (adj hi).1 h hu;exact⟨j',h',fun i' hh=>by injection hh with hh;rw[<-hh];exact e⟩
theorem akt (hd:H.Dl){o:Int}(h0:H.One) (he:(H.resize o s).1.2=0) (hfr:∀i,H.find s=some i->i<H.blks.length/\(aam H.blks i).used=false) (hone:(H.take s).2.One)
 (hmv:∀i q,aaY H.blks o=some i->(H.take s).1=some q->(∃iq,atB (q:Int) (H.take s).2.blks=some iq)/\∃io x0,atB o (H.take s).2.blks=some io/\aaY (H.take s).2.blks o=some io/\(H.take s).2.blks[io]?=some x0/\x0.used=true/\x0.off≠q)
 (h:(H.resize o s).2.At j x d) (hu:x.used=true):∃j' x0,H.At j' x0 d/\x0.used=true/\((x0=x/\(x0.off:Int)≠o)\/((x0.off:Int)=o/\x.off=(H.resize o s).1.1)):=by
 unfold Hp.resize at h he ⊢;split at h
 · rename_i hn;rw[hn]at he
   cases he
 · rename_i i hi;rw[hi]at he;obtain⟨h1,h2,h3⟩:=adj hi;have hoth:∀j' x0,H.blks[j']?=some x0->j'≠i->(x0.off:Int)≠o:=fun j' x0 a e e'=>e (h0 j' i x0 _ a (aas h1) (by omega));have hat:∀x0,H.blks[i]?=some x0->(x0.off:Int)=o/\x0.used=true/\x0.off=(aam H.blks i).off:=fun x0 a=>by rw[<-aa9 a];exact⟨h2,h3,rfl⟩
   split at h
   · rename_i hle;rw[if_pos hle];rcases ap8 hd h1 h hu with⟨x0,a,b⟩ | ⟨j',e,a⟩
     · obtain⟨c1,c2,c3⟩:=hat x0 a.1;exact⟨i,x0,a,c2, .inr ⟨c1,by rw[<-b,c3]⟩⟩
     · exact⟨j',x,a,hu, .inl ⟨rfl,hoth j' x a.1 e⟩⟩
   · rename_i hlt;dsimp only at he;rw[if_neg hlt]at he;split at h
     · rename_i hle;rw[if_neg hlt,if_pos hle];have hw:(H.widen i).Dl:=hd.widen;have hwi:i<(H.widen i).blks.length:=by
        cases hn:acJ H.blks i with
        | true=>rw[(afB hn).1];exact(aiW (H.out (i+1)) (i:=i) (afA hn)).1
        | false=>rw[(afC hn h1).1];exact h1
       rcases ap8 hw hwi h hu with⟨x0,a,b⟩ | ⟨j',e,a⟩
       · obtain⟨j2,x2,c1,c2,c3,c4,_⟩:=ai7 a;obtain rfl:=c4 rfl;obtain⟨d1,d2,d3⟩:=hat x2 c1.1;exact⟨j2,x2,c1,d2, .inr ⟨d1,by rw[<-b,<-c2,d3]⟩⟩
       · obtain⟨j2,x2,c1,c2,c3,_,c5⟩:=ai7 a;obtain⟨e2,rfl⟩:=c5 e;exact⟨j2,x2,c1,hu, .inl ⟨rfl,hoth j2 x2 c1.1 e2⟩⟩
     · rename_i hlt2;rw[if_neg hlt2]at he;split at h
       · rename_i hg;rw[if_neg hlt,if_neg hlt2,if_pos hg];obtain⟨x0,a,b,c,c'⟩:=ag5 h;obtain⟨j2,x2,c1,c2,c3,c4,c5⟩:=ai7 a;by_cases e:j=i
         · obtain rfl:=c4 e;obtain⟨d1,d2,d3⟩:=hat x2 c1.1;exact⟨j2,x2,c1,d2, .inr ⟨d1,by rw[<-b,<-c2,d3]⟩⟩
         · obtain⟨e2,rfl⟩:=c5 e;obtain rfl:=c' e;exact⟨j2,x2,c1,hu, .inl ⟨rfl,hoth j2 x2 c1.1 e2⟩⟩
       · rename_i hg;rw[if_neg hg]at he;rw[if_neg hlt,if_neg hlt2,if_neg hg]
         cases hq:(H.take s).1 with
         | none=>
          rw[hq]at he
          cases he
         | some q=>
          rw[hq]at h;obtain⟨⟨iq,hiq⟩,io',x0,c1,cu,c2,c3,c4⟩:=hmv i q hi hq;obtain⟨j1,a,hj1⟩:=ar7 h hu;rw[acF]at hj1;have hj1:=hj1 io' cu;obtain⟨xq,e1,e2⟩:=ab5 c1;rw[c2]at e1;injection e1 with e1;subst e1;rcases ar6 a with⟨a,hne⟩ | ⟨a,io,xo,b1,b2,b3⟩
          · rcases alK hd hfr a hu with e | ⟨j2,b⟩
            · rw[hq]at e;injection e with e;obtain⟨y,f1,f2⟩:=ab5 hiq;exact absurd (hone j1 iq x y a.1 f1 (by omega)) (hne iq io' hiq c1)
            · exact⟨j2,x,b,hu, .inl ⟨rfl,fun e=>hj1 (hone j1 io' x x0 a.1 c2 (by omega))⟩⟩
          · rw[b1]at c1;injection c1 with c1;subst c1;rw[b2]at c2;injection c2 with c2;subst c2;have hat:(H.take s).2.At io xo d:=⟨b2,by
             have hdl:(H.take s).2.ds.length=(H.take s).2.blks.length:=hd.take;have:io<(H.take s).2.ds.length:=by rw[hdl];exact abi b2
             rw[b3,List.getD_eq_getElem?_getD,List.getElem?_eq_getElem this];rfl⟩
            rcases alK hd hfr hat c3 with e | ⟨j2,b⟩
            · rw[hq]at e;injection e with e;exact absurd e.symm c4
            · exact⟨j2,xo,b,c3, .inr ⟨e2,by show x.off=q;omega⟩⟩
end
def avQ (bs:List UInt8) (H:Hp):Prop:=∀j x d,H.At j x d->x.used=true->d.2.length+16=x.size/\∀k,k<d.2.length->bs[x.off+8+k]?=d.2[k]?
structure RtD (bs:List UInt8) (H:Hp):Prop where
 rt:Rt bs H
 dl:H.Dl
 ho:avQ bs H
section
variable {bs out:List UInt8} {H H':Hp} {s:Nat}
theorem Rt.sz (h:Rt bs H){x:Bk}(hx:x∈H.blks):184<=x.off/\32<=x.size/\x.size<=16384/\x.off+x.size<=bs.length:=by
 have:=(aak _ _ _ (aaj h.walk).2.1).2 x hx;have sz:=(aab _).1 this.2.2.1;omega
theorem Rt.apart (h:Rt bs H){x y:Bk}(hx:x∈H.blks) (hy:y∈H.blks) (hne:x.off≠y.off):x.off+x.size<=y.off\/y.off+y.size<=x.off:=by
 rcases aaG _ _ _ (aaj h.walk).2.1 x hx y hy with e | e | e
 · exact absurd (by rw[e]) hne
 · exact .inl e
 · exact .inr e
theorem RtD.keep (h:RtD bs H) (hh:Held H bs H' out){x:Bk}{d:Dt}{j:Nat}(ha:H.At j x d) (hu:x.used=true) (hx:x∈H'.blks):d.2.length+16=x.size/\∀k,k<d.2.length->out[x.off+8+k]?=d.2[k]?:=by
 obtain⟨h1,h2⟩:=h.ho j x d ha hu;have hm:=List.mem_of_getElem? ha.1;refine⟨h1,fun k hk=> ?_⟩;rw[hh x hm hu x hx hu rfl (x.off+8+k) (by omega) (by omega) (by omega)];exact h2 k hk
theorem RtD.freed (h:RtD bs H){i:Nat}(hi:i<H.blks.length) (h':Rt out (H.give i)) (hh:Held H bs (H.give i) out):RtD out (H.give i):=
 ⟨h',h.dl.give,fun j x d ha hu=>by
  obtain⟨j',_,hb⟩:=alJ hi ha hu;exact h.keep hh hb hu (List.mem_of_getElem? ha.1)⟩
theorem alP (b:List UInt8) (d:Nat) (cs:List UInt8) (hd:d+cs.length<=b.length) (q:Nat) (hq:q<d\/d+cs.length<=q):(lay b d cs)[q]?=b[q]?:=by
 unfold lay;rcases hq with h | h
 · rw[List.getElem?_append_left (by rw[List.length_take];omega),List.getElem?_take_of_lt h]
 · rw[List.getElem?_append_right (by rw[List.length_take];omega),List.length_take,List.getElem?_append_right (by omega),List.getElem?_drop];congr 1;omega
theorem RtD.fills (h':Rt out H') (hd:H'.Dl){i:Nat}{y:Bk}(hy:H'.blks[i]?=some y) (hyu:y.used=true) (V:Value){L:List UInt8}(hL:L.length+16=y.size){b2:List UInt8}(hag:aib out b2 y) (hb2:∀k,k<L.length->b2[y.off+8+k]?=L[k]?)
 (hoth:∀j x d,H'.At j x d->x.used=true->j≠i->d.2.length+16=x.size/\∀k,k<d.2.length->out[x.off+8+k]?=d.2[k]?):RtD b2 (H'.dset i (V,L)):=by
 have hym:=List.mem_of_getElem? hy;have hf:=h'.fill hym hyu hag;refine⟨⟨hf.walk,hf.all_,hf.chk,hf.len⟩,by show(H'.ds.set i _).length=_;rw[List.length_set];exact hd,fun j x d ha hu=> ?_⟩;obtain⟨a,b⟩:=ha;have a':H'.blks[j]?=some x:=a;have b:(H'.ds.set i (V,L))[j]?=some d:=b;by_cases e:j=i
 · subst e;obtain rfl:y=x:=Option.some.inj (hy.symm.trans a');have hl:j<H'.ds.length:=by have:=abi b;rwa [List.length_set]at this
   rw[List.getElem?_set_self hl]at b;injection b with b;subst b;exact⟨hL,hb2⟩
 · rw[List.getElem?_set_ne (fun e'=>e e'.symm)]at b;obtain⟨c1,c2⟩:=hoth j x d ⟨a',b⟩ hu e;refine⟨c1,fun k hk=> ?_⟩;rw[<-c2 k hk];have hxm:=List.mem_of_getElem? a';have hap:=h'.apart hxm hym (fun e'=>e (h'.one _ _ _ _ a' hy e'));exact hag.2 _ (by omega)
theorem an3 (b:List UInt8) (x:Bk):aib b b x:=⟨rfl,fun _ _=>rfl⟩
theorem aqe (H:Hp) (i:Nat):((H.wipe i).ds.getD i acI).2= []:=by
 show((H.ds.set i acI).getD i acI).2= [];rw[List.getD_eq_getElem?_getD,List.getElem?_set];split
 · split<;>rfl
 · rename_i e;exact absurd rfl e
theorem RtD.got (h:RtD bs H){o:Nat}(hs:aaB (s:Int)=true) (hq:(H.take s).1=some o) (h1:Rt out (H.take s).2) (hh:Held H bs (H.take s).2 out) (v:UInt8):
 ∃i y,atB (o:Int) (H.take s).2.blks=some i/\(H.take s).2.blks[i]?=some y/\y.off=o/\y.used=true/\s<=y.size/\y.off+y.size<=out.length/\RtD (lay out (o+8) (List.replicate (y.size-16) v)) (((H.take s).2.wipe i).fill i v):=by
 obtain⟨y,y1,y2,y3,y4,y5,y6⟩:=h.rt.what hs hq;obtain⟨i,hi⟩:=afv y1;rw[y2]at hi;obtain⟨y',e1,e2⟩:=ab5 hi;obtain⟨k,hk⟩:=List.mem_iff_getElem?.1 y1;obtain rfl:i=k:=h1.one _ _ _ _ e1 hk (by omega);have hsz:=h1.sz y1;refine⟨i,y,hi,hk,y2,y3,y4,hsz.2.2.2,?_⟩;unfold Hp.fill;rw[aqe];have eb:aam ((H.take s).2.wipe i).blks i=y:=aa9 (show(H.take s).2.blks[i]?=some y from hk);rw[eb];have eL:aj8 [] (y.size-16) v=List.replicate (y.size-16) v:=by unfold aj8;simp
 rw[eL];have hll:(List.replicate (y.size-16) v).length=y.size-16:=List.length_replicate;refine RtD.fills (H':=(H.take s).2.wipe i) (y:=y) ⟨h1.walk,h1.all_,h1.chk,h1.len⟩ ?_ hk y3 _ (by omega) (aed (x:=y) _ _ (by omega) (by omega) (by omega)) (fun k hk2=> ?_) (fun j x d ha hu hne=> ?_)
 · show((H.take s).2.ds.set i acI).length=_;rw[List.length_set];exact h.dl.take
 · rw[show y.off+8+k=o+8+k by omega];exact aie out (o+8) _ (by omega) k hk2
 · have ha:=ap6 ha hne;rcases alK h.dl (fun j hj=>by obtain⟨a,_,c⟩:=h.rt.found hs hj;exact⟨a,c⟩) ha hu with e | ⟨j',hb⟩
   · rw[hq]at e;injection e with e;exact absurd (h1.one _ _ _ _ ha.1 hk (by omega)) hne
   · exact h.keep hh hb hu (List.mem_of_getElem? ha.1)
theorem afW{o:Int}(he:(H.resize o s).1.2=0):((H.resize o s).1.1:Int)=o\/(H.take s).1=some (H.resize o s).1.1:=by
 unfold Hp.resize at he ⊢;split
 · rename_i hn;rw[hn]at he;cases he
 · rename_i i hi;obtain⟨h1,h2,h3⟩:=adj hi;rw[hi]at he;dsimp only at he;split
   · exact .inl h2
   · rename_i a;rw[if_neg a]at he;split
     · exact .inl h2
     · rename_i b;rw[if_neg b]at he;split
       · exact .inl h2
       · rename_i c;rw[if_neg c]at he;split
         · rename_i d;rw[d]at he;cases he
         · rename_i d;exact .inr d
theorem Rt.movesU (h:Rt bs H) (hs:aaB (s:Int)=true){o:Int}(hT:(H.take s).2.One):∀i q,aaY H.blks o=some i->(H.take s).1=some q->(∃iq,atB (q:Int) (H.take s).2.blks=some iq)/\∃io x0,atB o (H.take s).2.blks=some io/\aaY (H.take s).2.blks o=some io/\(H.take s).2.blks[io]?=some x0/\x0.used=true/\x0.off≠q:=fun i q hu hq=>by
 obtain⟨iq,io,h1,h2⟩:=h.moves hs i q hu hq;obtain⟨i1,i2,i3⟩:=adj hu;have ht:abA 184 H.blks (Go.Proofs.YtncadccbepjekaaGreatDoor.lenB H.blks):=by rw[h.lenE];exact(aaj h.walk).2.1
 have hm:aam H.blks i∈H.blks:=List.mem_of_getElem? (aas i1);have hm2:=ai4 (s:=s) ht hs (fun j hj=>by obtain⟨a,_,c⟩:=h.found hs hj;exact⟨a,c⟩) hm i3;obtain⟨x,e1,e2⟩:=ab5 h2;obtain⟨k,hk⟩:=List.mem_iff_getElem?.1 hm2;obtain rfl:io=k:=hT _ _ _ _ e1 hk (by omega);obtain rfl:x=aam H.blks i:=Option.some.inj (e1.symm.trans hk);obtain⟨y,y1,y2,y3,y4,y5,y6⟩:=h.what hs hq;have sx:=(aab _).1 ((aak _ _ _ ht).2 _ hm).2.2.1;have ss:=(aab _).1 hs;refine⟨⟨iq,h1⟩,io,aam H.blks i,h2,?_,e1,i3,fun e=> ?_⟩
 · unfold aaY;rw[h2];dsimp only;rw[aa9 e1,if_pos i3]
 · have:=y6 _ hm i3;omega
theorem RtD.resized (h:RtD bs H) (hok:H.Ok) (hT:(H.take s).2.One) (hs:aaB (s:Int)=true){o:Int}(he:(H.resize o s).1.2=0) (h1:Rt out (H.resize o s).2) (hh:Held H bs (H.resize o s).2 out) (hm:ai6 H bs o (H.resize o s).2 out (H.resize o s).1.1) (v:UInt8):
 ∃i y j x0 d,atB ((H.resize o s).1.1:Int) (H.resize o s).2.blks=some i/\(H.resize o s).2.blks[i]?=some y/\y.off=(H.resize o s).1.1/\y.used=true/\s<=y.size/\y.off+y.size<=out.length/\H.At j x0 d/\x0.used=true/\(x0.off:Int)=o/\d.2.length+16=x0.size/\
  (∀k,k<d.2.length->k+16<y.size->out[y.off+8+k]?=d.2[k]?)/\∀b2,aib out b2 y->(∀k,k<y.size-16->b2[y.off+8+k]?=(aj8 d.2 (y.size-16) v)[k]?)->RtD b2 ((H.resize o s).2.fill i v):=by
 obtain⟨y,y1,y3,y2,y4⟩:=h.rt.rezHas hok hs he;obtain⟨i,hi⟩:=afv y1;rw[y2]at hi;obtain⟨y',e1,e2⟩:=ab5 hi;obtain⟨k,hk⟩:=List.mem_iff_getElem?.1 y1;obtain rfl:i=k:=h1.one _ _ _ _ e1 hk (by omega);have hsz:=h1.sz y1;have hdl:(H.resize o s).2.ds.length=(H.resize o s).2.blks.length:=h.dl.resize;have hil:i<(H.resize o s).2.ds.length:=by rw[hdl];exact abi hk
 have hfr:=fun j hj=>by obtain⟨a,_,c⟩:=h.rt.found (s:=s) (i:=j) hs hj;exact(⟨a,c⟩:j<H.blks.length/\(aam H.blks j).used=false)
 have hmv:=h.rt.movesU hs (o:=o) hT;obtain⟨j,x0,a,au,hx⟩:=akt h.dl h.rt.one he hfr hT hmv (j:=i) (x:=y) (d:=(H.resize o s).2.ds[i]) ⟨hk,List.getElem?_eq_getElem hil⟩ y3;have hx0:(x0.off:Int)=o:=by
  rcases hx with⟨e,hne⟩ | ⟨e,_⟩
  · exfalso;subst e;rcases afW he with e | e
    · omega
    · obtain⟨z,z1,z2,z3,z4,z5,z6⟩:=h.rt.what hs e;have hap:=z6 x0 (List.mem_of_getElem? a.1) au;have:=h.rt.sz (List.mem_of_getElem? a.1);have ss:=(aab _).1 hs;omega
  · exact e
 obtain⟨c1,c2⟩:=h.ho j x0 _ a au;have hpay:∀k,k<(H.resize o s).2.ds[i].2.length->k+16<y.size->out[y.off+8+k]?=(H.resize o s).2.ds[i].2[k]?:=fun k k1 k2=>by
  have:=hm x0 (List.mem_of_getElem? a.1) au hx0 y y1 y3 y2 (8+k) (by omega) (by omega) (by omega);rw[y2,show(H.resize o s).1.1+8+k=(H.resize o s).1.1+(8+k) by omega,this,show x0.off+(8+k)=x0.off+8+k by omega];exact c2 k k1
 refine⟨i,y,j,x0,(H.resize o s).2.ds[i],hi,hk,y2,y3,y4,hsz.2.2.2,a,au,hx0,c1,hpay,fun b2 hag hb2=> ?_⟩;unfold Hp.fill;have eb:aam (H.resize o s).2.blks i=y:=aa9 hk;have ed:(H.resize o s).2.ds.getD i acI=(H.resize o s).2.ds[i]:=by rw[List.getD_eq_getElem?_getD,List.getElem?_eq_getElem hil];rfl
 rw[eb,ed];have hL:=apz (H.resize o s).2.ds[i].2 (y.size-16) v;refine RtD.fills h1 hdl hk y3 _ (by omega) hag (fun k hk2=>hb2 k (by omega)) (fun j2 x d ha hu hne=> ?_);obtain⟨j3,x3,a3,au3,hx3⟩:=akt h.dl h.rt.one he hfr hT hmv ha hu;rcases hx3 with⟨rfl,hne3⟩ | ⟨_,e3⟩
 · exact h.keep hh a3 au3 (List.mem_of_getElem? ha.1)
 · exact absurd (h1.one _ _ _ _ ha.1 hk (by omega)) hne
theorem RtD.wrote (h:RtD bs H){i:Nat}{x:Bk}{d:Dt}(ha:H.At i x d) (hu:x.used=true) (V:Value) (p:Nat) (b:List UInt8) (hp:p+b.length<=d.2.length):RtD (lay bs (x.off+8+p) b) (H.dset i (V,lay d.2 p b)):=by
 obtain⟨c1,c2⟩:=h.ho i x d ha hu;have hsz:=h.rt.sz (List.mem_of_getElem? ha.1);have hll:(lay d.2 p b).length=d.2.length:=by
  unfold lay;simp only[List.length_append,List.length_take,List.length_drop];omega
 refine RtD.fills h.rt h.dl ha.1 hu V (by omega) (aed (x:=x) _ _ (by omega) (by omega) (by omega)) (fun k hk=> ?_) (fun j z e hz hzu _=>h.ho j z e hz hzu);rw[hll]at hk;by_cases e:k<p\/p+b.length<=k
 · rw[alP bs _ b (by omega) _ (by omega),alP d.2 p b hp k e];exact c2 k hk
 · rw[show x.off+8+k=x.off+8+p+(k-p) by omega,aie bs _ b (by omega) (k-p) (by omega)];have:=aie d.2 p b (by omega) (k-p) (by omega);rw[show p+(k-p)=k by omega]at this;exact this.symm
end
end Go.Proofs.YtncadccbepjekaaGreatDoor
