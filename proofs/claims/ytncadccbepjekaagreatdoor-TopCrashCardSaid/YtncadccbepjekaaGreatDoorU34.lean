/- Texts of mine, joined. -/
import Derived.Test.YtncadccbepjekaaGreatDoorU29
import Derived.Test.YtncadccbepjekaaGreatDoorU30
import Derived.Test.YtncadccbepjekaaGreatDoorU31
set_option maxRecDepth 100000
set_option maxHeartbeats 2000000
namespace Go.Proofs.YtncadccbepjekaaGreatDoor
theorem Held.moved{H H':Hp}{bs out:List UInt8}{o:Int}{p:Nat}(h:Held H bs H' out) (hp:(p:Int)=o):ai6 H bs o H' out p:=by
 intro x hx hu hxo y hy hyu hyp i i1 i2 i3;have e:x.off=p:=by omega
 have:=h x hx hu y hy hyu (by omega) (x.off+i) (by omega) (by omega) (by omega);rw[e]at this ⊢;exact this
theorem Held.self (H:Hp) (bs:List UInt8):Held H bs H bs:=fun _ _ _ _ _ _ _ _ _ _ _=>rfl
theorem al7{H:Hp}{p o:Int}:(H.moveD p o).lists=H.lists:=by unfold Hp.moveD;split<;>rfl
section
variable {bs:List UInt8} {H:Hp}
theorem Rt.moveD{p o:Int}(h:Rt bs H):Rt bs (H.moveD p o):=⟨by rw[acF];exact h.walk,fun c hc=>by rw[al7];exact h.all_ c hc,h.chk,by rw[moveD_cap];exact h.len⟩
theorem Rt.moved (h:Rt bs H){s i q:Nat}(hs:aaB (s:Int)=true){o:Int}(hi:aaY H.blks o=some i){xo xs:Nat}(hx:aam H.blks i=⟨xo,xs,true⟩) (hlt:xs<s) (hq:(H.take s).1=some q){bs1:List UInt8}(h1:Rt bs1 (H.take s).2) (hh1:Held H bs (H.take s).2 bs1):
 q+8+(xs-16)<=bs1.length/\xo+8+(xs-16)<=bs1.length/\32<=xs/\Rt (lay bs1 (q+8) ((bs1.drop (xo+8)).take (xs-16))) ((H.take s).2.moveD (q:Int) o)/\(∃j,aaY ((H.take s).2.moveD (q:Int) o).blks o=some j)/\
  ∀H' out,Held ((H.take s).2.moveD (q:Int) o) (lay bs1 (q+8) ((bs1.drop (xo+8)).take (xs-16))) H' out->Held H bs H' out/\ai6 H bs o H' out q:=by
 obtain⟨i1,i2,i3⟩:=aeP hi;have hxm:(⟨xo,xs,true⟩:Bk)∈H.blks:=by rw[<-hx];exact List.mem_of_getElem? (aas i1)
 rw[hx]at i2;dsimp only at i2;have ht:abA 184 H.blks (Go.Proofs.YtncadccbepjekaaGreatDoor.lenB H.blks):=by rw[h.lenE];exact(aaj h.walk).2.1
 have tm:∀z∈H.blks,z.used=true->z∈(H.take s).2.blks:=fun z hz hu=>ai4 ht hs (fun j hj=>by obtain⟨a,_,c⟩:=h.found hs hj;exact⟨a,c⟩) hz hu;obtain⟨y,n1,n2,n3,n4,n5,n6⟩:=h.what hs hq;have ht1:=(aaj h1.walk).2.1;obtain⟨y1,y2,y3,_⟩:=(aak _ _ _ ht1).2 y n1;obtain⟨x1,x2,x3,_⟩:=(aak _ _ _ ht1).2 _ (tm _ hxm rfl);dsimp only at x1 x2 x3;have sx:=(aab _).1 x3;have hap:=n6 _ hxm rfl;dsimp only at hap;obtain⟨cs,hcs⟩:=nmE ((bs1.drop (xo+8)).take (xs-16));have hcl:cs.length=xs-16:=by rw[<-hcs,List.length_take,List.length_drop];omega
 rw[hcs];have ag:aib bs1 (lay bs1 (q+8) cs) y:=aed (x:=y) (q+8) cs (by omega) (by omega) (by omega);have hR2:Rt (lay bs1 (q+8) cs) (H.take s).2:=h1.fill n1 n3 ag;refine⟨by omega,by omega,by omega,hR2.moveD,?_,fun H' out hH=>⟨?_,?_⟩⟩
 · rw[acF];obtain⟨j,hj⟩:=List.mem_iff_getElem?.1 (tm _ hxm rfl);have:=ajj ht1 hj i2 rfl
   cases hu:aaY (H.take s).2.blks o with
   | none=>rw[hu]at this;cases this
   | some k=>exact⟨k,rfl⟩
 · intro z hz hzu v hv hvu e k k1 k2 k3;have a:=hH z (by rw[acF];exact tm z hz hzu) hzu v hv hvu e k k1 k2 k3;have b:=ag.2 k (by have:=n6 z hz hzu;omega);have d:=hh1 z hz hzu z (tm z hz hzu) hzu rfl k k1 k2 k2;rw[a,b,d]
 · intro x' hx' hxu' hxo' v hv hvu hvp k k1 k2 k3;obtain rfl:x'=⟨xo,xs,true⟩:=by
    have sz:=(aab _).1 ((aak _ _ _ ht).2 x' hx').2.2.1;rcases aaG _ _ _ ht x' hx' _ hxm with e | e | e
    · exact e
    · dsimp only at e;omega
    · dsimp only at e;omega
   dsimp only at k2 ⊢;have a:=hH y (by rw[acF];exact n1) n3 v hv hvu (by omega) (q+k) (by omega) (by omega) (by omega);have b:=aie bs1 (q+8) cs (by omega) (k-8) (by omega);rw[show q+8+(k-8)=q+k by omega]at b;have d:cs[k-8]?=bs1[xo+k]?:=by
    rw[<-hcs,List.getElem?_take_of_lt (by omega),List.getElem?_drop,show xo+8+(k-8)=xo+k by omega]
   have f:=hh1 _ hxm rfl _ (tm _ hxm rfl) rfl rfl (xo+k) (by dsimp only;omega) (by dsimp only;omega) (by dsimp only;omega);rw[a,b,d,f]
theorem Rt.wideHeld (h:Rt bs H){A B1:List Bk}{n:Option Bk}{xo xs t:Nat}(hb:H.blks=A++⟨xo,xs,true⟩::(n.toList++B1)) (hf:∀y,n=some y->y.used=false) (hxt:xs<=t){b2:List UInt8}{H':Hp}(hb':H'.blks=A++⟨xo,t,true⟩::B1)
 (h1:∀z∈H.blks,z.used=true->z.off≠xo->∀i,Pay z i->b2[i]?=bs[i]?) (h2:∀i,Pay ⟨xo,xs,true⟩ i->b2[i]?=bs[i]?) {H'':Hp} {out:List UInt8} (hH:Held H' b2 H'' out):Held H bs H'' out:=by
 intro z hz hzu v hv hvu e k k1 k2 k3;have ht:abA 184 H.blks (Go.Proofs.YtncadccbepjekaaGreatDoor.lenB H.blks):=by rw[h.lenE];exact(aaj h.walk).2.1
 have hxm:(⟨xo,xs,true⟩:Bk)∈H.blks:=by rw[hb];simp
 by_cases hzo:z.off=xo
 · obtain rfl:z=⟨xo,xs,true⟩:=by
    have sz:=(aab _).1 ((aak _ _ _ ht).2 z hz).2.2.1;have sx:=(aab _).1 ((aak _ _ _ ht).2 _ hxm).2.2.1;dsimp only at sx;rcases aaG _ _ _ ht z hz _ hxm with e | e | e
    · exact e
    · dsimp only at e;omega
    · dsimp only at e;omega
   dsimp only at k1 k2 e;rw[hH ⟨xo,t,true⟩ (by rw[hb'];simp) rfl v hv hvu e k k1 (by dsimp only;omega) k3,h2 k ⟨k1,k2⟩]
 · have hm:z∈H'.blks:=by
    rw[hb]at hz;rw[hb'];rcases List.mem_append.1 hz with hz | hz
    · simp[hz]
    · rcases List.mem_cons.1 hz with rfl | hz
      · exact absurd rfl hzo
      · rcases List.mem_append.1 hz with hz | hz
        · have:=hf z (by simpa using hz);rw[hzu]at this;cases this
        · simp[hz]
   rw[hH z hm hzu v hv hvu e k k1 k2 k3,h1 z hz hzu hzo k ⟨k1,k2⟩]
end
open Go.RowKit
section
variable {w:World} {g base cap c:Nat} {A:Option Addr} {bs:List UInt8} {H:Hp}
theorem at7 (h:Ar w 195 g base cap A c bs) (hbase:base<=4611686018427387904) (hcap:cap<=16384) (hc:H.cap=cap) (hR:Rt bs H) (xo xs s:Nat) (hs:aaB (s:Int)=true) (hq:(H.take s).1=none):
 Calls Tryz.prog 245 #[.pointer (some ⟨g,0,none⟩), .agg #[.int .i64 (xo:Int), .int .i64 (xs:Int), .bool true], .int .i64 (s:Int)] w fun e w'=>e= .returned (.tuple #[.int .i64 0,aat false 5])/\Below w.heap.size w w':=by
 have ss:=(aab _).1 hs;obtain⟨w0,hw0⟩:=nmE (w.alloc (.cells #[.int .i64 (xo:Int), .int .i64 (xs:Int), .bool true] 112));have hb0:=abE hw0;have hT:=(at2 w0 g base cap c A bs H (s:Int) (h.below hb0) hbase hcap hc hR ⟨by omega,by omega⟩).2 hs;rw[Int.toNat_natCast]at hT;unfold ab9 at hT;rw[hq]at hT;dsimp only[aat]at hT ⊢;have HT:=hE0 hT;have HW0:=hE0 hw0;have HB0:=hE0 hb0;clear hT hw0 hb0 h hR hq hs;go_enter Tryz.func245,Tryz.ntmps245
 go_wp2_with (first | (rw[HW0.out]) | fail)
 refine HT.out.mono ?_;rintro e w2 ⟨rfl,hb2⟩;have HB2:=hE0 (HB0.out.trans (hb2.mono HB0.out.size));clear hb2 HT;go_wp2
 go_ret2
 exact⟨rfl,HB2.out⟩
theorem asj (h:Ar w 195 g base cap A c bs) (hbase:base<=4611686018427387904) (hcap:cap<=16384) (hc:H.cap=cap) (hR:Rt bs H){xo xs s i q:Nat}(hs:aaB (s:Int)=true) (hi:aaY H.blks (xo:Int)=some i) (hx:aam H.blks i=⟨xo,xs,true⟩) (hlt:xs<s) (hq:(H.take s).1=some q):
 Calls Tryz.prog 245 #[.pointer (some ⟨g,0,none⟩), .agg #[.int .i64 (xo:Int), .int .i64 (xs:Int), .bool true], .int .i64 (s:Int)] w fun e w'=>e= .returned (.tuple #[.int .i64 (q:Int),aat true 5])/\∃out,Became 195 g base cap A out w w'/\
  Rt out ((((H.take s).2.moveD (q:Int) (xo:Int)).giveO (xo:Int)).getD ((H.take s).2.moveD (q:Int) (xo:Int)))/\Held H bs ((((H.take s).2.moveD (q:Int) (xo:Int)).giveO (xo:Int)).getD ((H.take s).2.moveD (q:Int) (xo:Int))) out/\
  ai6 H bs (xo:Int) ((((H.take s).2.moveD (q:Int) (xo:Int)).giveO (xo:Int)).getD ((H.take s).2.moveD (q:Int) (xo:Int))) out q:=by
 have ss:=(aab _).1 hs;obtain⟨w0,hw0⟩:=nmE (w.alloc (.cells #[.int .i64 (xo:Int), .int .i64 (xs:Int), .bool true] 112));have hb0:=abE hw0;have n0:=anE hw0;have h0:=h.below hb0;have hT:=(at2 w0 g base cap c A bs H (s:Int) h0 hbase hcap hc hR ⟨by omega,by omega⟩).2 hs;rw[Int.toNat_natCast]at hT;unfold ab9 at hT;rw[hq]at hT;have hcap2:(H.take s).2.cap=cap:=take_cap.trans hc;have HM:=hE0 (fun bs1 (h1:Rt bs1 (H.take s).2) hh1=>hR.moved hs hi hx hlt hq h1 hh1);have HBD:=hE0 (fun bs1 (h1:Rt bs1 (H.take s).2)=>h1.bound (by omega));obtain⟨H1,hH1⟩:=nmE ((H.take s).2);rw[hH1]at hT HM HBD hcap2 ⊢;have hcap3:(H1.moveD (q:Int) (xo:Int)).cap=cap:=moveD_cap.trans hcap2;obtain⟨H2,hH2⟩:=nmE (H1.moveD (q:Int) (xo:Int));rw[hH2]at HM hcap3 ⊢;dsimp only[aat]at hT ⊢;have HT:=hE0 hT;have HW0:=hE0 hw0;have HB0:=hE0 hb0;have HN0:=hE0 n0;have HA0:=hE0 h0;clear hT hw0 hb0 n0 h0 h hR hq hs hi hx hlt hH1 hH2 hc hcap2;go_enter Tryz.func245,Tryz.ntmps245
 go_wp2_with (first | (rw[HW0.out]) | fail)
 refine HT.out.mono ?_;rintro e w2 ⟨rfl,bs1,hB2,hR1,hh1⟩;obtain⟨l1,l2,l3,hR2,⟨j,hj⟩,hfin⟩:=HM.out bs1 hR1 hh1;have hbl:=(HBD.out bs1 hR1).1;obtain⟨bs2,hbs2⟩:=nmE (lay bs1 (q+8) ((bs1.drop (xo+8)).take (xs-16)));rw[hbs2]at hR2 hfin;have hg:H2.giveO (xo:Int)=some (H2.give j):=by unfold Hp.giveO;rw[hj];rfl
 have HGV:=hE0 (show(H2.giveO (xo:Int)).getD H2=H2.give j by rw[hg];rfl);obtain⟨A2,c2,a2,t2,k2⟩:=hB2;have n2:=Loc.tch HA0.out t2 _ _ HN0.out;obtain⟨v1,hv1⟩:∃v1:Int,((base+q+8:Nat):Int)=v1:=⟨_,rfl⟩;obtain⟨v2,hv2⟩:∃v2:Int,((base+xo+8:Nat):Int)=v2:=⟨_,rfl⟩;have H1:=hE0 (air a2.drew hbase q (by omega));have H2':=hE0 (air a2.drew hbase xo (by omega));have HC:=hE0 (atd a2.drew (by omega) (base+q+8) (base+xo+8) (xs-16) (q+8) (xo+8) (by omega) (by omega) (by omega) (by omega) (by omega) (by omega) (by omega) (by omega) (by omega));rw[hbs2]at HC;rw[hv1]at H1 HC;rw[hv2]at H2' HC;have e16:((xs-16:Nat):Int)=(xs:Int)-16:=by omega
 rw[e16]at HC;have ew:IntKind.u64.wrap ((xs:Int)-16)=(xs:Int)-16:=IntWalk.u64_in _ (by omega);obtain⟨⟨d0,d1,d2⟩,_⟩:=aad n2;have hlt2:=aac n2;have HN2:=hE0 n2;have HGK:=hE0 (fun w3 c3 A3 (a3:Ar w3 195 g base cap A3 c3 bs2)=>au9 w3 g base cap c3 A3 bs2 H2 (xo:Int) a3 hbase hcap hcap3 hR2 ⟨by omega,by omega⟩);rw[hg]at HGK;dsimp only[ac1,aat]at HGK;have HTR:=hE0 (fun b3 w4 (k:Became 195 g base cap A2 b3 w2 w4)=>Became.trans a2 t2 k2 k);have HFIN:=hE0 hfin;clear hfin hR2 hj hg hR1 hh1 HM HBD HT HA0 HN0 n2 t2 k2 hbs2 hv1 hv2;go_wp2_with fail
 refine aar w2.heap.size [([0,1,2,4,5,6,8,9,10,11],3),([],7)] [] [12] (by kernel_rfl) (by kernel_rfl) (by kernel_rfl) (fun _ _ _ _ _ h=>h) ?_;have q0:∀z:LaterB w2.heap.size w2.drew,z.val.cell? ⟨w.heap.size,0,none⟩=some (.int .i64 (xo:Int)):=fun z=>(z.ext.cell (p:=⟨w.heap.size,0,none⟩) hlt2).trans d0;have q1:∀z:LaterB w2.heap.size w2.drew,z.val.cell? ⟨w.heap.size,1,none⟩=some (.int .i64 (xs:Int)):=fun z=>(z.ext.cell (p:=⟨w.heap.size,1,none⟩) hlt2).trans d1;refine tail_cons (l:= ?seg1) ?hseg1 ?_
 case hseg1=>simp only[pick,lE1,lE2,lE3];rfl
 repeat (go_big_quiet_step (fail))
 refine wpQuiet_nil ?_;clear q0 q1;refine aau (vs:= #[.pointer (some ⟨g,0,none⟩), .int .i64 (q:Int)]) Tryz.call273 rfl rfl rfl (R:=fun r w'=>r= .int .u64 v1/\w'=w2.drew) (H1.out.mono ?_) w2.heap.size (Nat.le_refl _) ?_
 · rintro e w' ⟨rfl,rfl⟩;exact⟨_,rfl,Below.refl _ _,rfl,rfl⟩
 rintro r w3 _ ⟨rfl,rfl⟩;refine tail_cons (l:= []) rfl ?_;refine wpQuiet_nil ?_;refine aau (vs:= #[.pointer (some ⟨g,0,none⟩), .int .i64 (xo:Int)]) Tryz.call273 rfl rfl rfl (R:=fun r w'=>r= .int .u64 v2/\w'=w2.drew) (H2'.out.mono ?_) w2.heap.size (Nat.le_refl _) ?_
 · rintro e w' ⟨rfl,rfl⟩;exact⟨_,rfl,Below.refl _ _,rfl,rfl⟩
 rintro r w3 _ ⟨rfl,rfl⟩;refine aaO (l:= []) (t:= ?tl1) rfl ?htl1 ?_
 case htl1=>simp only[pick,lE1,lE2,lE3];rfl
 refine wpQuiet_nil ?_;simp only[Act.put,lE4,lE5,lE6];clear d0 d1 d2 hlt2 H1 H2';go_wp2_with fail
 refine HC.out.mono ?_;rintro e w3 ⟨rfl,hB3⟩;have hB3':=hB3;obtain⟨A3,c3,a3,t3,k3⟩:=hB3';have n3:=Loc.tch a2.drew t3 _ _ HN2.out;have HG:=hE0 (HGK.out w3 c3 A3 a3);have HTR3:=hE0 (fun b3 w4 (k:Became 195 g base cap A3 b3 w3 w4)=>HTR.out b3 w4 (Became.of_drew (Became.trans a3 t3 k3 k)));obtain⟨⟨d0,d1,d2⟩,_⟩:=aad n3;have hlt3:=aac n3;clear hB3 HGK HTR n3 a3 t3 k3 HC HN2 a2;go_wp2_with fail
 refine HG.out.mono ?_;clear d0 d1 d2 hlt3;rintro e w4 ⟨rfl,out,hB4,hR4,hh4⟩;have hBo:=HTR3.out out w4 hB4;have HBo:=hE0 (hBo.after HB0.out);have HR4:=hE0 hR4;have HF4:=hE0 (HFIN.out _ _ hh4);have HS:=hE0 (aiq (w:=w4) (q:Int));clear hB4 hBo hR4 hh4 HG HTR3 HFIN HB0;go_wp2_with fail
 refine HS.out.mono ?_;rintro e w5 ⟨rfl,rfl⟩;clear HS;go_wp2
 go_ret2
 refine⟨rfl,out,HBo.out,?_⟩;rw[HGV.out];exact⟨HR4.out,HF4.out.1,HF4.out.2⟩
end
theorem ask{l:List Bk}{e:Nat}(ht:abA 184 l e){i:Nat}{x:Bk}{o:Int}(hx:l[i]?=some x) (ho:(x.off:Int)=o) (hu:x.used=true):aaY l o=some i:=by
 have h:=ajj ht hx ho hu
 cases hk:aaY l o with
 | none=>rw[hk]at h;cases h
 | some k=>
  obtain⟨k1,k2,k3⟩:=aeP hk;rw[hk,Option.map_some]at h;injection h with h;have hkx:=aas k1;rw[h]at hkx;have hpw:=List.pairwise_iff_getElem.1 (aeD _ _ _ ht);have hi1:=abi hx;have e1:l[i]=x:=by rw[List.getElem?_eq_getElem hi1]at hx;exact Option.some.inj hx
  have e2:l[k]=x:=by rw[List.getElem?_eq_getElem k1]at hkx;exact Option.some.inj hkx
  rcases Nat.lt_trichotomy k i with h' | h' | h'
  · exact absurd (by rw[e1,e2]) (hpw k i k1 hi1 h')
  · rw[h']
  · exact absurd (by rw[e1,e2]) (hpw i k hi1 k1 h')
section
variable {bs:List UInt8} {H:Hp} {A1 B1:List Bk} {p n:Option Bk} {xo xs z:Nat}
theorem Rt.widened (h:Rt bs H) (hc:H.cap<=16384) (hb:H.blks=(A1++p.toList)++⟨xo,xs,true⟩::(n.toList++B1)) (hN:alu A1 p n B1) (hz:(n.map Bk.size).getD 0=z):
 ∃b1 b2,apU bs n=some b1/\aeo b1 (xo:Int) ((xs+z:Nat):Int) true=some b2/\b1.length=bs.length/\Rt b2 (H.widen (A1++p.toList).length)/\aaY (H.widen (A1++p.toList).length).blks (xo:Int)=some (A1++p.toList).length/\
  aam (H.widen (A1++p.toList).length).blks (A1++p.toList).length=⟨xo,xs+z,true⟩/\∀H'' out,Held (H.widen (A1++p.toList).length) b2 H'' out->Held H bs H'' out:=by
 obtain⟨w1,w2,w3,w4⟩:=ai8 hb hN.nf hN.nu;rw[hz]at w1 w3;obtain⟨A,hA⟩:=nmE (A1++p.toList);rw[hA]at hb w1 w2 w3 w4 ⊢;obtain⟨hl,hbd⟩:=h.bound hc;have ht:abA 184 H.blks bs.length:=(aaj h.walk).2.1;have htm:=(aak _ _ _ ht).2;have hxm:(⟨xo,xs,true⟩:Bk)∈H.blks:=by rw[hb];simp
 have sx:=(aab _).1 (htm _ hxm).2.2.1;have hx8:=(htm _ hxm).2.1;dsimp only at sx hx8;have hsz:aaB ((xs+z:Nat):Int)=true:=by
  rw[aab]
  cases n with
  | none=>simp at hz;omega
  | some m=>
   have hmm:m∈H.blks:=by rw[hb];simp
   have sm:=(aab _).1 (htm _ hmm).2.2.1;have hm8:=htm _ hmm;have hz:m.size=z:=hz;rw[hb,aaC]at ht;obtain⟨_,_,_,t3⟩:=ht;obtain⟨t4,_⟩:=t3;dsimp only at t4;omega
 obtain⟨b1,e1,e2,l1,l2,hRt,hP1,hP2⟩:=h.wide hc (n0:=0) (t:=xs+z) hb hN.nf (by rw[hz];omega) (.inl rfl) hsz (by have:=h.len;omega);rw[List.replicate_zero,List.append_nil]at e1;have hR2:=hRt (H.widen A.length) w1 w2 widen_cap;obtain⟨b2,hb2⟩:=nmE (aaU b1 ⟨xo,xs+z,true⟩);rw[hb2]at e2 hR2 hP1 hP2 l2;have hat:(H.widen A.length).blks[A.length]?=some ⟨xo,xs+z,true⟩:=by rw[w1];simp
 exact⟨b1,b2,e1,e2,by omega,hR2,ask (aaj hR2.walk).2.1 hat rfl rfl,aa9 hat,fun H'' out hH=>h.wideHeld hb hN.nf (by omega) w1 hP1 hP2 hH⟩
theorem Rt.grown (h:Rt bs H) (hc:H.cap<=16384) (hb:H.blks=(A1++p.toList)++⟨xo,xs,true⟩::(n.toList++B1)) (hN:alu A1 p n B1) (hz:(n.map Bk.size).getD 0=z){s:Nat}(hs:aaB (s:Int)=true) (hlt:xs+z<s) (hend:xo+(xs+z)=bs.length) (hcap:bs.length+(s-(xs+z))<=H.cap):
 ∃b1 b2,apU (bs++List.replicate (s-(xs+z)) 0) n=some b1/\aeo b1 (xo:Int) (s:Int) true=some b2/\b1.length=bs.length+(s-(xs+z))/\Rt b2 ((H.widen (A1++p.toList).length).size (A1++p.toList).length s)/\Held H bs ((H.widen (A1++p.toList).length).size (A1++p.toList).length s) b2:=by
 obtain⟨w1,w2,w3,w4⟩:=ai8 hb hN.nf hN.nu;rw[hz]at w1 w3;obtain⟨A,hA⟩:=nmE (A1++p.toList);rw[hA]at hb w1 w2 w3 w4 ⊢;have ht:abA 184 H.blks bs.length:=(aaj h.walk).2.1;have hB1:B1= []:=by
  rw[hb,aaC]at ht;obtain⟨_,t1,_,t3⟩:=ht;dsimp only at t1;rw[aaC]at t3;have hzn:abc n.toList=z:=by rw[<-hz];cases n<;>simp[abc]
  rw[hzn]at t3;have t4:=t3.2;dsimp only at t4
  cases B1 with
  | nil=>rfl
  | cons y r=>
   have:=(aak _ _ _ t4).2 y (by simp);have sy:=(aab _).1 this.2.2.1;omega
 obtain⟨b1,e1,e2,l1,l2,hRt,hP1,hP2⟩:=h.wide hc (n0:=s-(xs+z)) (t:=s) hb hN.nf (by rw[hz];omega) (.inr hB1) hs hcap;have hat:(H.widen A.length).blks[A.length]?=some ⟨xo,xs+z,true⟩:=by rw[w1];simp
 have hb':((H.widen A.length).size A.length s).blks=A++⟨xo,s,true⟩::B1:=by
  show(H.widen A.length).blks.set A.length {aam (H.widen A.length).blks A.length with size:=s}=_;rw[aa9 hat,w1,List.set_append_right _ _ (Nat.le_refl _),Nat.sub_self];rfl
 have hR2:=hRt ((H.widen A.length).size A.length s) hb' w2 widen_cap;exact⟨b1,_,e1,e2,by omega,hR2,h.wideHeld hb hN.nf (by omega) hb' hP1 hP2 (Held.self _ _)⟩
end
end Go.Proofs.YtncadccbepjekaaGreatDoor
