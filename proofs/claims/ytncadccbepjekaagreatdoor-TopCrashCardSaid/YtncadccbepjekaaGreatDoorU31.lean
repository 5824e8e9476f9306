/- Texts of mine, joined. -/
import Derived.Test.YtncadccbepjekaaGreatDoorU26
import Derived.Test.YtncadccbepjekaaGreatDoorU27
set_option maxRecDepth 100000
set_option maxHeartbeats 2000000
namespace Go.Proofs.YtncadccbepjekaaGreatDoor
open Go.RowKit
section
variable {w w1:World} {g base cap c:Nat} {A:Option Addr} {bs:List UInt8} {H:Hp}
theorem akC (h:Became 195 g base cap A bs w w1) (hbase:base<=4611686018427387904) (hcap:cap<=16384) (hc:H.cap=cap) (hR:Rt bs H){A0 B0:List Bk}{xo xs s:Nat}(hb:H.blks=A0++⟨xo,xs,false⟩::B0) (hs:aaB (s:Int)=true) (hle:s<=xs):
 Calls Tryz.prog 235 #[.pointer (some ⟨g,0,none⟩), .int .i64 (xo:Int), .int .i64 (s:Int)] w1 fun e w2=>e= .returned .nilIface/\∃out,Became 195 g base cap A out w w2/\Rt out ((H.out A0.length).cut A0.length s)/\Held H bs ((H.out A0.length).cut A0.length s) out:=by
 obtain⟨b1,e1,e2,l1,l2,hblk,hR2,hP⟩:=hR.uses (by omega) hb rfl;dsimp only at e1 e2 l2 hblk hR2 hP;obtain⟨b2,hb2⟩:=nmE (aaU b1 ⟨xo,xs,true⟩);rw[hb2]at e2 l2 hR2 hP;have hM:=hR.md (by omega);obtain⟨hl,hbd⟩:=hR.bound (by omega);have hxm:(⟨xo,xs,false⟩:Bk)∈H.blks:=by rw[hb];simp
 have hx:=hbd _ hxm;dsimp only at hx;have hat:frO (aa6 bs (xo:Int))=some ⟨xo,xs,false⟩:=by
  have:=hM.ls.st.at_ _ hxm;dsimp only at this;rw[this];rfl
 have hcut:((H.out A0.length).use A0.length true).cut A0.length s=(H.out A0.length).cut A0.length s:=atP (by show A0.length<H.blks.length;rw[hb];simp);have h1:=au5 h hbase hl (xo:Int) (by omega) _ hat;dsimp only[frV]at h1;have H1:=hE0 h1;have HSZ:=hE0 (show w.heap.size<=w1.heap.size by obtain⟨_,_,_,ht,_⟩:=h;exact ht.size);have HO:=hE0 (fun w2 (hB:Became 195 g base cap A bs w w2)=>amZ hB hbase hl (xo:Int) (some ⟨xo,xs,false⟩) (fun z hz=>by cases hz;dsimp only;omega) (b2:=b1) e1);have HS:=hE0 (fun w2 (hB:Became 195 g base cap A b1 w w2)=>aip hB hbase (by omega) xo xs true (by omega) (by omega) e2);have HC:=hE0 (fun w2 (hB:Became 195 g base cap A b2 w w2)=>aqt hB hbase hcap (H:=(H.out A0.length).use A0.length true) hc hR2 hblk hs hle);rw[hcut]at HC;have HH:=hE0 (fun out=>hR.usedHeld (by omega) hb (out:=out) (H3:=(H.out A0.length).cut A0.length s) hblk hP);dsimp only[frV]at HO;clear h1 hcut hat hx hxm hbd hM hb2 e1 e2 hblk hR2 hP hR hb h;go_enter Tryz.func235,Tryz.ntmps235
 go_wp2_with fail
 with_reducible refine H1.out.mono ?_
 rintro e w2 ⟨rfl,hB2,hb2⟩;obtain⟨w3,hw3⟩:=nmE (w2.alloc (.cells #[.int .i64 (xo:Int), .int .i64 (xs:Int), .bool false] 112));have n3:=anE hw3;have B3:=aa4 hB2 (.cells #[.int .i64 (xo:Int), .int .i64 (xs:Int), .bool false] 112);rw[hw3]at B3;have HO3:=hE0 (HO.out w3 B3);have HLE:=hE0 (Nat.le_trans HSZ.out hb2.size);obtain⟨⟨d0,d1,d2⟩,_⟩:=aad n3;have hlt3:=aac n3;have N3:=hE0 n3;have HW3:=hE0 hw3;clear hB2 hb2 H1 HO hw3 n3 B3 HSZ;go_wp2_with (first | (rw[HW3.out]) | fail)
 refine HO3.out.mono ?_;clear d0 d1 d2 hlt3;rintro e w4 ⟨rfl,hB4,hL4⟩;have n4:=hL4 _ _ N3.out;obtain⟨w5,hw5⟩:=nmE (w4.setCell ⟨w2.heap.size,2,none⟩ (.bool true));have n5:=heap_setCell_same w4 w2.heap.size 2 _ _ (.bool true) n4;have B5:=aio hB4 n4 HLE.out 2 (.bool true);rw[hw5]at n5 B5;have n5:w5.heap[w2.heap.size]?=some (.cells #[.int .i64 (xo:Int), .int .i64 (xs:Int), .bool true] 112 (0,0)):=n5;have HS5:=hE0 (HS.out w5 B5);obtain⟨⟨c0,c1,c2⟩,f0,f1,f2⟩:=aad n4;have hlt4:=aac n4;obtain⟨⟨d0,d1,d2⟩,_⟩:=aad n5;have hlt5:=aac n5;have N5:=hE0 n5;have HW5:=hE0 hw5;clear hB4 hL4 HO3 HS hw5 n4 n5 B5 N3;go_wp2_with (first | (rw[HW5.out]) | fail)
 refine HS5.out.mono ?_;clear c0 c1 c2 f0 f1 f2 hlt4 d0 d1 d2 hlt5;rintro e w6 ⟨rfl,hB6,hL6⟩;have n6:=hL6 _ _ N5.out;have HC6:=hE0 (HC.out w6 hB6);obtain⟨⟨d0,d1,d2⟩,_⟩:=aad n6;have hlt6:=aac n6;clear hB6 hL6 HS5 HC n6 N5;go_wp2_with fail
 refine HC6.out.mono ?_;clear d0 d1 d2 hlt6;rintro e w7 ⟨rfl,out,hB,hR,_,hP⟩;have HB:=hE0 hB;have HR:=hE0 hR;have HHH:=hE0 (HH.out out hP);clear hB hR hP HC6 HH;go_wp2
 go_ret
 exact⟨rfl,out,HB.out,HR.out,HHH.out⟩
theorem akD (h:Ar w 195 g base cap A c bs) (hbase:base<=4611686018427387904) (hcap:cap<=16384) (hl:bs.length<=cap) (p:Option Bk) (hp:frO (abN bs (bs.length:Int))=p) (s z:Nat) (hz:(p.map Bk.size).getD 0=z) (hzs:z<=s) (hs:s<=16384) (hlt:cap<bs.length+(s-z)):
 Calls Tryz.prog 234 #[.pointer (some ⟨g,0,none⟩), .int .i64 (s:Int)] w fun e w'=>e= .returned (.tuple #[.int .i64 0,aat false 5])/\Below w.heap.size w w':=by
 have HL:=hE0 (abL h);have h1:=adH h hbase (by omega) (bs.length:Int) (by omega) p hp;rw[afX,hz]at h1;obtain⟨fo,hfo⟩:∃fo:Int,(p.map fun z=>(z.off:Int)).getD (bs.length:Int)=fo:=⟨_,rfl⟩;rw[hfo]at h1;have H1:=hE0 h1;have HG:=hE0 (fun w2 (hB:Below w.heap.size w w2)=>ajG (h.below hB) (s-z) hl hcap hlt);have e1:((s-z:Nat):Int)=(s:Int)-(z:Int):=Int.ofNat_sub hzs;rw[e1]at HG;have hfz:z<=16384:=by omega
 dsimp only[aat];clear h1 hfo hz h hp hlt e1;go_enter Tryz.func234,Tryz.ntmps234
 go_wp2_with fail
 with_reducible refine HL.out.mono ?_
 rintro e w1 ⟨rfl,rfl⟩;go_wp2_with fail
 with_reducible refine H1.out.mono ?_
 rintro e w2 ⟨rfl,hb2⟩;obtain⟨w3,hw3⟩:=nmE (w2.alloc (.cells #[.int .i64 fo, .int .i64 (z:Int), .bool false] 112));have n3:=anE hw3;have hb3:Below w.heap.size w w3:=by rw[<-hw3];exact hb2.alloc hb2.size _
 have HG3:=hE0 (HG.out w3 hb3);obtain⟨⟨d0,d1,d2⟩,_⟩:=aad n3;have hlt3:=aac n3;have HW3:=hE0 hw3;have HB3:=hE0 hb3;clear hb2 H1 HG HL hw3 n3 hb3;go_wp2_with (first | (rw[HW3.out]) | fail)
 refine HG3.out.mono ?_;clear d0 d1 d2 hlt3;rintro e w4 ⟨rfl,k,rfl⟩;have HB4:Hid (Below w.heap.size w (w3.drewN k)):=⟨HB3.out.os,HB3.out.tape,HB3.out.output,HB3.out.size,HB3.out.block⟩;clear HG3;go_wp2
 go_ret2
 exact⟨rfl,HB4.out⟩
theorem akE (h:Ar w 195 g base cap A c bs) (hbase:base<=4611686018427387904) (hcap:cap<=16384) (hl:bs.length<=cap) (s z o:Nat) (hzs:z<=s) (hs:s<=16384) (ho:o<=16384) (hlt:bs.length+(s-z)<=cap) (b1 b2:List UInt8) (hl1:b1.length=bs.length+(s-z)) (e2:aeo b1 (o:Int) (s:Int) true=some b2)
 (h1:Calls Tryz.prog 237 #[.pointer (some ⟨g,0,none⟩), .int .i64 (bs.length:Int)] w fun e w'=>e= .returned (.agg #[.int .i64 (o:Int), .int .i64 (z:Int), .bool false])/\Below w.heap.size w w')
 (hO:∀w2,Became 195 g base cap A (bs++List.replicate (s-z) 0) w w2->Calls Tryz.prog 238 #[.pointer (some ⟨g,0,none⟩), .agg #[.int .i64 (o:Int), .int .i64 (z:Int), .bool false]] w2 fun e w3=>e= .returned (.tuple #[])/\Became 195 g base cap A b1 w w3/\Loc w2 w3):
 Calls Tryz.prog 234 #[.pointer (some ⟨g,0,none⟩), .int .i64 (s:Int)] w fun e w'=>e= .returned (.tuple #[.int .i64 (o:Int),aat true 5])/\Became 195 g base cap A b2 w w':=by
 have HL:=hE0 (abL h);have H1:=hE0 h1;have BC:=hE0 (show Became 195 g base cap A bs w w from⟨A,c,h,Tch.refl _ _, .inl rfl⟩);have HG:=hE0 (fun w2 (hB:Became 195 g base cap A bs w w2)=>atW hB (s-z) hl hcap hlt);have HO:=hE0 hO;have hl1':b1.length<=16384:=by omega
 have HS:=hE0 (fun w2 c' A' (a:Ar w2 195 g base cap A' c' b1)=>avV w2 g base cap c' A' b1 (o:Int) (s:Int) true _ a hbase hl1' (by omega) (by omega) e2);dsimp only[aoE,aat]at HS;obtain⟨bz,hbz⟩:=nmE (bs++List.replicate (s-z) 0);have e3:((s-z:Nat):Int)=(s:Int)-(z:Int):=Int.ofNat_sub hzs;rw[hbz,e3]at HG;rw[hbz]at HO;have hfz:z<=16384:=by omega
 dsimp only[aat];clear h1 hO h hlt e3 e2 hl1 hl1' hbz;go_enter Tryz.func234,Tryz.ntmps234
 go_wp2_with fail
 with_reducible refine HL.out.mono ?_
 rintro e w1 ⟨rfl,rfl⟩;go_wp2_with fail
 with_reducible refine H1.out.mono ?_
 rintro e w2 ⟨rfl,hb2⟩;obtain⟨w3,hw3⟩:=nmE (w2.alloc (.cells #[.int .i64 (o:Int), .int .i64 (z:Int), .bool false] 112));have n3:=anE hw3;have hb3:Below w.heap.size w w3:=by rw[<-hw3];exact hb2.alloc hb2.size _
 have HG3:=hE0 (HG.out w3 (aaz BC.out hb3));obtain⟨⟨d0,d1,d2⟩,_⟩:=aad n3;have hlt3:=aac n3;have HW3:=hE0 hw3;have N3:=hE0 n3;clear hb2 H1 HG HL hw3 n3 hb3 BC;go_wp2_with (first | (rw[HW3.out]) | fail)
 refine HG3.out.mono ?_;clear d0 d1 d2 hlt3;rintro e w4 ⟨rfl,hB4,hL4⟩;have n4:=hL4 _ _ N3.out;have HO4:=hE0 (HO.out w4 hB4);obtain⟨⟨d0,d1,d2⟩,_⟩:=aad n4;have hlt4:=aac n4;have N4:=hE0 n4;clear hB4 hL4 HG3 HO n4 N3;go_wp2_with fail
 refine HO4.out.mono ?_;clear d0 d1 d2 hlt4;rintro e w5 ⟨rfl,hB5,hL5⟩;have n5:=hL5 _ _ N4.out;obtain⟨w6,hw6⟩:=nmE w5.drew;have n6:w6.heap[w2.heap.size]?=some (.cells #[.int .i64 (o:Int), .int .i64 (z:Int), .bool false] 112 (0,0)):=by rw[<-hw6];exact n5
 have B6:Became 195 g base cap A b1 w w6:=by rw[<-hw6];exact aaz hB5 (Below.refl _ _).drew
 obtain⟨A6,c6,a6,t6,k6⟩:=B6;have hnf:=ajf a6 n6;obtain⟨⟨d0,d1,d2⟩,_⟩:=aad n6;have HS6:=hE0 (HS.out w6 c6 A6 a6);have HFIN:=hE0 (fun w7 (hB:Became 195 g base cap A6 b2 w6 w7)=>Became.trans a6 t6 k6 hB);have HNF:=hE0 hnf;have HW6:=hE0 hw6;clear hB5 hL5 HO4 HS n5 N4 n6 a6 t6 k6 hw6 hnf;go_wp2_with fail
 refine aa0 (foot g A6) [([0,1,2,3,4,5,6],7)] [8,9] [] (by kernel_rfl) (by kernel_rfl) (by kernel_rfl) (fun _ _ _ _ _ h=>h) ?_;rw[HW6.out];clear HW6;have z0:∀z:LaterS (foot g A6) w6,z.val.cell? ⟨w2.heap.size,0,none⟩=some (.int .i64 (o:Int)):=fun z=>z.ext.cell d0 HNF.out;clear d0 d1 d2;refine abF (l:= ?seg1) ?hseg1 ?_
 case hseg1=>simp only[pick,lE1,lE2,lE3];rfl
 repeat (go_big_quiet_step (fail))
 refine wpQuiet_nil ?_;clear z0;refine abO (vs:= #[.pointer (some ⟨g,0,none⟩), .agg #[.int .i64 (o:Int), .int .i64 (s:Int), .bool true]]) Tryz.call217 rfl rfl rfl (R:=fun r w'=>r= .nilIface/\Became 195 g base cap A6 b2 w6 w') (HS6.out.mono ?_) ?_
 · rintro e w' ⟨rfl,hB⟩;have hB':=hB;obtain⟨_,_,_,ht,_⟩:=hB';exact⟨_,rfl,ht,rfl,hB⟩
 rintro r w7 _ ⟨rfl,hB7⟩;refine⟨foot g A6,fun _ _ h=>h,?_⟩;refine acX (l:= ?la4) (t:= []) ?hla4 ?htl4 ?_
 case hla4=>simp only[pick,lE1,lE2,lE3];rfl
 case htl4=>rfl
 simp only[Act.put,lE4,lE5,lE6];repeat (go_big_quiet_step (fail))
 refine wpQuiet_nil ?_;have HB7:=hE0 (HFIN.out w7 hB7);clear hB7 HFIN HS6;go_wp2
 go_ret2
 exact⟨rfl,HB7.out⟩
theorem ajl (h:Ar w 195 g base cap A c bs) (hbase:base<=4611686018427387904) (hcap:cap<=16384) (hl:bs.length<=cap) (p:Option Bk) (hp:frO (abN bs (bs.length:Int))=p) (s z o:Nat) (hz:(p.map Bk.size).getD 0=z) (hzs:z<=s) (hs:s<=16384) (ho:o<=16384)
 (hfo:(p.map fun z=>(z.off:Int)).getD (bs.length:Int)=(o:Int)) (hpz:∀y,p=some y->0<y.size/\y.off<=16384) (hlt:bs.length+(s-z)<=cap) (b1 b2:List UInt8) (e1:apU (bs++List.replicate (s-z) 0) p=some b1) (hl1:b1.length=bs.length+(s-z)) (e2:aeo b1 (o:Int) (s:Int) true=some b2):
 Calls Tryz.prog 234 #[.pointer (some ⟨g,0,none⟩), .int .i64 (s:Int)] w fun e w'=>e= .returned (.tuple #[.int .i64 (o:Int),aat true 5])/\Became 195 g base cap A b2 w w':=by
 have ef:=afX (bs.length:Int) p;rw[hz,hfo]at ef;refine akE h hbase hcap hl s z o hzs hs ho hlt b1 b2 hl1 e2 ?_ fun w2 hB=> ?_
 · rw[<-ef];exact adH h hbase (by omega) (bs.length:Int) (by omega) p hp
 · rw[<-ef];exact amZ hB hbase (by rw[List.length_append,List.length_replicate];omega) (bs.length:Int) p hpz e1
end
theorem aof (w:World) (g base cap c:Nat) (A:Option Addr) (bs:List UInt8) (H:Hp) (n:Nat) (h:Ar w 195 g base cap A c bs) (hb:base<=4611686018427387904) (hcap:cap<=16384) (hc:H.cap=cap) (hR:Rt bs H) (hs:aaB (n:Int)=true) (hi:H.find n=none):
 Calls Tryz.prog 188 #[.pointer (some ⟨g,0,none⟩), .int .i64 (n:Int)] w fun e w'=>ab9 g base cap A bs H (H.take n) w e w':=by
 obtain⟨hbl,hbd⟩:=hR.bound (by omega);have hq:=(aab _).1 hs;have hF:=findC w g base cap c A bs (n:Int) h hb hbl ⟨by omega,by omega⟩;unfold akg at hF;rw[if_pos hs]at hF;have hfi:=hR.finds hs;rw[hfi]at hF;dsimp only[Option.getD,Option.isSome,aat]at hF;have BC:=hE0 (show Became 195 g base cap A bs w w from⟨A,c,h,Tch.refl _ _, .inl rfl⟩);obtain⟨A0,p,b1,hpu,hfr,htl⟩:=hR.tail (by omega);have hlo:=hR.lost hs hi;have hlen:=hR.lenE;have hle:=hR.len;have hM:=hR.md (by omega);have ht:=hM.tl;rw[b1,aaC]at ht;obtain⟨t1,t2⟩:=ht;obtain⟨o,ho⟩:=nmE (184+abc A0);have hlen2:bs.length=o+abc p.toList:=by
  rw[<-hlen,b1,<-ho];unfold lenB;rw[ae2];omega
 obtain⟨z,hz⟩:=nmE (abc p.toList);have hpz:(p.map Bk.size).getD 0=z:=by rw[<-hz];cases p<;>simp[abc]
 have hpo:∀y,p=some y->y.off=184+abc A0/\0<y.size:=fun y hy=>by
  have hyb:=hbd y (by rw[b1,hy];simp);rw[hy]at t2;obtain⟨t3,_⟩:=t2;exact⟨t3,by omega⟩
 have hfo:(p.map fun z=>(z.off:Int)).getD (bs.length:Int)=(o:Int):=by
  cases p with
  | none=>
   show(bs.length:Int)=(o:Int);rw[hlen2];simp[abc]
  | some y=>
   show(y.off:Int)=(o:Int);rw[(hpo y rfl).1,ho]
 have hzn:z<=n:=by
  rw[<-hz]
  cases p with
  | none=>simp[abc]
  | some y=>
   have:=hlo y (by rw[b1];simp) (hpu y rfl);simp[abc];omega
 rw[hi]at hF;dsimp only[Option.map]at hF;have htz:acp H.blks=z:=htl.trans hz;by_cases hroom:cap<bs.length+(n-z)
 · have et:=aqc hi (by rw[htz,hlen,hc];omega);rw[et];dsimp only[ab9];have HT:=hE0 (fun w2 (hB:Below w.heap.size w w2)=>akD (h.below hB) hb hcap (by omega) p hfr n z hpz hzn (by omega) hroom);dsimp only[aat]at HT ⊢;have HF:=hE0 hF;clear hF hfi hi et hR h hbd hs b1 hpu hfr htl htz hlo hlen hle hM t1 t2 ho hlen2 hz hpz hpo hfo hroom;go_enter Tryz.func188,Tryz.ntmps188
   go_wp2_with fail
   with_reducible refine HF.out.mono ?_
   rintro e w2 ⟨rfl,hb2⟩;have HT2:=hE0 (HT.out w2 hb2);have HB2:=hE0 hb2;clear hb2 HF HT BC;go_wp2_with fail
   refine HT2.out.mono ?_;rintro e w4 ⟨rfl,hb4⟩;have HB4:=hE0 (HB2.out.trans (hb4.mono HB2.out.size));clear hb4 HT2 HB2;go_wp2
   go_ret2
   exact⟨rfl,HB4.out⟩
 · obtain⟨H',et,hb',hl',hc'⟩:=ar4 hi (by rw[htz,hlen,hc];omega) b1 htl hpo;rw[et];dsimp only[ab9];obtain⟨q1,e1,e2,l1,l2,hRt,hP⟩:=hR.adds (by omega) b1 hpu (o:=o) (s:=n) (n:=n-z) ho.symm hs (by omega) (by omega);have hRR:=hRt H' (by rw[hb',ho]) hl' hc';have hHD:Held H bs H' (aaU q1 ⟨o,n,true⟩):=fun z hz hzu y _ _ _ i i1 i2 _=>hP z hz hzu i ⟨i1,i2⟩;rw[ho];obtain⟨b2,hb2⟩:=nmE (aaU q1 ⟨o,n,true⟩);rw[hb2]at e2 hRR hHD;have HT:=hE0 (fun w2 (hB:Below w.heap.size w w2)=>ajl (h.below hB) hb hcap (by omega) p hfr n z o hpz hzn (by omega) (by omega) hfo (fun y hy=>⟨(hpo y hy).2,by have:=(hpo y hy).1;omega⟩) (by omega) q1 b2 e1 l1 e2);dsimp only[aat]at HT ⊢;have HF:=hE0 hF;have HRR:=hE0 hRR;have HHD:=hE0 hHD;clear hF hfi hi et hR h hbd hs b1 hpu hfr htl htz hlo hlen hle hM t1 t2 ho hlen2 hz hpz hpo hfo hroom hb' hl' hc' e1 e2 l1 l2 hRt hP hRR hHD hb2;go_enter Tryz.func188,Tryz.ntmps188
   go_wp2_with fail
   with_reducible refine HF.out.mono ?_
   rintro e w2 ⟨rfl,hb2⟩;have HT2:=hE0 (HT.out w2 hb2);have HB2:=hE0 hb2;clear hb2 HF HT BC;go_wp2_with fail
   refine HT2.out.mono ?_;rintro e w4 ⟨rfl,hb4⟩;have HB4:=hE0 (hb4.after HB2.out);clear hb4 HT2 HB2;go_wp2
   go_ret2
   exact⟨rfl,b2,HB4.out,HRR.out,HHD.out⟩
theorem at2:avG:=by
 intro w g base cap c A bs H s h hb hcap hc hR hsr;obtain⟨hbl,hbd⟩:=hR.bound (by omega);have hF:=findC w g base cap c A bs s h hb hbl hsr;constructor
 · intro hs;unfold akg at hF;rw[if_neg (by rw[hs];simp)]at hF;dsimp only[aat]at hF ⊢;have HF:=hE0 hF;clear hF hs h hR hbd;go_enter Tryz.func188,Tryz.ntmps188
   go_wp2_with fail
   with_reducible refine HF.out.mono ?_
   rintro e w2 ⟨rfl,hb2⟩;have HB2:=hE0 hb2;clear hb2 HF;go_wp2
   go_ret2
   exact⟨rfl,HB2.out⟩
 · intro hs;have hq:=(aab _).1 hs;unfold akg at hF;rw[if_pos hs]at hF;obtain⟨n,rfl⟩:∃n:Nat,s=(n:Int):=⟨s.toNat,by omega⟩;rw[Int.toNat_natCast];have hfi:=hR.finds hs;rw[hfi]at hF;dsimp only[Option.getD,Option.isSome,aat]at hF;have BC:=hE0 (show Became 195 g base cap A bs w w from⟨A,c,h,Tch.refl _ _, .inl rfl⟩)
   cases hi:H.find n with
   | some i=>
    obtain⟨i1,i2,i3⟩:=hR.found hs hi;obtain⟨m1,m2⟩:=ae9 i1;have et:=ar3 hi;obtain⟨x,hx⟩:=nmE (aam H.blks i);rw[hi]at hF;dsimp only[Option.map]at hF;rw[hx]at m1 i2 i3 et hF;have hxb:=hbd x (by rw[m1];simp);obtain⟨xo,xs,xu⟩:=x;dsimp only at i2 i3 hxb et hF;subst i3;rw[et];dsimp only[ab9,aat];have HT:=hE0 (fun w2 (hB:Became 195 g base cap A bs w w2)=>akC hB hb hcap hc hR m1 hs i2);rw[m2]at HT;have HF:=hE0 hF;have e0:((xo:Int)==0)=false:=by rw[beq_eq_false_iff_ne];omega
    clear hF hfi hi et m1 m2 hx hR h hbd hs;go_enter Tryz.func188,Tryz.ntmps188
    go_wp2_with fail
    with_reducible refine HF.out.mono ?_
    rintro e w2 ⟨rfl,hb2⟩;have HT2:=hE0 (HT.out w2 (aaz BC.out hb2));clear hb2 HF HT BC;go_wp2_with fail
    refine HT2.out.mono ?_;rintro e w4 ⟨rfl,out,hB,hR,hH⟩;have HB:=hE0 hB;have HR:=hE0 hR;have HH:=hE0 hH;clear hB hR hH HT2;go_wp2
    go_ret2
    exact⟨rfl,out,HB.out,HR.out,HH.out⟩
   | none=>exact aof w g base cap c A bs H n h hb hcap hc hR hs hi
end Go.Proofs.YtncadccbepjekaaGreatDoor
