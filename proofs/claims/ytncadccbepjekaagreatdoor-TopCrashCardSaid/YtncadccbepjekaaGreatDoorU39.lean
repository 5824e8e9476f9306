/- Texts of mine, joined. -/
import Derived.Test.YtncadccbepjekaaGreatDoorU34
set_option maxRecDepth 100000
set_option maxHeartbeats 2000000
namespace Go.Proofs.YtncadccbepjekaaGreatDoor
open Go.RowKit
section
variable {w:World} {g base cap c:Nat} {A:Option Addr} {bs:List UInt8} {H:Hp} {A1 B1:List Bk} {p n:Option Bk} {xo xs z s:Nat}
theorem ame (h:Ar w 195 g base cap A c bs) (hbase:base<=4611686018427387904) (hcap:cap<=16384) (hc:H.cap=cap) (hR:Rt bs H) (hb:H.blks=(A1++p.toList)++⟨xo,xs,true⟩::(n.toList++B1)) (hN:alu A1 p n B1) (hz:(n.map Bk.size).getD 0=z) (hs:aaB (s:Int)=true) (hle:s<=xs+z):
 Calls Tryz.prog 193 #[.pointer (some ⟨g,0,none⟩), .agg #[.int .i64 (xo:Int), .int .i64 (xs:Int), .bool true], .int .i64 (s:Int)] w fun e w'=>e= .returned (.tuple #[.int .i64 (xo:Int),aat true 0])/\
  ∃out,Became 195 g base cap A out w w'/\Rt out ((H.widen (A1++p.toList).length).cut (A1++p.toList).length s)/\Held H bs ((H.widen (A1++p.toList).length).cut (A1++p.toList).length s) out:=by
 have ss:=(aab _).1 hs;obtain⟨hl,hbd⟩:=hR.bound (by omega);have hx:=hbd ⟨xo,xs,true⟩ (by rw[hb];simp);dsimp only at hx;have hn:∀y,n=some y->0<y.size/\y.off<=16384:=fun y hy=>by have:=hbd y (by rw[hb,hy];simp);omega
 have hzl:xs+z<=16384:=by
  cases n with
  | none=>simp at hz;omega
  | some m=>
   have hz:m.size=z:=hz;have hM:=hR.md (by omega);have ht:=hM.tl;rw[hb,aaC]at ht;obtain⟨_,t1,_,t3⟩:=ht;obtain⟨t4,_⟩:=t3;have:=hbd m (by rw[hb];simp);dsimp only at t1 t4;omega
 have hy:=(hR.md (by omega)).behind hb hN;dsimp only at hy;obtain⟨b1,b2,e1,e2,l1,hR2,hu2,hk2,hH2⟩:=hR.widened (by omega) hb hN hz;have l2:b2.length<=16384:=(hR2.bound (by rw[widen_cap];omega)).1;obtain⟨i,hi⟩:=nmE ((A1++p.toList).length);rw[hi]at hR2 hu2 hk2 hH2 ⊢;obtain⟨H2,hH⟩:=nmE (H.widen i);have hcap2:H2.cap=cap:=by rw[<-hH];exact widen_cap.trans hc
 rw[hH]at hR2 hu2 hk2 hH2 ⊢;have htr:H2.trimO (xo:Int) s=some (H2.cut i s):=by
  unfold Hp.trimO;rw[hu2];dsimp only;rw[hk2];dsimp only;rw[if_neg (by omega)]
 obtain⟨w0,hw0⟩:=nmE (w.alloc (.cells #[.int .i64 (xo:Int), .int .i64 (xs:Int), .bool true] 112));have hb0:=abE hw0;have n0:=anE hw0;have hF:=aeu (h.below hb0) hbase hl xo xs (by omega) (by omega) n hy;have ef:=afX 0 n;rw[hz]at ef;obtain⟨fo,hfo⟩:∃fo:Int,(n.map fun z=>(z.off:Int)).getD 0=fo:=⟨_,rfl⟩;rw[hfo]at ef;rw[ef]at hF;have HJ:=hE0 (fun w2 (hb2:Below w.heap.size w w2)=>am9 (w:=w2) (w1:=w2) ⟨A,c,h.below hb2,Tch.refl _ _, .inl rfl⟩ hbase hl xo xs (xs+z) n (by omega) hn hzl (by omega) e1 e2);rw[ef]at HJ;have ez:((xs+z:Nat):Int)=(xs:Int)+(z:Int):=by omega
 rw[ez]at HJ;have HTK:=hE0 (fun w3 c3 A3 (a3:Ar w3 195 g base cap A3 c3 b2)=>(ava w3 g base cap c3 A3 b2 H2 (xo:Int) (s:Int) a3 hbase hcap hcap2 hR2 ⟨by omega,by omega⟩ ⟨by omega,by omega⟩).2 hs);rw[Int.toNat_natCast,htr]at HTK;dsimp only[ac1,aat]at HTK;have HF:=hE0 hF;have HA:=hE0 h;have HW0:=hE0 hw0;have HB0:=hE0 hb0;have HN0:=hE0 n0;have HFIN:=hE0 hH2;have g1:((s:Int)<=(xs:Int)+(z:Int)):=by omega
 obtain⟨⟨d0,d1,d2⟩,_⟩:=aad n0;have hlt0:=aac n0;dsimp only[aat];clear hF hw0 hb0 n0 h hR hb hN hz hy hn hbd hs hle e1 e2 l1 hR2 hu2 hk2 hH2 hi hH hcap2 htr ef hfo ez hc;go_enter Tryz.func193,Tryz.ntmps193
 go_wp2_with (first | (rw[HW0.out]) | fail)
 refine HF.out.mono ?_;clear d0 d1 d2 hlt0;rintro e w1 ⟨rfl,hb1⟩;have n1:=Loc.below hb1 _ _ HN0.out;obtain⟨w2,hw2⟩:=nmE (w1.alloc (.cells #[.int .i64 fo, .int .i64 (z:Int), .bool false] 112));have m2:=anE hw2;have n2:w2.heap[w.heap.size]?=some (.cells #[.int .i64 (xo:Int), .int .i64 (xs:Int), .bool true] 112 (0,0)):=by rw[<-hw2];exact(heap_alloc_old _ _ (aae n1)).trans n1
 have hb01:=HB0.out.trans (hb1.mono HB0.out.size);have hb2:Below w.heap.size w w2:=by rw[<-hw2];exact hb01.alloc hb01.size _
 have HJ2:=hE0 (HJ.out w2 hb2);obtain⟨⟨d0,d1,d2⟩,_⟩:=aad n2;have hlt2:=aac n2;obtain⟨⟨c0,c1,c2⟩,_⟩:=aad m2;have hlt3:=aac m2;have HW2:=hE0 hw2;have HN2:=hE0 n2;have HB2:=hE0 hb2;clear hb1 n1 hw2 m2 n2 hb01 hb2 HF HJ HN0;go_wp2_with (first | (rw[HW2.out]) | fail)
 refine HJ2.out.mono ?_;clear d0 d1 d2 hlt2 c0 c1 c2 hlt3;rintro e w3 ⟨rfl,hB3⟩;obtain⟨A3,c3,a3,t3,k3⟩:=hB3;have n3:=Loc.tch (HA.out.below HB2.out) t3 _ _ HN2.out;have hnf:=ajf a3 n3;have HT3:=hE0 (HTK.out w3.drew c3 A3 a3.drew);have HTR:=hE0 (fun b4 w4 (k:Became 195 g base cap A3 b4 w3.drew w4)=>(Became.trans a3 t3 k3 (Became.of_drew k)).after HB2.out);obtain⟨⟨d0,d1,d2⟩,_⟩:=aad n3;have hlt3:=aac n3;have HNF:=hE0 hnf;clear a3 t3 k3 n3 hnf HJ2 HTK HN2 HB2 HA;go_wp2_with fail
 refine aa0 (foot g A3) [([0,1,2,3,4,5],6),([],7)] [8,9,10,11] [] (by kernel_rfl) (by kernel_rfl) (by kernel_rfl) (fun _ _ _ _ _ h=>h) ?_;have q0:∀z:LaterS (foot g A3) w3.drew,z.val.cell? ⟨w.heap.size,0,none⟩=some (.int .i64 (xo:Int)):=fun z=>z.ext.cell d0 HNF.out;clear d0 d1 d2;refine abF (l:= ?seg1) ?hseg1 ?_
 case hseg1=>simp only[pick,lE1,lE2,lE3];rfl
 repeat (go_big_quiet_step (fail))
 refine wpQuiet_nil ?_;clear q0;refine abO (vs:= #[.pointer (some ⟨g,0,none⟩), .int .i64 (xo:Int), .int .i64 (s:Int)]) Tryz.call191 rfl rfl rfl (R:=fun r w'=>r= .nilIface/\∃out,Became 195 g base cap A3 out w3.drew w'/\Rt out (H2.cut i s)/\Held H2 b2 (H2.cut i s) out) (HT3.out.mono ?_) ?_
 · rintro e w' ⟨rfl,out,hB,hR,hH⟩;have hB':=hB;obtain⟨_,_,_,ht,_⟩:=hB';exact⟨_,rfl,ht,rfl,out,hB,hR,hH⟩
 rintro r w4 _ ⟨rfl,out,hB4,hR4,hH4⟩;have HB4:=hE0 (HTR.out out w4 hB4);have HR4:=hE0 hR4;have HH4:=hE0 (HFIN.out _ _ hH4);clear hB4 hR4 hH4 HT3 HTR HFIN;refine⟨foot g A3,fun _ _ h=>h,?_⟩;refine abF (l:= []) rfl ?_;refine wpQuiet_nil ?_;refine abO (vs:= #[.int .i64 (xo:Int), .nilIface]) Tryz.call244 rfl rfl rfl (R:=fun r w'=>r= .tuple #[.int .i64 (xo:Int), .nilIface]/\w'=w4) ((aiq (w:=w4) (xo:Int)).mono ?_) ?_
 · rintro e w' ⟨rfl,rfl⟩;exact⟨_,rfl,Tch.refl _ _,rfl,rfl⟩
 rintro r w5 _ ⟨rfl,rfl⟩;refine⟨foot g A3,fun _ _ h=>h,?_⟩;refine acX (l:= ?la4) (t:= []) ?hla4 ?htl4 ?_
 case hla4=>simp only[pick,lE1,lE2,lE3];rfl
 case htl4=>rfl
 simp only[Act.put,lE4,lE5,lE6];repeat (go_big_quiet_step (fail))
 refine wpQuiet_nil ?_;go_wp2
 go_ret2
 exact⟨rfl,out,HB4.out,HR4.out,HH4.out⟩
end
structure Sm (wB W:World) (g base cap:Nat) (A:Option Addr) (c:Nat) (bs:List UInt8) (gm:Nat) (o:Obj):Prop where
 st:St wB W g base cap A c bs []
 ob:W.heap[gm]?=some o
 nf:¬foot g A gm
section
variable {wB W W':World} {g base cap c gm:Nat} {A:Option Addr} {bs out:List UInt8} {o:Obj}
theorem akO{w:World}{g:Nat}{o:Obj}(h:w.heap[g]?=some o):g<w.heap.size:=(Array.getElem?_eq_some_iff.1 h).1
theorem Sm.below (h:Sm wB W g base cap A c bs gm o) (hb:Below W.heap.size W W'):Sm wB W' g base cap A c bs gm o:=
 ⟨h.st.below hb,(hb.block _ (akO h.ob)).trans h.ob,h.nf⟩
theorem Sm.became (h:Sm wB W g base cap A c bs gm o) (hb:Became 195 g base cap A out W W'):∃A' c',Sm wB W' g base cap A' c' out gm o:=by
 obtain⟨A',c',har,ht,hA⟩:=hb;have hlow:∀a,A'=some a->wB.heap.size<=a.block:=fun a ha=>by
  rcases hA with e | e
  · exact h.st.aB a (e▸ha)
  · exact Nat.le_trans h.st.size (e a ha)
 refine⟨A',c',⟨h.st.bel.trans (ht.below (fun k hk=> ?_) h.st.size),har,h.st.gB,hlow,fun q hq=>by cases hq⟩,?_,?_⟩
 · rcases hk with rfl | ⟨a,e,rfl⟩
   · exact h.st.gB
   · exact h.st.aB a e
 · exact(ht.block _ (akO h.ob) h.nf).trans h.ob
 · intro hf;rcases hf with rfl | ⟨a,e,rfl⟩
   · exact h.nf (.inl rfl)
   · rcases hA with e2 | e2
     · exact h.nf (.inr ⟨a,e2▸e,rfl⟩)
     · have h1:=e2 a e;have:=akO h.ob;omega
end
theorem aqK{bs:List UInt8}{x:Bk}{r:List Bk}{d:List (List UInt8)}{y:List UInt8}(hu:x.used=true):agn bs (x::r) (y::d)=agn (lay (aaU bs x) (x.off+8) y) r d:=by
 rw[agn,if_pos hu];rfl
theorem aqL{bs:List UInt8}{x:Bk}{r:List Bk}{d:List (List UInt8)}(hu:x.used=false):agn bs (x::r) d=agn (aaU bs x) r d:=by
 rw[agn,if_neg (by rw[hu];simp)]
theorem aqM (wB W:World) (g base cap c:Nat) (A:Option Addr) (bs:List UInt8) (n:Nat) (L:List Bk) (d:List (List UInt8)) (A1 A2:Option Addr) (k1 k2:Nat) (N:Int) (hst:St wB W g base cap A c bs []) (hb62:base<=4611686018427387904) (hn:bs.length=n) (hn16:n<=16384) (ht:abA 184 L n) (hd:alF L d) (hr:RkRd wB wB.heap.size A1 (L.map toR)) (hdr:DtRd wB wB.heap.size A2 d):
 Calls Tryz.prog 155 #[.pointer (some ⟨g,0,none⟩), .agg #[.int .i64 N, .slice A1 L.length k1, .slice A2 d.length k2]] W fun e w'=>e= .returned (.tuple #[])/\∃A' c',St wB w' g base cap A' c' (agn bs L d) []:=by
 obtain⟨m,hm⟩:=nmE L.length;obtain⟨dl,hdl⟩:=nmE d.length;obtain⟨F,hF⟩:=nmE (agn bs L d);rw[hm,hdl,hF];have htm:=(aak _ _ _ ht).2;have hm512:m<=512:=by have:=aji _ _ _ ht;omega
 obtain⟨w1,hw1⟩:=nmE (W.alloc (.cells #[.int .i64 N, .slice A1 m k1, .slice A2 dl k2] 107));have hb1:=abE hw1;have n1:=anE hw1;have HS1:Hid (Sm wB w1 g base cap A c bs W.heap.size (.cells #[.int .i64 N, .slice A1 m k1, .slice A2 dl k2] 107 (0,0))):=⟨hst.below hb1,n1,fun hf=>by have:=hst.ar.foot_lt hf;omega⟩;have HSET:=hE0 (fun W' A' c' bs' (x:Bk) (h:Ar W' 195 g base cap A' c' bs') (hl:bs'.length<=16384) (h1:184<=x.off) (h2:x.off%16=8) (h3:x.off+x.size<=bs'.length) (h4:aaB (x.size:Int)=true) (h5:x.off<=100000) (h6:x.size<=100000)=>avV W' g base cap c' A' bs' (x.off:Int) (x.size:Int) x.used (some (aaU bs' x)) h hb62 hl (by omega) (by omega) (aeL bs' x h1 h2 h3 h4));have HR:=hE0 hr;have HDR:=hE0 hdr;have HM:=hE0 hm;have HDL:=hE0 hdl;have HTM:=hE0 htm;have HT:=hE0 ht;have HD:=hE0 hd;have HF0:=hE0 hF;have HN:=hE0 hn;have HW1:=hE0 hw1;obtain⟨c0,c1,c2⟩:=aal n1;have hl1:=aaa n1;clear hm hdl hF ht hd hr hdr hn htm hw1 n1 hst hb1;go_enter Tryz.func155,Tryz.ntmps155
 go_wp2_with (first | (rw[HW1.out]) | fail)
 clear c0 c1 c2 hl1;go_loopw [4,10] (fun u t wr=>∃(j v:Nat) (A:Option Addr) (c:Nat) (bs:List UInt8) (o:Nat),t= .int .i64 (j:Int)/\u= .int .i64 (v:Int)/\j<=m/\v<=j/\Sm wB wr g base cap A c bs W.heap.size (.cells #[.int .i64 N, .slice A1 m k1, .slice A2 dl k2] 107 (0,0))/\bs.length=n/\agn bs (L.drop j) (d.drop v)=F/\alF (L.drop j) (d.drop v)) (fun _ t _=>m-(intOf t).toNat)
 case atStart=>exact⟨0,0,A,c,bs,184,rfl,rfl,Nat.zero_le _,Nat.zero_le _,HS1.out,HN.out,HF0.out,HD.out⟩
 case round=>
  obtain⟨j,v,A,c,bs,o,rfl,rfl,hj,hvj,hsm,hbl,hlay,hdat⟩:=hrel;by_cases hlt:j<m
  · obtain⟨x,hx⟩:∃x,L[j]?=some x:=⟨L[j]'(by rw[HM.out];exact hlt),List.getElem?_eq_getElem _⟩;obtain⟨m1,m2,m3,m4⟩:=HTM.out x (List.mem_of_getElem? hx);have m5:=(aab _).1 m3;obtain⟨b2,o2,rfl,hbb,hcl⟩:=HR.out (by rw[List.length_map,HM.out];omega);obtain⟨p0,p1,p2,_,_⟩:=hcl j (toR x) (by rw[List.getElem?_map,hx];rfl);have hbe:=hsm.st.bel;have r0:=(hbe.cell (p:=⟨b2,o2+j*3,none⟩) hbb).trans p0;have r1:=(hbe.cell (p:=⟨b2,o2+j*3+1,none⟩) hbb).trans p1;have r2:=(hbe.cell (p:=⟨b2,o2+j*3+2,none⟩) hbb).trans p2;rw[aeE hx]at hlay hdat;obtain⟨w4,hw4⟩:=nmE (wr.alloc (.cells #[.int .i64 (x.off:Int), .int .i64 (x.size:Int), .bool x.used] 112));have hb4:=abE hw4;have n4:=anE hw4;have hsm4:=hsm.below hb4;have hset:=HSET.out w4 A c bs x hsm4.st.ar (by omega) m1 (by omega) (by omega) m3 (by omega) (by omega);dsimp only[aoE,aat]at hset;have hsl:=amU (bs:=bs) (x:=x) (by omega) (by omega);have hnfx:¬foot g A wr.heap.size:=fun hf=>by have:=hsm.st.ar.foot_lt hf;omega
    obtain⟨xo,xz,xu⟩:=x;dsimp only[toR]at p0 p1 p2 r0 r1 r2 m1 m2 m3 m4 m5 hset n4 hw4;obtain⟨e0,e1,e2⟩:=aal n4;have hl4:=aaa n4;have HSETX:=hE0 hset;have HSM4:=hE0 hsm4;have HN4:=hE0 n4;have HW4:=hE0 hw4;have HLAY:=hE0 hlay;have HDAT:=hE0 hdat;have HNFX:=hE0 hnfx;have HSL:=hE0 (hsl.trans hbl);clear hx hcl p0 p1 p2 hbe hb4 hw4 n4 hsm4 hset hsm hlay hdat hnfx hsl hbl hbb
    cases xu with
    | false=>
     go_wp2_with (first | (rw[HW4.out]) | fail)
     refine HSETX.out.mono ?_;rintro e w5 ⟨rfl,hbec⟩;obtain⟨A5,c5,s5⟩:=HSM4.out.became hbec;have hx5:w5.heap[wr.heap.size]?=_:=(by obtain⟨_,_,_,ht5,_⟩:=hbec;exact(ht5.block _ (aaa HN4.out) HNFX.out).trans HN4.out);have HSM5:=hE0 s5;have HF2:Hid (agn (aaU bs ⟨xo,xz,false⟩) (L.drop (j+1)) (d.drop v)=F):=(show _=_ by rw[<-HLAY.out,aqL rfl]);have HD2:Hid (alF (L.drop (j+1)) (d.drop v)):=(show alF _ _ by have:=HDAT.out;unfold alF at this;simpa using this);clear e0 e1 e2 hl4 hbec s5 r0 r1 r2;obtain⟨e0,e1,e2⟩:=aal hx5;have hl5:=aaa hx5;clear hx5;go_wp2_with fail
     go_roundw
     case rel=>exact⟨j+1,v,A5,c5,_,o,by go_num,rfl,by omega,by omega,HSM5.out,HSL.out,HF2.out,HD2.out⟩
     case measure=>simp only[intOf];omega
    | true=>
     obtain⟨y,d',hdv⟩:∃y d',d.drop v=y::d':=by
      have:=HDAT.out;unfold alF at this;simp only[if_true]at this
      cases hdd:d.drop v with
      | nil=>rw[hdd]at this;exact this.elim
      | cons y d'=>exact⟨y,d',rfl⟩
     have hyd:d[v]?=some y:=by
      have:(d.drop v)[0]?=some y:=by rw[hdv];rfl
      rwa [List.getElem?_drop,Nat.add_zero]at this
     have hd':d.drop (v+1)=d':=by rw[<-List.drop_drop,hdv];rfl
     have hvd:v<dl:=by rw[<-HDL.out];exact(List.getElem?_eq_some_iff.1 hyd).1
     have hda:=HDAT.out;rw[hdv]at hda;unfold alF at hda;simp only[if_true]at hda;obtain⟨hyl,hd2⟩:=hda;have HF2:Hid (agn (lay (aaU bs ⟨xo,xz,true⟩) (xo+8) y) (L.drop (j+1)) (d.drop (v+1))=F):=(show _=_ by rw[<-HLAY.out,hdv,hd',aqK rfl]);have HD2:Hid (alF (L.drop (j+1)) (d.drop (v+1))):=(show alF _ _ by rw[hd'];exact hd2);obtain⟨b3,o3,rfl,hb3,hc3⟩:=HDR.out (by rw[HDL.out];omega);obtain⟨A',kz,z0,zr,zl,_,_⟩:=hc3 v y hyd;obtain⟨yn,hyn⟩:=nmE y.length;rw[hyn]at z0 zr hyl;have HYN:=hE0 hyn;have HZR:=hE0 zr;have hlay2:(lay (aaU bs ⟨xo,xz,true⟩) (xo+8) y).length=n:=by rw[ach _ _ _ (by rw[HSL.out,hyn];omega)];exact HSL.out
     have HLL2:=hE0 hlay2;obtain⟨ad,had⟩:=nmE (base+xo+8);obtain⟨bx,hbx⟩:=nmE (base+xo);have i3:(base:Int)+(xo:Int)=(bx:Int):=by omega
     have i1:(bx:Int)+8=(ad:Int):=by omega
     have i2:ad<18446744073709551616:=by omega
     have i4:bx<18446744073709551616:=by omega
     have hvi:(v:Int)<(dl:Int):=by omega
     have HSTO:=hE0 (fun W' A5 c5 (h:Ar W' 195 g base cap A5 c5 (aaU bs ⟨xo,xz,true⟩)) (hr:Rd W' wB.heap.size A' y.length y)=>aiI h (by rw[HSL.out];omega) ad (xo+8) A' kz y wB.heap.size hr (by omega) (by omega) (by omega) (by rw[HSL.out,hyn];omega));rw[hyn]at HSTO;clear hdv hyd hd' hd2 hyn hlay2 zr hc3 had hbx zl hyl m1 m2 m3 m4 m5;go_wp2_with (first | (rw[HW4.out]) | fail)
     refine HSETX.out.mono ?_;rintro e w5 ⟨rfl,hbec⟩;obtain⟨A5,c5,s5⟩:=HSM4.out.became hbec;have hx5:w5.heap[wr.heap.size]?=_:=(by obtain⟨_,_,_,ht5,_⟩:=hbec;exact(ht5.block _ (aaa HN4.out) HNFX.out).trans HN4.out);clear e0 e1 e2 hl4 hbec r0 r1 r2;obtain⟨e0,e1,e2⟩:=aal hx5;have hl5:=aaa hx5;obtain⟨wd,hwd⟩:=nmE w5.drew;have hbd:=adE hwd;have hsmd:=s5.below hbd;obtain⟨q0,q1,q2⟩:=aal ((hbd.block _ hl5).trans hx5);have hld:=Nat.lt_of_lt_of_le hl5 hbd.size;obtain⟨u0,u1,u2⟩:=aal hsmd.ob;have hlu:=akO hsmd.ob;have hbB:=hsmd.st.bel;have z4:=(hbB.cell (p:=⟨b3,o3+v,none⟩) hb3).trans z0;have hb3d:=Nat.lt_of_lt_of_le hb3 hbB.size;have HBASE:=hE0 (ab4 hsmd.st.ar);have HSTOX:=hE0 (HSTO.out wd A5 c5 hsmd.st.ar (HZR.out.below hbB));have HSMD:=hE0 hsmd;have HWD:=hE0 hwd;clear hx5 hwd hbd s5 hsmd hbB z0;go_wp2_with fail
     refine aar wd.heap.size [([0,1,3,4,5,8,9,10,11,12],2)] [6,7] [13] (by kernel_rfl) (by kernel_rfl) (by kernel_rfl) (fun _ _ _ _ _ h=>h) ?_;rw[HWD.out];have v0:=tfE q0 hld;have v1:=tfE u2 hlu;have v2:=tfE z4 hb3d;refine tail_cons (l:= ?segA) ?hsegA ?_
     case hsegA=>simp only[pick,lE1,lE2,lE3];rfl
     repeat (go_big_quiet_step (fail))
     refine wpQuiet_nil ?_;clear v0 v1 v2;refine aau (vs:= #[.pointer (some ⟨g,0,none⟩)]) Tryz.call56 rfl rfl rfl (R:=fun r w'=>r= .int .u64 (base:Int)/\w'=wd) (HBASE.out.mono ?_) wd.heap.size (Nat.le_refl _) ?_
     · rintro e w' ⟨rfl,rfl⟩;exact⟨_,rfl,Below.refl _ _,rfl,rfl⟩
     rintro r w' _ ⟨rfl,rfl⟩;simp only[Act.put,lE4,lE5,lE6];refine aaO (l:= ?lastA) (t:= ?tailA) ?hlastA ?htailA ?_
     case hlastA=>simp only[pick,lE1,lE2,lE3];rfl
     case htailA=>simp only[pick,lE1,lE2,lE3];rfl
     repeat (go_big_quiet_step (fail))
     refine wpQuiet_nil ?_;clear q0 q1 q2 hld u0 u1 u2 hlu z4 hb3d e0 e1 e2 hl5;go_wp2_with fail
     refine HSTOX.out.mono ?_;rintro e w6 ⟨rfl,hbe6⟩;obtain⟨A6,c6,s6⟩:=HSMD.out.became hbe6;have HSM6:=hE0 s6;clear hbe6 s6;go_wp2_with fail
     go_roundw
     case rel=>exact⟨j+1,v+1,A6,c6,_,o,by go_num,by go_num,by omega,by omega,HSM6.out,HLL2.out,HF2.out,HD2.out⟩
     case measure=>simp only[intOf];omega
  · have hd0:L.drop j= []:=List.drop_eq_nil_of_le (by rw[HM.out];omega);rw[hd0]at hlay;have hbF:bs=F:=hlay;subst hbF;have HSM:=hE0 hsm.st;clear hsm hlay hdat hd0 hbl;go_wp2
    go_end0
    exact⟨rfl,A,c,HSM.out⟩
end Go.Proofs.YtncadccbepjekaaGreatDoor
