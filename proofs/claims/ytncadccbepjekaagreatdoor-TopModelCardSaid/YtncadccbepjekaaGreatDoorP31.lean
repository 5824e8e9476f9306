/- Texts of mine, joined. -/
import Derived.Test.YtncadccbepjekaaGreatDoorP22
import Derived.Test.YtncadccbepjekaaGreatDoorP24
import Derived.Test.YtncadccbepjekaaGreatDoorP26
set_option maxRecDepth 100000
set_option maxHeartbeats 2000000
namespace Go.Proofs.YtncadccbepjekaaGreatDoor
open Go.RowKit
theorem afO (o:Int) (y:Option Bk):frV o y= .agg #[.int .i64 ((y.map fun z=>(z.off:Int)).getD o), .int .i64 (((y.map Bk.size).getD 0:Nat):Int), .bool false]:=by cases y<;>rfl
theorem an8{bs out:List UInt8}{o s:Int}{u:Bool}(h:aek bs o s u=some out):184<=o/\32<=s/\o+s<=bs.length:=by
 unfold aek at h;split at h
 · rename_i hc;have h1:=(aab _).1 hc.1;have h2:=(aa5 _ _ _).1 hc.2;omega
 · cases h
theorem Rt.bound{bs:List UInt8}{H:Hp}(h:Rt bs H) (hc:H.cap<=16384):bs.length<=16384/\∀y∈H.blks,184<=y.off/\32<=y.size/\y.off+y.size<=bs.length:=by
 have hM:=h.md hc;refine⟨hM.ls.small,fun y hy=> ?_⟩;have:=hM.ls.st.facts hy;omega
theorem aqv{ops:Array Oper}{Q:Exit->Act->World->Prop}{o:Oper}{rest:List Oper}{a:Act}{w:World}{x y:Operand}{gx:Nat}{p q:Int}{r:Bool}{v0 v1 v2:Value}(ho:o.op= .store 112 x y) (hd:o.dst=none)
 (hw:Region.wanted o (yielded ops a.tmps)=true) (hx:a.eval x= .pointer (some ⟨gx,0,none⟩)) (hy:a.eval y= .agg #[.int .i64 p, .int .i64 q, .bool r]) (h:w.heap[gx]?=some (.cells #[v0,v1,v2] 112 (0,0)))
 (hk:∀w',w'.heap[gx]?=some (.cells #[.int .i64 p, .int .i64 q, .bool r] 112 (0,0))->(∀k,k≠gx->w'.heap[k]?=w.heap[k]?)->(∀B,B<=gx->Below B w w')->wpList Tryz.prog ops Q rest a w'):wpList Tryz.prog ops Q (o::rest) a w:=by
 unfold wpList;rw[if_pos hw];refine .inl ?_;unfold Oper.wp;rw[aoZ a.eval o x y ho w gx p q r v0 v1 v2 hx hy h];show wpList Tryz.prog ops Q rest (a.put o.dst undef) _;rw[hd];refine hk _ (aaK h _ _ _) (fun k hk=> ?_) fun B hB=> ?_
 · exact(Below.heap_setCell _ ⟨gx,2,none⟩ _ k hk).trans ((Below.heap_setCell _ ⟨gx,1,none⟩ _ k hk).trans (Below.heap_setCell _ ⟨gx,0,none⟩ _ k hk))
 · exact(((Below.refl _ _).setCell (p:=⟨gx,0,none⟩) hB _).setCell (p:=⟨gx,1,none⟩) hB _).setCell (p:=⟨gx,2,none⟩) hB _
section
variable {w:World} {g base cap c:Nat} {A:Option Addr} {bs:List UInt8} {H:Hp}
theorem akA (h:Ar w 195 g base cap A c bs) (hbase:base<=4611686018427387904) (hcap:cap<=16384) (hc:H.cap=cap) (hR:Rt bs H){A1 B1:List Bk}{p n:Option Bk}{xo xs:Nat}
 (hb:H.blks=(A1++p.toList)++⟨xo,xs,true⟩::(n.toList++B1)) (hN:alp A1 p n B1):
 Calls Tryz.prog 190 #[.pointer (some ⟨g,0,none⟩), .agg #[.int .i64 (xo:Int), .int .i64 (xs:Int), .bool true]] w fun e w'=>e= .returned .nilIface/\∃out,Became 195 g base cap A out w w'/\Rt out (H.give (A1++p.toList).length)/\
  ∀z∈H.blks,z.used=true->z≠⟨xo,xs,true⟩->∀i,Pay z i->out[i]?=bs[i]?:=by
 obtain⟨b1,b2,out,e1,e2,e3,e4,l1,l2,l3,l4,hRo,hP⟩:=hR.gives (by omega) hb hN rfl;have hM:=hR.md (by omega);obtain⟨hl,hbd⟩:=hR.bound (by omega);have y1:=hM.behind hb hN;have y2:=hM.ahead hb hN;have hx:=hbd ⟨xo,xs,true⟩ (by rw[hb];simp);have hn:∀z,n=some z->0<z.size/\z.off<=16384:=fun z hz=>by have:=hbd z (by rw[hb,hz];simp);omega
 have hp:∀z,p=some z->0<z.size/\z.off<=16384:=fun z hz=>by have:=hbd z (by rw[hb,hz];simp);omega
 have r3:=an8 e3;obtain⟨s3,hs3⟩:=nmE (aaY b2 (ad6 p ⟨xo,xs,true⟩ n));rw[hs3]at e3 e4 l3;obtain⟨wo,hwo⟩:=nmE ((ad6 p ⟨xo,xs,true⟩ n).off);obtain⟨ws,hws⟩:=nmE ((ad6 p ⟨xo,xs,true⟩ n).size);rw[hwo,hws]at e3 r3;rw[hwo]at e4;have f1:=afO ((xo:Int)+(xs:Int)) n;have f2:=afO (xo:Int) p;obtain⟨no,hno⟩:∃no:Int,(n.map fun z=>(z.off:Int)).getD ((xo:Int)+(xs:Int))=no:=⟨_,rfl⟩;obtain⟨nz,hnz⟩:=nmE ((n.map Bk.size).getD 0);obtain⟨pz,hpz⟩:=nmE ((p.map Bk.size).getD 0);have hpo:(p.map fun z=>(z.off:Int)).getD (xo:Int)=(wo:Int):=by rw[<-hwo];cases p<;>rfl
 rw[hno,hnz]at f1;rw[hpo,hpz]at f2;have hwe:ws=pz+xs+nz:=by rw[<-hws,<-hpz,<-hnz];rfl
 dsimp only at y1 y2 hx;obtain⟨w1,hw1⟩:=nmE (w.alloc (.cells #[.int .i64 (xo:Int), .int .i64 (xs:Int), .bool true] 112));have hb1:=abE hw1;have n1:=anE hw1;have N1:=hE0 n1;have BC0:Became 195 g base cap A bs w w:=⟨A,c,h,Tch.refl _ _, .inl rfl⟩;have BC1:=hE0 (aaB BC0 hb1.drew);clear BC0;obtain⟨⟨d0,d1,d2⟩,_⟩:=aad n1;have hlt1:=aae n1;have HW1:=hE0 hw1;clear hw1 hb1 n1 h;have HH:=hE0 (show ∀w',Became 195 g base cap A out w w'->((Ending.returned .nilIface:Ending)= .returned .nilIface/\∃out,Became 195 g base cap A out w w'/\Rt out (H.give (A1++p.toList).length)/\∀z∈H.blks,z.used=true->z≠⟨xo,xs,true⟩->∀i,Pay z i->out[i]?=bs[i]?) from fun w' hh=>⟨rfl,out,hh,hRo,hP⟩);clear hRo hP hM hbd hb hN hR;go_enter Tryz.func190,Tryz.ntmps190
 go_wp2_with (first | (rw[HW1.out]) | fail)
 refine ali w1.heap.size [0,1,2,3,4,5,7,8,9] (au5 6 10 11 12) [13,14] (by kernel_rfl) (by kernel_rfl) (by kernel_rfl) (fun _ _ _ _ _ h=>h) ?_;have q0:∀z:LaterB w1.heap.size w1.drew,z.val.cell? ⟨w.heap.size,0,none⟩=some (.int .i64 (xo:Int)):=fun z=>(z.ext.cell (p:=⟨w.heap.size,0,none⟩) hlt1).trans d0;have q1:∀z:LaterB w1.heap.size w1.drew,z.val.cell? ⟨w.heap.size,1,none⟩=some (.int .i64 (xs:Int)):=fun z=>(z.ext.cell (p:=⟨w.heap.size,1,none⟩) hlt1).trans d1;refine auY (l:= ?seg1) ?hseg1 ?_
 case hseg1=>simp only[pick,lE1,lE2,lE3];rfl
 repeat (go_big_quiet_step (fail))
 refine wpQuiet_nil ?_;clear q0 q1;refine apk (S:= [7,12,14,16]) (d1:=13) (d2:=17) (e1:=5) (e2:=6) (v1:=frV ((xo:Int)+(xs:Int)) n) (v2:=frV (xo:Int) p) (cs:= #[.int .i64 0, .int .i64 0, .bool false]) (ty:=112) (w0:=w1.drew) ⟨?_,?_,?_,?_,by decide,by decide,by decide,by decide,by decide,rfl,?_⟩
 · refine amx (vs:= #[.pointer (some ⟨g,0,none⟩), .int .i64 ((xo:Int)+(xs:Int))]) Tryz.call236 rfl (fun a ha=> ?_) fun W hW=> ?_
   · show [a.tmps.getD 7 undef,a.tmps.getD 12 undef]=_;rw[ha 7 (by decide),ha 12 (by decide)];rfl
   · refine(avg (aaB BC1.out hW) hbase hl _ ⟨by omega,by omega⟩ n y1).mono ?_;rintro e w' ⟨h1,h2,h3⟩;exact⟨h1,h3⟩
 · refine amx (vs:= #[.pointer (some ⟨g,0,none⟩), .int .i64 (xo:Int)]) Tryz.call237 rfl (fun a ha=> ?_) fun W hW=> ?_
   · show [a.tmps.getD 14 undef,a.tmps.getD 16 undef]=_;rw[ha 14 (by decide),ha 16 (by decide)];rfl
   · refine(asm (aaB BC1.out hW) hbase hl _ ⟨by omega,by omega⟩ p y2).mono ?_;rintro e w' ⟨h1,h2,h3⟩;exact⟨h1,h3⟩
 · exact aj1 rfl rfl (fun _=>rfl) fun ρ w=>ajS ρ _ rfl w
 · exact aj1 rfl rfl (fun _=>rfl) fun ρ w=>ajS ρ _ rfl w
 intro p1 p2 w5 k1 k2 kne m1 m2 hb5;rw[f1,f2];unfold adl;refine avK (t:= ?tl1) ?htl1 ?_
 case htl1=>simp only[pick,lE1,lE2,lE3];rfl
 simp only[Act.put,lE4,lE5,lE6];refine aqv (gx:=p1) (p:=no) (q:=(nz:Int)) (r:=false) rfl rfl rfl rfl rfl m1 ?_;intro w6 n6 k6 b6;refine aqv (gx:=p2) (p:=(wo:Int)) (q:=(pz:Int)) (r:=false) rfl rfl rfl rfl rfl ((k6 p2 (Ne.symm kne)).trans m2) ?_;intro w7 n7 k7 b7;have hb7:Below w1.heap.size w1.drew w7:=(hb5.trans (b6 _ k1)).trans (b7 _ k2);have n6:=(k7 p1 kne).trans n6;have nb:=(hb7.block w.heap.size hlt1).trans N1.out;have BC7:=hE0 (aaB BC1.out hb7);have h1:=amV BC7.out hbase hl ((xo:Int)+(xs:Int)) n hn e1;rw[f1]at h1;have H1:=hE0 h1;have K1:=hE0 k1;have K2:=hE0 k2;have KN:=hE0 kne;clear h1 hb5 hb7 k6 k7 b6 b7 m1 m2 d0 d1 d2 k1 k2 kne;have NB:=hE0 nb;have N6:=hE0 n6;have N7:=hE0 n7;obtain⟨⟨c0,c1,c2⟩,_⟩:=aad n6;clear nb n6 n7;have hlt6:=aac N6.out;go_wp2_with fail
 refine H1.out.mono ?_;clear c0 c1 c2 hlt6;rintro e w8 ⟨rfl,hB8,hL8⟩;have n6:=hL8 _ _ N6.out;have n7:=hL8 _ _ N7.out;have nb:=hL8 _ _ NB.out;have h2:=amV hB8 hbase (by omega) (xo:Int) p hp e2;rw[f2]at h2;have H2:=hE0 h2;clear N6 N7 NB BC7 BC1 h2 hL8 hB8 H1;have NB:=hE0 nb;have N6:=hE0 n6;have N7:=hE0 n7;obtain⟨⟨c0,c1,c2⟩,_⟩:=aad n7;clear nb n6 n7;have hlt7:=aac N7.out;go_wp2_with fail
 refine H2.out.mono ?_;clear c0 c1 c2 hlt7;rintro e w9 ⟨rfl,hB9,hL9⟩;have n6:=hL9 _ _ N6.out;have n7:=hL9 _ _ N7.out;have nb:=hL9 _ _ NB.out;have h3:=aif hB9 hbase (by omega) wo ws false (by omega) (by omega) e3;rw[hwe,Int.natCast_add,Int.natCast_add]at h3;have H3:=hE0 h3;clear N6 N7 NB h3 hL9 hB9 H2;have N7:=hE0 n7;obtain⟨⟨c0,c1,c2⟩,_⟩:=aad n7;obtain⟨⟨d0,d1,d2⟩,_⟩:=aad nb;obtain⟨⟨g0,g1,g2⟩,_⟩:=aad n6;have hlt7:=aac n7;have hlt6:=aac n6;have hltb:=aac nb;clear nb n6 n7;go_wp2_with fail
 refine H3.out.mono ?_;clear c0 c1 c2 d0 d1 d2 g0 g1 g2 hlt7 hlt6 hltb;rintro e w10 ⟨rfl,hB10,hL10⟩;have n7:=hL10 _ _ N7.out;have h4:=avh hB10 hbase (by omega) wo (by omega) e4;have H4:=hE0 h4;clear N7 h4 hL10 hB10 H3;obtain⟨⟨c0,c1,c2⟩,_⟩:=aad n7;have hlt7:=aac n7;clear n7;go_wp2_with fail
 refine H4.out.mono ?_;clear c0 c1 c2 hlt7;rintro e w11 ⟨rfl,hB11,hL11⟩;have HB:=hE0 hB11;clear hB11 hL11 H4;go_wp2
 go_ret
 exact⟨rfl,(HH.out _ HB.out).2⟩
theorem aqw{w1:World}(h:Became 195 g base cap A bs w w1) (hbase:base<=4611686018427387904) (hcap:cap<=16384) (hc:H.cap=cap) (hR:Rt bs H){A1 B1:List Bk}{p n:Option Bk}{xo xs:Nat}
 (hb:H.blks=(A1++p.toList)++⟨xo,xs,true⟩::(n.toList++B1)) (hN:alp A1 p n B1):
 Calls Tryz.prog 190 #[.pointer (some ⟨g,0,none⟩), .agg #[.int .i64 (xo:Int), .int .i64 (xs:Int), .bool true]] w1 fun e w2=>e= .returned .nilIface/\∃out,Became 195 g base cap A out w w2/\Rt out (H.give (A1++p.toList).length)/\
  ∀z∈H.blks,z.used=true->z≠⟨xo,xs,true⟩->∀i,Pay z i->out[i]?=bs[i]?:=by
 obtain⟨A',c',a,tc,k⟩:=h;refine(akA a hbase hcap hc hR hb hN).mono ?_;rintro e w2 ⟨h1,out,h2,h3⟩;exact⟨h1,out,Became.trans a tc k h2,h3⟩
end
section
variable {w w1:World} {g base cap:Nat} {A:Option Addr} {bs:List UInt8} {H:Hp}
theorem aqx (h:Became 195 g base cap A bs w w1) (hR:Rt bs H){A0 B0:List Bk}{xo xs s:Nat}(hb:H.blks=A0++⟨xo,xs,true⟩::B0) (hxo:xo<=16384) (hxs:xs<=16384) (hle:s<=xs) (hlt:xs<s+32):
 Calls Tryz.prog 239 #[.pointer (some ⟨g,0,none⟩), .agg #[.int .i64 (xo:Int), .int .i64 (xs:Int), .bool true], .int .i64 (s:Int)] w1 fun e w2=>e= .returned .nilIface/\∃out,Became 195 g base cap A out w w2/\Rt out (H.cut A0.length s)/\
  Held H bs (H.cut A0.length s) out/\∀z∈H.blks,z.used=true->z.off≠xo->∀i,Pay z i->out[i]?=bs[i]?:=by
 obtain⟨hR2,hH⟩:=hR.uncut hb hlt;have HRH:=hE0 (show Rt bs (H.cut A0.length s)/\Held H bs (H.cut A0.length s) bs/\∀z∈H.blks,z.used=true->z.off≠xo->∀i,Pay z i->bs[i]?=bs[i]? from⟨hR2,hH,fun _ _ _ _ _ _=>rfl⟩);obtain⟨wa,hwa⟩:=nmE (w1.alloc (.cells #[.int .i64 (xo:Int), .int .i64 (xs:Int), .bool true] 112));have na:=anE hwa;have BCa:=aa7 h (.cells #[.int .i64 (xo:Int), .int .i64 (xs:Int), .bool true] 112);rw[hwa]at BCa;obtain⟨wb,hwb⟩:=nmE (wa.alloc (.cells #[.int .i64 ((xo:Int)+(s:Int)), .int .i64 ((xs:Int)-(s:Int)), .bool true] 112));have nb:=anE hwb;have BCb:=aa7 BCa (.cells #[.int .i64 ((xo:Int)+(s:Int)), .int .i64 ((xs:Int)-(s:Int)), .bool true] 112);rw[hwb]at BCb;have HB:=hE0 BCb;have HWA:=hE0 hwa;have HWB:=hE0 hwb;obtain⟨⟨c0,c1,c2⟩,_⟩:=aad na;obtain⟨⟨d0,d1,d2⟩,_⟩:=aad nb;have hlta:=aac na;have hltb:=aac nb;clear hR2 hH hR hwa hwb BCa BCb h na nb hb;go_enter Tryz.func239,Tryz.ntmps239
 go_wp2_with (first | (rw[HWA.out]) | (rw[HWB.out]) | fail)
 go_ret
 exact⟨rfl,bs,HB.out,HRH.out.1,HRH.out.2.1,fun _ _ _ _ _ _=>rfl⟩
theorem aug (h:Became 195 g base cap A bs w w1) (hbase:base<=4611686018427387904) (hcap:cap<=16384) (hc:H.cap=cap) (hR:Rt bs H){A0 B0:List Bk}{xo xs s:Nat}(hb:H.blks=A0++⟨xo,xs,true⟩::B0) (hs:aaG (s:Int)=true) (hle:s+32<=xs):
 Calls Tryz.prog 239 #[.pointer (some ⟨g,0,none⟩), .agg #[.int .i64 (xo:Int), .int .i64 (xs:Int), .bool true], .int .i64 (s:Int)] w1 fun e w2=>e= .returned .nilIface/\∃out,Became 195 g base cap A out w w2/\Rt out (H.cut A0.length s)/\
  Held H bs (H.cut A0.length s) out/\∀z∈H.blks,z.used=true->z.off≠xo->∀i,Pay z i->out[i]?=bs[i]?:=by
 obtain⟨b1,b2,H1,A1,B1,p,n,e1,e2,l1,l2,hc1,hR1,hb1,hN,hcut,hP⟩:=hR.cutting (by omega) hb hs hle;obtain⟨hl,hbd⟩:=hR.bound (by omega);have hx:=hbd ⟨xo,xs,true⟩ (by rw[hb];simp);dsimp only at hx;have hq:=(aab _).1 hs;have HG:=hE0 (fun w3 (h3:Became 195 g base cap A b2 w w3)=>aqw h3 hbase hcap (by omega) hR1 hb1 hN);rw[hcut]at HG;have HP:=hE0 hP;obtain⟨wa,hwa⟩:=nmE (w1.alloc (.cells #[.int .i64 (xo:Int), .int .i64 (xs:Int), .bool true] 112));have na:=anE hwa;have BCa:=aa7 h (.cells #[.int .i64 (xo:Int), .int .i64 (xs:Int), .bool true] 112);rw[hwa]at BCa;obtain⟨wb,hwb⟩:=nmE (wa.alloc (.cells #[.int .i64 ((xo:Int)+(s:Int)), .int .i64 ((xs:Int)-(s:Int)), .bool true] 112));have nb:=anE hwb;have nab:wb.heap[w1.heap.size]?=some (.cells #[.int .i64 (xo:Int), .int .i64 (xs:Int), .bool true] 112 (0,0)):=by rw[<-hwb];exact(heap_alloc_old _ _ (aae na)).trans na
 have BCb:=aa7 BCa (.cells #[.int .i64 ((xo:Int)+(s:Int)), .int .i64 ((xs:Int)-(s:Int)), .bool true] 112);rw[hwb]at BCb;have hsz:w.heap.size<=w1.heap.size:=by obtain⟨_,_,_,ht,_⟩:=h;exact ht.size
 obtain⟨wc,hwc⟩:=nmE (wb.setCell ⟨w1.heap.size,1,none⟩ (.int .i64 (s:Int)));have nac:=heap_setCell_same wb w1.heap.size 1 _ _ (.int .i64 (s:Int)) nab;have nbc:=(Below.heap_setCell wb ⟨w1.heap.size,1,none⟩ (.int .i64 (s:Int)) wa.heap.size (fun e=>by have:=aae na;have e:wa.heap.size=w1.heap.size:=e;omega)).trans nb;have BCc:=aie BCb nab hsz 1 (.int .i64 (s:Int));rw[hwc]at nac nbc BCc;have nac:wc.heap[w1.heap.size]?=some (.cells #[.int .i64 (xo:Int), .int .i64 (s:Int), .bool true] 112 (0,0)):=nac;have h1:=aif BCc hbase hl xo s true (by omega) (by omega) e1;have H1':=hE0 h1;have E2:=hE0 e2;have NBC:=hE0 nbc;have HWA:=hE0 hwa;have HWB:=hE0 hwb;have HWC:=hE0 hwc;have NAC:=hE0 nac;obtain⟨⟨d0,d1,d2⟩,_⟩:=aad nb;obtain⟨⟨u0,u1,u2⟩,_⟩:=aad na;obtain⟨⟨c0,c1,c2⟩,f0,f1,f2⟩:=aad nab;obtain⟨⟨g0,g1,g2⟩,_⟩:=aad nac;have hlta:=aac na;have hltb:=aac nb;have hltc:=aac nab;clear hR hwa hwb hwc BCa BCb BCc h na nb nab nac nbc hb hR1 hb1 hN hcut hP h1 e1 e2 hbd;go_enter Tryz.func239,Tryz.ntmps239
 go_wp2_with (first | (rw[HWA.out]) | (rw[HWB.out]) | (rw[HWC.out]) | fail)
 refine H1'.out.mono ?_;clear d0 d1 d2 u0 u1 u2 c0 c1 c2 f0 f1 f2 g0 g1 g2 hlta hltb hltc;rintro e wd ⟨rfl,hB1,hL1⟩;have nb:=hL1 _ _ NBC.out;have h2:=aif hB1 hbase (by omega) (xo+s) (xs-s) true (by omega) (by omega) E2.out;have en:((xo+s:Nat):Int)=(xo:Int)+(s:Int):=Int.natCast_add _ _;have em:((xs-s:Nat):Int)=(xs:Int)-(s:Int):=Int.ofNat_sub (by omega);rw[en,em]at h2;have H2:=hE0 h2;have EN:=hE0 en;have EM:=hE0 em;have NB:=hE0 nb;clear hB1 hL1 NBC NAC HWA HWB HWC H1' h2 E2 en em;obtain⟨⟨d0,d1,d2⟩,_⟩:=aad nb;have hltb:=aac nb;clear nb;go_wp2_with fail
 refine H2.out.mono ?_;clear d0 d1 d2 hltb;rintro e we ⟨rfl,hB2,hL2⟩;have nb:=hL2 _ _ NB.out;have h3:=HG.out we hB2;rw[EN.out,EM.out]at h3;have H3:=hE0 h3;clear hB2 hL2 NB H2 h3 HG;obtain⟨⟨d0,d1,d2⟩,_⟩:=aad nb;have hltb:=aac nb;clear nb;go_wp2_with fail
 refine H3.out.mono ?_;clear d0 d1 d2 hltb;rintro e wf ⟨rfl,out,hB,hR,hP⟩;have HB:=hE0 hB;have HR:=hE0 hR;have HPP:=hE0 (HP.out out hP);clear hB hR hP H3 HP;go_wp2
 go_ret
 exact⟨rfl,out,HB.out,HR.out,HPP.out.1,HPP.out.2⟩
theorem aqy (h:Became 195 g base cap A bs w w1) (hbase:base<=4611686018427387904) (hcap:cap<=16384) (hc:H.cap=cap) (hR:Rt bs H){A0 B0:List Bk}{xo xs s:Nat}(hb:H.blks=A0++⟨xo,xs,true⟩::B0) (hs:aaG (s:Int)=true) (hle:s<=xs):
 Calls Tryz.prog 239 #[.pointer (some ⟨g,0,none⟩), .agg #[.int .i64 (xo:Int), .int .i64 (xs:Int), .bool true], .int .i64 (s:Int)] w1 fun e w2=>e= .returned .nilIface/\∃out,Became 195 g base cap A out w w2/\Rt out (H.cut A0.length s)/\
  Held H bs (H.cut A0.length s) out/\∀z∈H.blks,z.used=true->z.off≠xo->∀i,Pay z i->out[i]?=bs[i]?:=by
 obtain⟨hl,hbd⟩:=hR.bound (by omega);have hx:=hbd ⟨xo,xs,true⟩ (by rw[hb];simp);dsimp only at hx;by_cases hlt:xs<s+32
 · exact aqx h hR hb (by omega) (by omega) hle hlt
 · exact aug h hbase hcap hc hR hb hs (by omega)
end
theorem ajj{l:List Bk}{e:Nat}(ht:aby 184 l e){j:Nat}{x:Bk}{o:Int}(hx:l[j]?=some x) (ho:(x.off:Int)=o) (hu:x.used=true):(aa3 l o).map (aal l)=some x:=by
 have hxm:=List.mem_of_getElem? hx;obtain⟨i,h1,h2,h3⟩:=amE ht hxm;unfold aa3;rw[<-ho,h1];dsimp only;rw[h3,hu,if_pos rfl,Option.map_some,h3]
theorem akB{l:List Bk}{o:Int}(h:∀(i:Nat) (x:Bk),l[i]?=some x->¬((x.off:Int)=o/\x.used=true)):aa3 l o=none:=by
 unfold aa3
 cases hi:atB o l with
 | none=>rfl
 | some i=>
  obtain⟨x,h1,h2⟩:=abM hi;dsimp only;rw[if_neg];intro hu;rw[aaX h1]at hu;exact h i x h1 ⟨h2,hu⟩
theorem aeQ{l:List Bk}{o:Int}{i:Nat}(h:aa3 l o=some i):i<l.length/\((aal l i).off:Int)=o/\(aal l i).used=true:=by
 unfold aa3 at h
 cases hi:atB o l with
 | none=>rw[hi]at h;cases h
 | some k=>
  rw[hi]at h;dsimp only at h;split at h
  · rename_i hu;injection h with h;subst h;obtain⟨x,h1,h2⟩:=abM hi;exact⟨aau h1,by rw[aaX h1];exact h2,hu⟩
  · cases h
theorem ajk{B:Nat}{w w':World}(h:Below B w w'){b j:Nat}{v:Value}(hc:w.cell? ⟨b,j,none⟩=some v) (hb:b<B):w'.cell? ⟨b,j,none⟩=some v:=
 (h.cell (p:=⟨b,j,none⟩) hb).trans hc
theorem asq:avS:=by
 intro w g base cap c A bs H o h hb hcap hc hR ho;obtain⟨l,hl⟩:=nmE H.blks;rw[hl];have hwk:=hR.walk;rw[hl]at hwk;have ht:=(aaj hwk).2.1;have hbl:=(hR.bound (by omega)).1;have hll:=ajL hwk;obtain⟨y,hy⟩:=nmE ((aa3 l o).map (aal l));rw[hy];have HHIT:Hid (∀(j:Nat) (x:Bk),l[j]?=some x->(x.off:Int)=o->x.used=true->some x=y):=fun j x hx ho hu=>by rw[<-hy];exact(ajj ht hx ho hu).symm
 have HMISS:Hid ((∀(i:Nat) (x:Bk),l[i]?=some x->¬((x.off:Int)=o/\x.used=true))->none=y):=fun hm=>by rw[<-hy,akB hm];rfl
 obtain⟨w1,hw1⟩:=nmE (w.alloc (.cells #[.int .i64 0, .int .i64 0, .bool false] 112));have hb1:=abE hw1;have hn1:=anE hw1;have hW:=alN w1 g base cap c A bs _ (h.below hb1) hb hbl hwk;dsimp only[acZ,Option.isSome,Option.getD,aav]at hW;have HW:=hE0 hW;have HW1:=hE0 hw1;have HB1:=hE0 hb1;have HN1:=hE0 hn1;clear hW hw1 hb1 hn1 h hR hwk ht hy hl hb hcap hc;go_enter Tryz.func189,Tryz.ntmps189
 go_wp2_with fail
 rw[HW1.out]
 with_reducible refine HW.out.mono ?_
 rintro e w2 ⟨A2,c2,rfl,ho2,hb2⟩;have hcl:l.length<=c2/\c2<=9223372036854775807:=by
  rcases ho2.2 with⟨h',h0⟩ | ⟨_,_,_,h',_,_,h1,h2,_⟩
  · injection h' with _ _ e;rw[h0,e];omega
  · injection h' with _ _ e;unfold maxLen at h2;omega
 have HR:=hE0 (BkRd.of_own ho2);have HB2:=hE0 (HB1.out.trans (hb2.mono HB1.out.size));have HN2:=hE0 ((hb2.block w.heap.size (aae HN1.out)).trans HN1.out);clear ho2 hb2 HW HN1 HB1;go_wp2
 go_loopw [21] (fun t wr=>∃j:Nat,t= .int .i64 (j:Int)/\j<=l.length/\(∀(i:Nat) (x:Bk),i<j->l[i]?=some x->¬((x.off:Int)=o/\x.used=true))/\Below w2.heap.size w2 wr) (fun t _=>l.length-(intOf t).toNat)
 case atStart=>exact⟨0,rfl,Nat.zero_le _,fun i x hi=>absurd hi (Nat.not_lt_zero _),Below.refl _ _⟩
 case round=>
  obtain⟨j,rfl,hj,hno,hbe⟩:=hrel;have nl:=(hbe.block w.heap.size (aae HN2.out)).trans HN2.out;have hfin:=HB2.out.trans (hbe.mono HB2.out.size);by_cases hlt:j<l.length
  · obtain⟨x,hx⟩:∃x,l[j]?=some x:=⟨l[j],List.getElem?_eq_getElem hlt⟩;obtain⟨b2,q,rfl,hbb,hcl2⟩:=HR.out (by omega);obtain⟨p0,p1,p2⟩:=hcl2 j x hx;have r0:=ajk hbe p0 hbb;have r1:=ajk hbe p1 hbb;have r2:=ajk hbe p2 hbb;have HIT:=hE0 (HHIT.out j x hx);have HNO:Hid (¬((x.off:Int)=o/\x.used=true)->∀(i:Nat) (z:Bk),i<j+1->l[i]?=some z->¬((z.off:Int)=o/\z.used=true)):=fun hx2 i z hi hz=>by
     by_cases hij:i<j
     · exact hno i z hij hz
     · obtain rfl:i=j:=by omega
       rw[hx]at hz;injection hz with hz;rw[<-hz];exact hx2
    obtain⟨xo,xs,xu⟩:=x;dsimp only at p0 p1 p2 r0 r1 r2;obtain⟨w4,hw4⟩:=nmE (wr.alloc (.cells #[.int .i64 (xo:Int), .int .i64 (xs:Int), .bool xu] 112));have hb4:Below w2.heap.size w2 w4:=by rw[<-hw4];exact hbe.alloc hbe.size _
    have n4:=anE hw4;have nl4:w4.heap[w.heap.size]?=some (.cells #[.int .i64 0, .int .i64 0, .bool false] 112 (0,0)):=by rw[<-hw4];exact(heap_alloc_old _ _ (aae nl)).trans nl
    have hf4:Below w.heap.size w w4:=by rw[<-hw4];exact hfin.alloc hfin.size _
    obtain⟨⟨d0,d1,d2⟩,_⟩:=aad n4;have HW4:=hE0 hw4;have HB4:=hE0 hb4;have HF4:=hE0 hf4;have NL4:=hE0 nl4;have HNEQ:=hE0 (show wr.heap.size≠w.heap.size from fun e=>by have:=aae nl;omega);clear hx hbe p0 p1 p2 hb4 n4 hw4 hcl2 hno nl nl4 hf4 hfin;by_cases hxo:(xo:Int)=o
    · have e1:((xo:Int)==o)=true:=by rw[beq_iff_eq];exact hxo
      cases xu with
      | true=>
       obtain rfl:=HIT.out hxo rfl;obtain⟨⟨c0,c1,c2⟩,f0,f1,f2⟩:=aad NL4.out;have hlt4:=aac NL4.out;clear hxo HHIT HMISS HIT HNO;go_wp2_with (first | (rw[HW4.out]) | fail)
       (try simp only[Exit.inBlock,Exit.then])
       refine abP (x:= .nilIface) (g:=w.heap.size) (o:=(xo:Int)) (s:=(xs:Int)) (b:=true) Tryz.results189 ?_ ?_ ?_ ?_ ?_
       · rfl
       · rfl
       · rfl
       · exact aaK NL4.out _ _ _
       · exact⟨rfl,((HF4.out.setCell (Nat.le_refl _) _).setCell (Nat.le_refl _) _).setCell (Nat.le_refl _) _⟩
      | false=>
       have HNO2:=hE0 (HNO.out (fun hh=>by cases hh.2));clear hxo HHIT HMISS HIT HNO;go_wp2_with (first | (rw[HW4.out]) | fail)
       go_roundw
       case rel=>exact⟨j+1,by go_num,by omega,HNO2.out,HB4.out⟩
       case measure=>simp only[intOf];omega
    · have e1:((xo:Int)==o)=false:=by rw[beq_eq_false_iff_ne];exact hxo
      have HNO2:=hE0 (HNO.out (fun hh=>hxo hh.1));clear hxo HHIT HMISS HIT HNO;go_wp2_with (first | (rw[HW4.out]) | fail)
      go_roundw
      case rel=>exact⟨j+1,by go_num,by omega,HNO2.out,HB4.out⟩
      case measure=>simp only[intOf];omega
  · obtain rfl:=HMISS.out (fun i x hx=>hno i x (by have:=aau hx;omega) hx);have NL:=hE0 nl;have HF:=hE0 hfin;obtain⟨⟨c0,c1,c2⟩,f0,f1,f2⟩:=aad NL.out;have hlt4:=aac NL.out;clear hno hbe nl hfin HHIT HMISS;go_wp2
    (try simp only[Exit.inBlock,Exit.then])
    refine abP (x:= .iface 130 (.int .i64 3)) (g:=w.heap.size) (o:=0) (s:=0) (b:=false) Tryz.results189 ?_ ?_ ?_ ?_ ?_
    · rfl
    · rfl
    · rfl
    · exact aaK NL.out _ _ _
    · exact⟨rfl,((HF.out.setCell (Nat.le_refl _) _).setCell (Nat.le_refl _) _).setCell (Nat.le_refl _) _⟩
section
variable {w:World} {g base cap c:Nat} {A:Option Addr} {bs:List UInt8} {H:Hp}
theorem avl:avQ:=by
 intro w g base cap c A bs H o h hb hcap hc hR ho;have hU:=asq w g base cap c A bs H o h hb hcap hc hR ho;have BC:=hE0 (show Became 195 g base cap A bs w w from⟨A,c,h,Tch.refl _ _, .inl rfl⟩)
 cases hi:aa3 H.blks o with
 | none=>
  have e:H.giveO o=none:=by unfold Hp.giveO;rw[hi];rfl
  rw[e];rw[hi]at hU;dsimp only[aaE,bkV,Bk.val,Option.isSome,aav,Option.map]at hU;dsimp only[ac0,aav];have HU:=hE0 hU;clear hU hi e h hR;go_enter Tryz.func127,Tryz.ntmps127
  go_wp2_with fail
  with_reducible refine HU.out.mono ?_
  rintro e w2 ⟨rfl,hb2⟩;have HB2:=hE0 (hb2.alloc hb2.size (.cells #[.int .i64 0, .int .i64 0, .bool false] 112));clear hb2 HU;go_wp2
  go_ret
  exact⟨rfl,HB2.out⟩
 | some i=>
  obtain⟨h1,h2,h3⟩:=aeQ hi;have e:H.giveO o=some (H.give i):=by unfold Hp.giveO;rw[hi];rfl
  rw[e];rw[hi]at hU;obtain⟨m1,m2⟩:=ae5 h1;obtain⟨A1,p,n,B1,eA,eB,hN⟩:=alq (H.blks.take i) (H.blks.drop (i+1));obtain⟨x,hx⟩:=nmE (aal H.blks i);rw[hx]at m1 h2 h3;have hm:Option.map (aal H.blks) (some i)=some x:=by rw[<-hx];rfl
  rw[hm]at hU;obtain⟨xo,xs,xu⟩:=x;dsimp only at h2 h3;subst h3;dsimp only[aaE,bkV,Bk.val,Option.isSome,aav]at hU;dsimp only[ac0,aav];have hbk:H.blks=(A1++p.toList)++⟨xo,xs,true⟩::(n.toList++B1):=by rw[<-eA,<-eB];exact m1
  have hlen:(A1++p.toList).length=i:=by rw[<-eA];exact m2
  have HG:=hE0 (fun w2 (hB:Became 195 g base cap A bs w w2)=>aqw hB hb hcap hc hR hbk hN);have HHELD:=hE0 (fun out hP=>hR.gave (by omega) hbk hN (out:=out) hP);rw[hlen]at HG HHELD;have HU:=hE0 hU;clear hU hi e h hR eA eB hN hbk m1 m2 hm hx h2;go_enter Tryz.func127,Tryz.ntmps127
  go_wp2_with fail
  with_reducible refine HU.out.mono ?_
  rintro e w2 ⟨rfl,hb2⟩;obtain⟨w3,hw3⟩:=nmE (w2.alloc (.cells #[.int .i64 (xo:Int), .int .i64 (xs:Int), .bool true] 112));have n3:=anE hw3;have hb3:Below w.heap.size w w3:=by rw[<-hw3];exact hb2.alloc hb2.size _
  have HG3:=hE0 (HG.out w3 (aaB BC.out hb3));obtain⟨⟨d0,d1,d2⟩,_⟩:=aad n3;have hlt3:=aac n3;have HW3:=hE0 hw3;clear hb2 HU HG BC hw3 n3 hb3;go_wp2_with (first | (rw[HW3.out]) | fail)
  refine HG3.out.mono ?_;clear d0 d1 d2 hlt3;rintro e w4 ⟨rfl,out,hB,hR,hP⟩;have HB:=hE0 hB;have HR:=hE0 hR;have HH:=hE0 (HHELD.out out hP);clear hB hR hP HG3 HHELD;go_wp2
  go_ret
  exact⟨rfl,out,HB.out,HR.out,HH.out⟩
theorem avm:avR:=by
 intro w g base cap c A bs H o s h hb hcap hc hR ho hsr;have hC:=ajW w s hsr;constructor
 · intro hs;have e:aaq s= -1:=by simp[aaq,hs]
   rw[e]at hC;dsimp only[aav];have HC:=hE0 hC;clear hC e hs h hR;go_enter Tryz.func191,Tryz.ntmps191
   go_wp2_with fail
   with_reducible refine HC.out.mono ?_
   rintro e w2 ⟨rfl,hb2⟩;have HB2:=hE0 hb2;clear hb2 HC;go_wp2
   go_ret
   exact⟨rfl,HB2.out⟩
 · intro hs;have hq:=(aab _).1 hs;obtain⟨n,rfl⟩:∃n:Nat,s=(n:Int):=⟨s.toNat,by omega⟩;rw[Int.toNat_natCast];obtain⟨k,hk,hk2⟩:=abz (x:=⟨0,n,false⟩) hs;have hk:aaq (n:Int)=(k:Int):=hk;rw[hk]at hC;have HC:=hE0 hC;have BC:=hE0 (show Became 195 g base cap A bs w w from⟨A,c,h,Tch.refl _ _, .inl rfl⟩);have HU:=hE0 (fun w1 (hB:Below w.heap.size w w1)=>asq w1 g base cap c A bs H o (h.below hB) hb hcap hc hR ho)
   cases hi:aa3 H.blks o with
   | none=>
    have e:H.trimO o n=none:=by unfold Hp.trimO;rw[hi]
    rw[e];rw[hi]at HU;dsimp only[aaE,bkV,Bk.val,Option.isSome,aav,Option.map]at HU;dsimp only[ac0,aav];clear hC hi e h hR hk;go_enter Tryz.func191,Tryz.ntmps191
    go_wp2_with fail
    with_reducible refine HC.out.mono ?_
    rintro e w1 ⟨rfl,hb1⟩;have HU1:=hE0 (HU.out w1 hb1);have HB1:=hE0 hb1;clear hb1 HC HU;go_wp2_with fail
    with_reducible refine HU1.out.mono ?_
    rintro e w2 ⟨rfl,hb2⟩;have hb2':=HB1.out.trans (hb2.mono HB1.out.size);have HB2:=hE0 (hb2'.alloc hb2'.size (.cells #[.int .i64 0, .int .i64 0, .bool false] 112));clear hb2 hb2' HU1;go_wp2
    go_ret
    exact⟨rfl,HB2.out⟩
   | some i=>
    obtain⟨h1,h2,h3⟩:=aeQ hi;rw[hi]at HU;obtain⟨m1,m2⟩:=ae5 h1;obtain⟨x,hx⟩:=nmE (aal H.blks i);rw[hx]at m1 h2 h3;have hm:Option.map (aal H.blks) (some i)=some x:=by rw[<-hx];rfl
    rw[hm]at HU;have hxb:=(hR.bound (by omega)).2 x (by rw[m1];simp);have hbl:=(hR.bound (by omega)).1;obtain⟨xo,xs,xu⟩:=x;dsimp only at h2 h3 hxb;subst h3;dsimp only[aaE,bkV,Bk.val,Option.isSome,aav]at HU;by_cases hlt:xs<n
    · have e:H.trimO o n=none:=by unfold Hp.trimO;rw[hi];dsimp only;rw[hx];dsimp only;rw[if_pos hlt]
      rw[e];dsimp only[ac0,aav];have e2:decide ((xs:Int)<(n:Int))=true:=decide_eq_true (by omega);clear hC hi e h hR hk m1 m2 hm hx h2;go_enter Tryz.func191,Tryz.ntmps191
      go_wp2_with fail
      with_reducible refine HC.out.mono ?_
      rintro e w1 ⟨rfl,hb1⟩;have HU1:=hE0 (HU.out w1 hb1);have HB1:=hE0 hb1;clear hb1 HC HU;go_wp2_with fail
      with_reducible refine HU1.out.mono ?_
      rintro e w2 ⟨rfl,hb2⟩;have hb2':=HB1.out.trans (hb2.mono HB1.out.size);have HB2:=hE0 (hb2'.alloc hb2'.size (.cells #[.int .i64 (xo:Int), .int .i64 (xs:Int), .bool true] 112));clear hb2 hb2' HU1;go_wp2
      go_ret
      exact⟨rfl,HB2.out⟩
    · have e:H.trimO o n=some (H.cut i n):=by unfold Hp.trimO;rw[hi];dsimp only;rw[hx];dsimp only;rw[if_neg hlt]
      rw[e];dsimp only[ac0,aav];have HG:=hE0 (fun w2 (hB:Became 195 g base cap A bs w w2)=>aqy hB hb hcap hc hR m1 hs (Nat.le_of_not_lt hlt));rw[m2]at HG;have e2:decide ((xs:Int)<(n:Int))=false:=decide_eq_false (by omega);clear hC hi e h hR hk m1 m2 hm hx h2;go_enter Tryz.func191,Tryz.ntmps191
      go_wp2_with fail
      with_reducible refine HC.out.mono ?_
      rintro e w1 ⟨rfl,hb1⟩;have HU1:=hE0 (HU.out w1 hb1);have HB1:=hE0 hb1;clear hb1 HC HU;go_wp2_with fail
      with_reducible refine HU1.out.mono ?_
      rintro e w2 ⟨rfl,hb2⟩;have hb2':=HB1.out.trans (hb2.mono HB1.out.size);obtain⟨w3,hw3⟩:=nmE (w2.alloc (.cells #[.int .i64 (xo:Int), .int .i64 (xs:Int), .bool true] 112));have n3:=anE hw3;have hb3:Below w.heap.size w w3:=by rw[<-hw3];exact hb2'.alloc hb2'.size _
      have HG3:=hE0 (HG.out w3 (aaB BC.out hb3));obtain⟨⟨d0,d1,d2⟩,_⟩:=aad n3;have hlt3:=aac n3;have HW3:=hE0 hw3;clear hb2 hb2' HU1 HG BC hw3 n3 hb3;go_wp2_with (first | (rw[HW3.out]) | fail)
      refine HG3.out.mono ?_;clear d0 d1 d2 hlt3;rintro e w4 ⟨rfl,out,hB,hR,hH,_⟩;have HB:=hE0 hB;have HR:=hE0 hR;have HH:=hE0 hH;clear hB hR hH HG3;go_wp2
      go_ret
      exact⟨rfl,out,HB.out,HR.out,HH.out⟩
end
end Go.Proofs.YtncadccbepjekaaGreatDoor
