/- Texts of mine, joined. -/
import Derived.WalkKit
import Derived.LaidEql
import Derived.Stop.Asserts
import Derived.RowKitTokens
import Derived.Test.YtncadccbepjekaaGreatDoorR7
set_option maxRecDepth 100000
set_option maxHeartbeats 4000000
namespace Go.Proofs.YtncadccbepjekaaGreatDoor
open Go.RowKit
theorem afs (o:Int) (y:Option Bk):frV o y= .agg #[.int .i64 ((y.map fun z=>(z.off:Int)).getD o), .int .i64 (((y.map Bk.size).getD 0:Nat):Int), .bool false]:=by cases y<;>rfl
theorem anm{bs out:List UInt8}{o s:Int}{u:Bool}(h:ad5 bs o s u=some out):184<=o/\32<=s/\o+s<=bs.length:=by
 unfold ad5 at h;split at h
 · rename_i hc;have h1:=(aac _).1 hc.1;have h2:=(aaZ _ _ _).1 hc.2;omega
 · cases h
theorem Rt.bound{bs:List UInt8}{H:Hp}(h:Rt bs H) (hc:H.cap<=16384):bs.length<=16384/\∀y∈H.blks,184<=y.off/\32<=y.size/\y.off+y.size<=bs.length:=by
 have hM:=h.md hc;refine⟨hM.ls.small,fun y hy=> ?_⟩;have:=hM.ls.st.facts hy;omega
theorem apF{ops:Array Oper}{Q:Exit->Act->World->Prop}{o:Oper}{rest:List Oper}{a:Act}{w:World}{x y:Operand}{gx:Nat}{p q:Int}{r:Bool}{v0 v1 v2:Value}(ho:o.op= .store 112 x y) (hd:o.dst=none)
 (hw:Region.wanted o (yielded ops a.tmps)=true) (hx:a.eval x= .pointer (some ⟨gx,0,none⟩)) (hy:a.eval y= .agg #[.int .i64 p, .int .i64 q, .bool r]) (h:w.heap[gx]?=some (.cells #[v0,v1,v2] 112 (0,0)))
 (hk:∀w',w'.heap[gx]?=some (.cells #[.int .i64 p, .int .i64 q, .bool r] 112 (0,0))->(∀k,k≠gx->w'.heap[k]?=w.heap[k]?)->(∀B,B<=gx->Below B w w')->wpList Tryz.prog ops Q rest a w'):wpList Tryz.prog ops Q (o::rest) a w:=by
 unfold wpList;rw[if_pos hw];refine .inl ?_;unfold Oper.wp;rw[ao5 a.eval o x y ho w gx p q r v0 v1 v2 hx hy h];show wpList Tryz.prog ops Q rest (a.put o.dst undef) _;rw[hd];refine hk _ (aav h _ _ _) (fun k hk=> ?_) fun B hB=> ?_
 · exact(Below.heap_setCell _ ⟨gx,2,none⟩ _ k hk).trans ((Below.heap_setCell _ ⟨gx,1,none⟩ _ k hk).trans (Below.heap_setCell _ ⟨gx,0,none⟩ _ k hk))
 · exact(((Below.refl _ _).setCell (p:=⟨gx,0,none⟩) hB _).setCell (p:=⟨gx,1,none⟩) hB _).setCell (p:=⟨gx,2,none⟩) hB _
section
variable {w:World} {g base cap c:Nat} {A:Option Addr} {bs:List UInt8} {H:Hp}
theorem ajQ (h:Ar w 195 g base cap A c bs) (hbase:base<=4611686018427387904) (hcap:cap<=16384) (hc:H.cap=cap) (hR:Rt bs H){A1 B1:List Bk}{p n:Option Bk}{xo xs:Nat}
 (hb:H.blks=(A1++p.toList)++⟨xo,xs,true⟩::(n.toList++B1)) (hN:ak4 A1 p n B1):
 Calls Tryz.prog 190 #[.pointer (some ⟨g,0,none⟩), .agg #[.int .i64 (xo:Int), .int .i64 (xs:Int), .bool true]] w fun e w'=>e= .returned .nilIface/\∃out,Became 195 g base cap A out w w'/\Rt out (H.give (A1++p.toList).length)/\
  ∀z∈H.blks,z.used=true->z≠⟨xo,xs,true⟩->∀i,Pay z i->out[i]?=bs[i]?:=by
 obtain⟨b1,b2,out,e1,e2,e3,e4,l1,l2,l3,l4,hRo,hP⟩:=hR.gives (by omega) hb hN rfl;have hM:=hR.md (by omega);obtain⟨hl,hbd⟩:=hR.bound (by omega);have y1:=hM.behind hb hN;have y2:=hM.ahead hb hN;have hx:=hbd ⟨xo,xs,true⟩ (by rw[hb];simp);have hn:∀z,n=some z->0<z.size/\z.off<=16384:=fun z hz=>by have:=hbd z (by rw[hb,hz];simp);omega
 have hp:∀z,p=some z->0<z.size/\z.off<=16384:=fun z hz=>by have:=hbd z (by rw[hb,hz];simp);omega
 have r3:=anm e3;obtain⟨s3,hs3⟩:=nmE (aaT b2 (adX p ⟨xo,xs,true⟩ n));rw[hs3]at e3 e4 l3;obtain⟨wo,hwo⟩:=nmE ((adX p ⟨xo,xs,true⟩ n).off);obtain⟨ws,hws⟩:=nmE ((adX p ⟨xo,xs,true⟩ n).size);rw[hwo,hws]at e3 r3;rw[hwo]at e4;have f1:=afs ((xo:Int)+(xs:Int)) n;have f2:=afs (xo:Int) p;obtain⟨no,hno⟩:∃no:Int,(n.map fun z=>(z.off:Int)).getD ((xo:Int)+(xs:Int))=no:=⟨_,rfl⟩;obtain⟨nz,hnz⟩:=nmE ((n.map Bk.size).getD 0);obtain⟨pz,hpz⟩:=nmE ((p.map Bk.size).getD 0);have hpo:(p.map fun z=>(z.off:Int)).getD (xo:Int)=(wo:Int):=by rw[<-hwo];cases p<;>rfl
 rw[hno,hnz]at f1;rw[hpo,hpz]at f2;have hwe:ws=pz+xs+nz:=by rw[<-hws,<-hpz,<-hnz];rfl
 dsimp only at y1 y2 hx;obtain⟨w1,hw1⟩:=nmE (w.alloc (.cells #[.int .i64 (xo:Int), .int .i64 (xs:Int), .bool true] 112));have hb1:=abE hw1;have n1:=anE hw1;have N1:=hE0 n1;have BC0:Became 195 g base cap A bs w w:=⟨A,c,h,Tch.refl _ _, .inl rfl⟩;have BC1:=hE0 (aaA BC0 hb1.drew);clear BC0;obtain⟨⟨d0,d1,d2⟩,_⟩:=aad n1;have hlt1:=aae n1;have HW1:=hE0 hw1;clear hw1 hb1 n1 h;have HH:=hE0 (show ∀w',Became 195 g base cap A out w w'->((Ending.returned .nilIface:Ending)= .returned .nilIface/\∃out,Became 195 g base cap A out w w'/\Rt out (H.give (A1++p.toList).length)/\∀z∈H.blks,z.used=true->z≠⟨xo,xs,true⟩->∀i,Pay z i->out[i]?=bs[i]?) from fun w' hh=>⟨rfl,out,hh,hRo,hP⟩);clear hRo hP hM hbd hb hN hR;go_enter Tryz.func190,Tryz.ntmps190
 go_wp2_with (first | (rw[HW1.out]) | fail)
 refine ak9 w1.heap.size [0,1,2,3,4,5,7,8,9] (auc 6 10 11 12) [13,14] (by kernel_rfl) (by kernel_rfl) (by kernel_rfl) (fun _ _ _ _ _ h=>h) ?_;have q0:∀z:LaterB w1.heap.size w1.drew,z.val.cell? ⟨w.heap.size,0,none⟩=some (.int .i64 (xo:Int)):=fun z=>(z.ext.cell (p:=⟨w.heap.size,0,none⟩) hlt1).trans d0;have q1:∀z:LaterB w1.heap.size w1.drew,z.val.cell? ⟨w.heap.size,1,none⟩=some (.int .i64 (xs:Int)):=fun z=>(z.ext.cell (p:=⟨w.heap.size,1,none⟩) hlt1).trans d1;refine at3 (l:= ?seg1) ?hseg1 ?_
 case hseg1=>simp only[pick,lE1,lE2,lE3];rfl
 repeat (go_big_quiet_step (fail))
 refine wpQuiet_nil ?_;clear q0 q1;refine apE (S:= [7,12,14,16]) (d1:=13) (d2:=17) (e1:=5) (e2:=6) (v1:=frV ((xo:Int)+(xs:Int)) n) (v2:=frV (xo:Int) p) (cs:= #[.int .i64 0, .int .i64 0, .bool false]) (ty:=112) (w0:=w1.drew) ⟨?_,?_,?_,?_,by decide,by decide,by decide,by decide,by decide,rfl,?_⟩
 · refine amj (vs:= #[.pointer (some ⟨g,0,none⟩), .int .i64 ((xo:Int)+(xs:Int))]) Tryz.call236 rfl (fun a ha=> ?_) fun W hW=> ?_
   · show [a.tmps.getD 7 undef,a.tmps.getD 12 undef]=_;rw[ha 7 (by decide),ha 12 (by decide)];rfl
   · refine(aud (aaA BC1.out hW) hbase hl _ ⟨by omega,by omega⟩ n y1).mono ?_;rintro e w' ⟨h1,h2,h3⟩;exact⟨h1,h3⟩
 · refine amj (vs:= #[.pointer (some ⟨g,0,none⟩), .int .i64 (xo:Int)]) Tryz.call237 rfl (fun a ha=> ?_) fun W hW=> ?_
   · show [a.tmps.getD 14 undef,a.tmps.getD 16 undef]=_;rw[ha 14 (by decide),ha 16 (by decide)];rfl
   · refine(arw (aaA BC1.out hW) hbase hl _ ⟨by omega,by omega⟩ p y2).mono ?_;rintro e w' ⟨h1,h2,h3⟩;exact⟨h1,h3⟩
 · exact ajM rfl rfl (fun _=>rfl) fun ρ w=>ajy ρ _ rfl w
 · exact ajM rfl rfl (fun _=>rfl) fun ρ w=>ajy ρ _ rfl w
 intro p1 p2 w5 k1 k2 kne m1 m2 hb5;rw[f1,f2];unfold adb;refine au1 (t:= ?tl1) ?htl1 ?_
 case htl1=>simp only[pick,lE1,lE2,lE3];rfl
 simp only[Act.put,lE4,lE5,lE6];refine apF (gx:=p1) (p:=no) (q:=(nz:Int)) (r:=false) rfl rfl rfl rfl rfl m1 ?_;intro w6 n6 k6 b6;refine apF (gx:=p2) (p:=(wo:Int)) (q:=(pz:Int)) (r:=false) rfl rfl rfl rfl rfl ((k6 p2 (Ne.symm kne)).trans m2) ?_;intro w7 n7 k7 b7;have hb7:Below w1.heap.size w1.drew w7:=(hb5.trans (b6 _ k1)).trans (b7 _ k2);have n6:=(k7 p1 kne).trans n6;have nb:=(hb7.block w.heap.size hlt1).trans N1.out;have BC7:=hE0 (aaA BC1.out hb7);have h1:=amk BC7.out hbase hl ((xo:Int)+(xs:Int)) n hn e1;rw[f1]at h1;have H1:=hE0 h1;have K1:=hE0 k1;have K2:=hE0 k2;have KN:=hE0 kne;clear h1 hb5 hb7 k6 k7 b6 b7 m1 m2 d0 d1 d2 k1 k2 kne;have NB:=hE0 nb;have N6:=hE0 n6;have N7:=hE0 n7;obtain⟨⟨c0,c1,c2⟩,_⟩:=aad n6;clear nb n6 n7;have hlt6:=aaa N6.out;go_wp2_with fail
 refine H1.out.mono ?_;clear c0 c1 c2 hlt6;rintro e w8 ⟨rfl,hB8,hL8⟩;have n6:=hL8 _ _ N6.out;have n7:=hL8 _ _ N7.out;have nb:=hL8 _ _ NB.out;have h2:=amk hB8 hbase (by omega) (xo:Int) p hp e2;rw[f2]at h2;have H2:=hE0 h2;clear N6 N7 NB BC7 BC1 h2 hL8 hB8 H1;have NB:=hE0 nb;have N6:=hE0 n6;have N7:=hE0 n7;obtain⟨⟨c0,c1,c2⟩,_⟩:=aad n7;clear nb n6 n7;have hlt7:=aaa N7.out;go_wp2_with fail
 refine H2.out.mono ?_;clear c0 c1 c2 hlt7;rintro e w9 ⟨rfl,hB9,hL9⟩;have n6:=hL9 _ _ N6.out;have n7:=hL9 _ _ N7.out;have nb:=hL9 _ _ NB.out;have h3:=ahF hB9 hbase (by omega) wo ws false (by omega) (by omega) e3;rw[hwe,Int.natCast_add,Int.natCast_add]at h3;have H3:=hE0 h3;clear N6 N7 NB h3 hL9 hB9 H2;have N7:=hE0 n7;obtain⟨⟨c0,c1,c2⟩,_⟩:=aad n7;obtain⟨⟨d0,d1,d2⟩,_⟩:=aad nb;obtain⟨⟨g0,g1,g2⟩,_⟩:=aad n6;have hlt7:=aaa n7;have hlt6:=aaa n6;have hltb:=aaa nb;clear nb n6 n7;go_wp2_with fail
 refine H3.out.mono ?_;clear c0 c1 c2 d0 d1 d2 g0 g1 g2 hlt7 hlt6 hltb;rintro e w10 ⟨rfl,hB10,hL10⟩;have n7:=hL10 _ _ N7.out;have h4:=aue hB10 hbase (by omega) wo (by omega) e4;have H4:=hE0 h4;clear N7 h4 hL10 hB10 H3;obtain⟨⟨c0,c1,c2⟩,_⟩:=aad n7;have hlt7:=aaa n7;clear n7;go_wp2_with fail
 refine H4.out.mono ?_;clear c0 c1 c2 hlt7;rintro e w11 ⟨rfl,hB11,hL11⟩;have HB:=hE0 hB11;clear hB11 hL11 H4;go_wp2
 go_ret
 exact⟨rfl,(HH.out _ HB.out).2⟩
theorem apG{w1:World}(h:Became 195 g base cap A bs w w1) (hbase:base<=4611686018427387904) (hcap:cap<=16384) (hc:H.cap=cap) (hR:Rt bs H){A1 B1:List Bk}{p n:Option Bk}{xo xs:Nat}
 (hb:H.blks=(A1++p.toList)++⟨xo,xs,true⟩::(n.toList++B1)) (hN:ak4 A1 p n B1):
 Calls Tryz.prog 190 #[.pointer (some ⟨g,0,none⟩), .agg #[.int .i64 (xo:Int), .int .i64 (xs:Int), .bool true]] w1 fun e w2=>e= .returned .nilIface/\∃out,Became 195 g base cap A out w w2/\Rt out (H.give (A1++p.toList).length)/\
  ∀z∈H.blks,z.used=true->z≠⟨xo,xs,true⟩->∀i,Pay z i->out[i]?=bs[i]?:=by
 obtain⟨A',c',a,tc,k⟩:=h;refine(ajQ a hbase hcap hc hR hb hN).mono ?_;rintro e w2 ⟨h1,out,h2,h3⟩;exact⟨h1,out,Became.trans a tc k h2,h3⟩
end
section
variable {w w1:World} {g base cap:Nat} {A:Option Addr} {bs:List UInt8} {H:Hp}
theorem apH (h:Became 195 g base cap A bs w w1) (hR:Rt bs H){A0 B0:List Bk}{xo xs s:Nat}(hb:H.blks=A0++⟨xo,xs,true⟩::B0) (hxo:xo<=16384) (hxs:xs<=16384) (hle:s<=xs) (hlt:xs<s+32):
 Calls Tryz.prog 239 #[.pointer (some ⟨g,0,none⟩), .agg #[.int .i64 (xo:Int), .int .i64 (xs:Int), .bool true], .int .i64 (s:Int)] w1 fun e w2=>e= .returned .nilIface/\∃out,Became 195 g base cap A out w w2/\Rt out (H.cut A0.length s)/\
  Held H bs (H.cut A0.length s) out/\∀z∈H.blks,z.used=true->z.off≠xo->∀i,Pay z i->out[i]?=bs[i]?:=by
 obtain⟨hR2,hH⟩:=hR.uncut hb hlt;have HRH:=hE0 (show Rt bs (H.cut A0.length s)/\Held H bs (H.cut A0.length s) bs/\∀z∈H.blks,z.used=true->z.off≠xo->∀i,Pay z i->bs[i]?=bs[i]? from⟨hR2,hH,fun _ _ _ _ _ _=>rfl⟩);obtain⟨wa,hwa⟩:=nmE (w1.alloc (.cells #[.int .i64 (xo:Int), .int .i64 (xs:Int), .bool true] 112));have na:=anE hwa;have BCa:=aa1 h (.cells #[.int .i64 (xo:Int), .int .i64 (xs:Int), .bool true] 112);rw[hwa]at BCa;obtain⟨wb,hwb⟩:=nmE (wa.alloc (.cells #[.int .i64 ((xo:Int)+(s:Int)), .int .i64 ((xs:Int)-(s:Int)), .bool true] 112));have nb:=anE hwb;have BCb:=aa1 BCa (.cells #[.int .i64 ((xo:Int)+(s:Int)), .int .i64 ((xs:Int)-(s:Int)), .bool true] 112);rw[hwb]at BCb;have HB:=hE0 BCb;have HWA:=hE0 hwa;have HWB:=hE0 hwb;obtain⟨⟨c0,c1,c2⟩,_⟩:=aad na;obtain⟨⟨d0,d1,d2⟩,_⟩:=aad nb;have hlta:=aaa na;have hltb:=aaa nb;clear hR2 hH hR hwa hwb BCa BCb h na nb hb;go_enter Tryz.func239,Tryz.ntmps239
 go_wp2_with (first | (rw[HWA.out]) | (rw[HWB.out]) | fail)
 go_ret
 exact⟨rfl,bs,HB.out,HRH.out.1,HRH.out.2.1,fun _ _ _ _ _ _=>rfl⟩
theorem atb (h:Became 195 g base cap A bs w w1) (hbase:base<=4611686018427387904) (hcap:cap<=16384) (hc:H.cap=cap) (hR:Rt bs H){A0 B0:List Bk}{xo xs s:Nat}(hb:H.blks=A0++⟨xo,xs,true⟩::B0) (hs:aaD (s:Int)=true) (hle:s+32<=xs):
 Calls Tryz.prog 239 #[.pointer (some ⟨g,0,none⟩), .agg #[.int .i64 (xo:Int), .int .i64 (xs:Int), .bool true], .int .i64 (s:Int)] w1 fun e w2=>e= .returned .nilIface/\∃out,Became 195 g base cap A out w w2/\Rt out (H.cut A0.length s)/\
  Held H bs (H.cut A0.length s) out/\∀z∈H.blks,z.used=true->z.off≠xo->∀i,Pay z i->out[i]?=bs[i]?:=by
 obtain⟨b1,b2,H1,A1,B1,p,n,e1,e2,l1,l2,hc1,hR1,hb1,hN,hcut,hP⟩:=hR.cutting (by omega) hb hs hle;obtain⟨hl,hbd⟩:=hR.bound (by omega);have hx:=hbd ⟨xo,xs,true⟩ (by rw[hb];simp);dsimp only at hx;have hq:=(aac _).1 hs;have HG:=hE0 (fun w3 (h3:Became 195 g base cap A b2 w w3)=>apG h3 hbase hcap (by omega) hR1 hb1 hN);rw[hcut]at HG;have HP:=hE0 hP;obtain⟨wa,hwa⟩:=nmE (w1.alloc (.cells #[.int .i64 (xo:Int), .int .i64 (xs:Int), .bool true] 112));have na:=anE hwa;have BCa:=aa1 h (.cells #[.int .i64 (xo:Int), .int .i64 (xs:Int), .bool true] 112);rw[hwa]at BCa;obtain⟨wb,hwb⟩:=nmE (wa.alloc (.cells #[.int .i64 ((xo:Int)+(s:Int)), .int .i64 ((xs:Int)-(s:Int)), .bool true] 112));have nb:=anE hwb;have nab:wb.heap[w1.heap.size]?=some (.cells #[.int .i64 (xo:Int), .int .i64 (xs:Int), .bool true] 112 (0,0)):=by rw[<-hwb];exact(heap_alloc_old _ _ (aae na)).trans na
 have BCb:=aa1 BCa (.cells #[.int .i64 ((xo:Int)+(s:Int)), .int .i64 ((xs:Int)-(s:Int)), .bool true] 112);rw[hwb]at BCb;have hsz:w.heap.size<=w1.heap.size:=by obtain⟨_,_,_,ht,_⟩:=h;exact ht.size
 obtain⟨wc,hwc⟩:=nmE (wb.setCell ⟨w1.heap.size,1,none⟩ (.int .i64 (s:Int)));have nac:=heap_setCell_same wb w1.heap.size 1 _ _ (.int .i64 (s:Int)) nab;have nbc:=(Below.heap_setCell wb ⟨w1.heap.size,1,none⟩ (.int .i64 (s:Int)) wa.heap.size (fun e=>by have:=aae na;have e:wa.heap.size=w1.heap.size:=e;omega)).trans nb;have BCc:=ahE BCb nab hsz 1 (.int .i64 (s:Int));rw[hwc]at nac nbc BCc;have nac:wc.heap[w1.heap.size]?=some (.cells #[.int .i64 (xo:Int), .int .i64 (s:Int), .bool true] 112 (0,0)):=nac;have h1:=ahF BCc hbase hl xo s true (by omega) (by omega) e1;have H1':=hE0 h1;have E2:=hE0 e2;have NBC:=hE0 nbc;have HWA:=hE0 hwa;have HWB:=hE0 hwb;have HWC:=hE0 hwc;have NAC:=hE0 nac;obtain⟨⟨d0,d1,d2⟩,_⟩:=aad nb;obtain⟨⟨u0,u1,u2⟩,_⟩:=aad na;obtain⟨⟨c0,c1,c2⟩,f0,f1,f2⟩:=aad nab;obtain⟨⟨g0,g1,g2⟩,_⟩:=aad nac;have hlta:=aaa na;have hltb:=aaa nb;have hltc:=aaa nab;clear hR hwa hwb hwc BCa BCb BCc h na nb nab nac nbc hb hR1 hb1 hN hcut hP h1 e1 e2 hbd;go_enter Tryz.func239,Tryz.ntmps239
 go_wp2_with (first | (rw[HWA.out]) | (rw[HWB.out]) | (rw[HWC.out]) | fail)
 refine H1'.out.mono ?_;clear d0 d1 d2 u0 u1 u2 c0 c1 c2 f0 f1 f2 g0 g1 g2 hlta hltb hltc;rintro e wd ⟨rfl,hB1,hL1⟩;have nb:=hL1 _ _ NBC.out;have h2:=ahF hB1 hbase (by omega) (xo+s) (xs-s) true (by omega) (by omega) E2.out;have en:((xo+s:Nat):Int)=(xo:Int)+(s:Int):=Int.natCast_add _ _;have em:((xs-s:Nat):Int)=(xs:Int)-(s:Int):=Int.ofNat_sub (by omega);rw[en,em]at h2;have H2:=hE0 h2;have EN:=hE0 en;have EM:=hE0 em;have NB:=hE0 nb;clear hB1 hL1 NBC NAC HWA HWB HWC H1' h2 E2 en em;obtain⟨⟨d0,d1,d2⟩,_⟩:=aad nb;have hltb:=aaa nb;clear nb;go_wp2_with fail
 refine H2.out.mono ?_;clear d0 d1 d2 hltb;rintro e we ⟨rfl,hB2,hL2⟩;have nb:=hL2 _ _ NB.out;have h3:=HG.out we hB2;rw[EN.out,EM.out]at h3;have H3:=hE0 h3;clear hB2 hL2 NB H2 h3 HG;obtain⟨⟨d0,d1,d2⟩,_⟩:=aad nb;have hltb:=aaa nb;clear nb;go_wp2_with fail
 refine H3.out.mono ?_;clear d0 d1 d2 hltb;rintro e wf ⟨rfl,out,hB,hR,hP⟩;have HB:=hE0 hB;have HR:=hE0 hR;have HPP:=hE0 (HP.out out hP);clear hB hR hP H3 HP;go_wp2
 go_ret
 exact⟨rfl,out,HB.out,HR.out,HPP.out.1,HPP.out.2⟩
theorem apI (h:Became 195 g base cap A bs w w1) (hbase:base<=4611686018427387904) (hcap:cap<=16384) (hc:H.cap=cap) (hR:Rt bs H){A0 B0:List Bk}{xo xs s:Nat}(hb:H.blks=A0++⟨xo,xs,true⟩::B0) (hs:aaD (s:Int)=true) (hle:s<=xs):
 Calls Tryz.prog 239 #[.pointer (some ⟨g,0,none⟩), .agg #[.int .i64 (xo:Int), .int .i64 (xs:Int), .bool true], .int .i64 (s:Int)] w1 fun e w2=>e= .returned .nilIface/\∃out,Became 195 g base cap A out w w2/\Rt out (H.cut A0.length s)/\
  Held H bs (H.cut A0.length s) out/\∀z∈H.blks,z.used=true->z.off≠xo->∀i,Pay z i->out[i]?=bs[i]?:=by
 obtain⟨hl,hbd⟩:=hR.bound (by omega);have hx:=hbd ⟨xo,xs,true⟩ (by rw[hb];simp);dsimp only at hx;by_cases hlt:xs<s+32
 · exact apH h hR hb (by omega) (by omega) hle hlt
 · exact atb h hbase hcap hc hR hb hs (by omega)
end
theorem aiA{l:List Bk}{e:Nat}(ht:abr 184 l e){j:Nat}{x:Bk}{o:Int}(hx:l[j]?=some x) (ho:(x.off:Int)=o) (hu:x.used=true):(aaY l o).map (aam l)=some x:=by
 have hxm:=List.mem_of_getElem? hx;obtain⟨i,h1,h2,h3⟩:=ama ht hxm;unfold aaY;rw[<-ho,h1];dsimp only;rw[h3,hu,if_pos rfl,Option.map_some,h3]
theorem ajR{l:List Bk}{o:Int}(h:∀(i:Nat) (x:Bk),l[i]?=some x->¬((x.off:Int)=o/\x.used=true)):aaY l o=none:=by
 unfold aaY
 cases hi:atB o l with
 | none=>rfl
 | some i=>
  obtain⟨x,h1,h2⟩:=ab0 hi;dsimp only;rw[if_neg];intro hu;rw[aa6 h1]at hu;exact h i x h1 ⟨h2,hu⟩
theorem aeq{l:List Bk}{o:Int}{i:Nat}(h:aaY l o=some i):i<l.length/\((aam l i).off:Int)=o/\(aam l i).used=true:=by
 unfold aaY at h
 cases hi:atB o l with
 | none=>rw[hi]at h;cases h
 | some k=>
  rw[hi]at h;dsimp only at h;split at h
  · rename_i hu;injection h with h;subst h;obtain⟨x,h1,h2⟩:=ab0 hi;exact⟨aaG h1,by rw[aa6 h1];exact h2,hu⟩
  · cases h
theorem aiB{B:Nat}{w w':World}(h:Below B w w'){b j:Nat}{v:Value}(hc:w.cell? ⟨b,j,none⟩=some v) (hb:b<B):w'.cell? ⟨b,j,none⟩=some v:=
 (h.cell (p:=⟨b,j,none⟩) hb).trans hc
theorem arx:au6:=by
 intro w g base cap c A bs H o h hb hcap hc hR ho;obtain⟨l,hl⟩:=nmE H.blks;rw[hl];have hwk:=hR.walk;rw[hl]at hwk;have ht:=(aaj hwk).2.1;have hbl:=(hR.bound (by omega)).1;have hll:=ai7 hwk;obtain⟨y,hy⟩:=nmE ((aaY l o).map (aam l));rw[hy];have HHIT:Hid (∀(j:Nat) (x:Bk),l[j]?=some x->(x.off:Int)=o->x.used=true->some x=y):=fun j x hx ho hu=>by rw[<-hy];exact(aiA ht hx ho hu).symm
 have HMISS:Hid ((∀(i:Nat) (x:Bk),l[i]?=some x->¬((x.off:Int)=o/\x.used=true))->none=y):=fun hm=>by rw[<-hy,ajR hm];rfl
 obtain⟨w1,hw1⟩:=nmE (w.alloc (.cells #[.int .i64 0, .int .i64 0, .bool false] 112));have hb1:=abE hw1;have hn1:=anE hw1;have hW:=ajx w1 g base cap c A bs _ (h.below hb1) hb hbl hwk;dsimp only[acR,Option.isSome,Option.getD,aat]at hW;have HW:=hE0 hW;have HW1:=hE0 hw1;have HB1:=hE0 hb1;have HN1:=hE0 hn1;clear hW hw1 hb1 hn1 h hR hwk ht hy hl hb hcap hc;go_enter Tryz.func189,Tryz.ntmps189
 go_wp2_with fail
 rw[HW1.out]
 with_reducible refine HW.out.mono ?_
 rintro e w2 ⟨A2,c2,rfl,ho2,hb2⟩;have hcl:l.length<=c2/\c2<=9223372036854775807:=by
  rcases ho2.2 with⟨h',h0⟩ | ⟨_,_,_,h',_,_,h1,h2,_⟩
  · injection h' with _ _ e;rw[h0,e];omega
  · injection h' with _ _ e;unfold maxLen at h2;omega
 have HR:=hE0 (BkRd.of_own ho2);have HB2:=hE0 (HB1.out.trans (hb2.mono HB1.out.size));have HN2:=hE0 ((hb2.block w.heap.size (aae HN1.out)).trans HN1.out);clear ho2 hb2 HW HN1 HB1;go_wp2
 go_loopw [21] (fun t wr=>∃j:Nat,t= .int .i64 (j:Int)/\j<=l.length/\(∀(i:Nat) (x:Bk),i<j->l[i]?=some x->¬((x.off:Int)=o/\x.used=true))/\Below w2.heap.size w2 wr) (fun t _=>l.length-(intOf t).toNat)
 case atStart=>exact⟨0,rfl,Nat.zero_le _,fun i x hi=>absurd hi (Nat.not_lt_zero _),Below.refl _ _⟩
 case round=>
  obtain⟨j,rfl,hj,hno,hbe⟩:=hrel;have nl:=(hbe.block w.heap.size (aae HN2.out)).trans HN2.out;have hfin:=HB2.out.trans (hbe.mono HB2.out.size);by_cases hlt:j<l.length
  · obtain⟨x,hx⟩:∃x,l[j]?=some x:=⟨l[j],List.getElem?_eq_getElem hlt⟩;obtain⟨b2,q,rfl,hbb,hcl2⟩:=HR.out (by omega);obtain⟨p0,p1,p2⟩:=hcl2 j x hx;have r0:=aiB hbe p0 hbb;have r1:=aiB hbe p1 hbb;have r2:=aiB hbe p2 hbb;have HIT:=hE0 (HHIT.out j x hx);have HNO:Hid (¬((x.off:Int)=o/\x.used=true)->∀(i:Nat) (z:Bk),i<j+1->l[i]?=some z->¬((z.off:Int)=o/\z.used=true)):=fun hx2 i z hi hz=>by
     by_cases hij:i<j
     · exact hno i z hij hz
     · obtain rfl:i=j:=by omega
       rw[hx]at hz;injection hz with hz;rw[<-hz];exact hx2
    obtain⟨xo,xs,xu⟩:=x;dsimp only at p0 p1 p2 r0 r1 r2;obtain⟨w4,hw4⟩:=nmE (wr.alloc (.cells #[.int .i64 (xo:Int), .int .i64 (xs:Int), .bool xu] 112));have hb4:Below w2.heap.size w2 w4:=by rw[<-hw4];exact hbe.alloc hbe.size _
    have n4:=anE hw4;have nl4:w4.heap[w.heap.size]?=some (.cells #[.int .i64 0, .int .i64 0, .bool false] 112 (0,0)):=by rw[<-hw4];exact(heap_alloc_old _ _ (aae nl)).trans nl
    have hf4:Below w.heap.size w w4:=by rw[<-hw4];exact hfin.alloc hfin.size _
    obtain⟨⟨d0,d1,d2⟩,_⟩:=aad n4;have HW4:=hE0 hw4;have HB4:=hE0 hb4;have HF4:=hE0 hf4;have NL4:=hE0 nl4;have HNEQ:=hE0 (show wr.heap.size≠w.heap.size from fun e=>by have:=aae nl;omega);clear hx hbe p0 p1 p2 hb4 n4 hw4 hcl2 hno nl nl4 hf4 hfin;by_cases hxo:(xo:Int)=o
    · have e1:((xo:Int)==o)=true:=by rw[beq_iff_eq];exact hxo
      cases xu with
      | true=>
       obtain rfl:=HIT.out hxo rfl;obtain⟨⟨c0,c1,c2⟩,f0,f1,f2⟩:=aad NL4.out;have hlt4:=aaa NL4.out;clear hxo HHIT HMISS HIT HNO;go_wp2_with (first | (rw[HW4.out]) | fail)
       (try simp only[Exit.inBlock,Exit.then])
       refine abu (x:= .nilIface) (g:=w.heap.size) (o:=(xo:Int)) (s:=(xs:Int)) (b:=true) Tryz.results189 ?_ ?_ ?_ ?_ ?_
       · rfl
       · rfl
       · rfl
       · exact aav NL4.out _ _ _
       · exact⟨rfl,((HF4.out.setCell (Nat.le_refl _) _).setCell (Nat.le_refl _) _).setCell (Nat.le_refl _) _⟩
      | false=>
       have HNO2:=hE0 (HNO.out (fun hh=>by cases hh.2));clear hxo HHIT HMISS HIT HNO;go_wp2_with (first | (rw[HW4.out]) | fail)
       go_roundw
       case rel=>exact⟨j+1,by go_num,by omega,HNO2.out,HB4.out⟩
       case measure=>simp only[intOf];omega
    · have e1:((xo:Int)==o)=false:=by rw[beq_eq_false_iff_ne];exact hxo
      have HNO2:=hE0 (HNO.out (fun hh=>hxo hh.1));clear hxo HHIT HMISS HIT HNO;go_wp2_with (first | (rw[HW4.out]) | fail)
      go_roundw
      case rel=>exact⟨j+1,by go_num,by omega,HNO2.out,HB4.out⟩
      case measure=>simp only[intOf];omega
  · obtain rfl:=HMISS.out (fun i x hx=>hno i x (by have:=aaG hx;omega) hx);have NL:=hE0 nl;have HF:=hE0 hfin;obtain⟨⟨c0,c1,c2⟩,f0,f1,f2⟩:=aad NL.out;have hlt4:=aaa NL.out;clear hno hbe nl hfin HHIT HMISS;go_wp2
    (try simp only[Exit.inBlock,Exit.then])
    refine abu (x:= .iface 130 (.int .i64 3)) (g:=w.heap.size) (o:=0) (s:=0) (b:=false) Tryz.results189 ?_ ?_ ?_ ?_ ?_
    · rfl
    · rfl
    · rfl
    · exact aav NL.out _ _ _
    · exact⟨rfl,((HF.out.setCell (Nat.le_refl _) _).setCell (Nat.le_refl _) _).setCell (Nat.le_refl _) _⟩
section
variable {w:World} {g base cap c:Nat} {A:Option Addr} {bs:List UInt8} {H:Hp}
theorem auf:au4:=by
 intro w g base cap c A bs H o h hb hcap hc hR ho;have hU:=arx w g base cap c A bs H o h hb hcap hc hR ho;have BC:=hE0 (show Became 195 g base cap A bs w w from⟨A,c,h,Tch.refl _ _, .inl rfl⟩)
 cases hi:aaY H.blks o with
 | none=>
  have e:H.giveO o=none:=by unfold Hp.giveO;rw[hi];rfl
  rw[e];rw[hi]at hU;dsimp only[aay,bkV,Bk.val,Option.isSome,aat,Option.map]at hU;dsimp only[acS,aat];have HU:=hE0 hU;clear hU hi e h hR;go_enter Tryz.func127,Tryz.ntmps127
  go_wp2_with fail
  with_reducible refine HU.out.mono ?_
  rintro e w2 ⟨rfl,hb2⟩;have HB2:=hE0 (hb2.alloc hb2.size (.cells #[.int .i64 0, .int .i64 0, .bool false] 112));clear hb2 HU;go_wp2
  go_ret
  exact⟨rfl,HB2.out⟩
 | some i=>
  obtain⟨h1,h2,h3⟩:=aeq hi;have e:H.giveO o=some (H.give i):=by unfold Hp.giveO;rw[hi];rfl
  rw[e];rw[hi]at hU;obtain⟨m1,m2⟩:=aeR h1;obtain⟨A1,p,n,B1,eA,eB,hN⟩:=ak5 (H.blks.take i) (H.blks.drop (i+1));obtain⟨x,hx⟩:=nmE (aam H.blks i);rw[hx]at m1 h2 h3;have hm:Option.map (aam H.blks) (some i)=some x:=by rw[<-hx];rfl
  rw[hm]at hU;obtain⟨xo,xs,xu⟩:=x;dsimp only at h2 h3;subst h3;dsimp only[aay,bkV,Bk.val,Option.isSome,aat]at hU;dsimp only[acS,aat];have hbk:H.blks=(A1++p.toList)++⟨xo,xs,true⟩::(n.toList++B1):=by rw[<-eA,<-eB];exact m1
  have hlen:(A1++p.toList).length=i:=by rw[<-eA];exact m2
  have HG:=hE0 (fun w2 (hB:Became 195 g base cap A bs w w2)=>apG hB hb hcap hc hR hbk hN);have HHELD:=hE0 (fun out hP=>hR.gave (by omega) hbk hN (out:=out) hP);rw[hlen]at HG HHELD;have HU:=hE0 hU;clear hU hi e h hR eA eB hN hbk m1 m2 hm hx h2;go_enter Tryz.func127,Tryz.ntmps127
  go_wp2_with fail
  with_reducible refine HU.out.mono ?_
  rintro e w2 ⟨rfl,hb2⟩;obtain⟨w3,hw3⟩:=nmE (w2.alloc (.cells #[.int .i64 (xo:Int), .int .i64 (xs:Int), .bool true] 112));have n3:=anE hw3;have hb3:Below w.heap.size w w3:=by rw[<-hw3];exact hb2.alloc hb2.size _
  have HG3:=hE0 (HG.out w3 (aaA BC.out hb3));obtain⟨⟨d0,d1,d2⟩,_⟩:=aad n3;have hlt3:=aaa n3;have HW3:=hE0 hw3;clear hb2 HU HG BC hw3 n3 hb3;go_wp2_with (first | (rw[HW3.out]) | fail)
  refine HG3.out.mono ?_;clear d0 d1 d2 hlt3;rintro e w4 ⟨rfl,out,hB,hR,hP⟩;have HB:=hE0 hB;have HR:=hE0 hR;have HH:=hE0 (HHELD.out out hP);clear hB hR hP HG3 HHELD;go_wp2
  go_ret
  exact⟨rfl,out,HB.out,HR.out,HH.out⟩
theorem aug:au5:=by
 intro w g base cap c A bs H o s h hb hcap hc hR ho hsr;have hC:=ajf w s hsr;constructor
 · intro hs;have e:aap s= -1:=by simp[aap,hs]
   rw[e]at hC;dsimp only[aat];have HC:=hE0 hC;clear hC e hs h hR;go_enter Tryz.func191,Tryz.ntmps191
   go_wp2_with fail
   with_reducible refine HC.out.mono ?_
   rintro e w2 ⟨rfl,hb2⟩;have HB2:=hE0 hb2;clear hb2 HC;go_wp2
   go_ret
   exact⟨rfl,HB2.out⟩
 · intro hs;have hq:=(aac _).1 hs;obtain⟨n,rfl⟩:∃n:Nat,s=(n:Int):=⟨s.toNat,by omega⟩;rw[Int.toNat_natCast];obtain⟨k,hk,hk2⟩:=abs (x:=⟨0,n,false⟩) hs;have hk:aap (n:Int)=(k:Int):=hk;rw[hk]at hC;have HC:=hE0 hC;have BC:=hE0 (show Became 195 g base cap A bs w w from⟨A,c,h,Tch.refl _ _, .inl rfl⟩);have HU:=hE0 (fun w1 (hB:Below w.heap.size w w1)=>arx w1 g base cap c A bs H o (h.below hB) hb hcap hc hR ho)
   cases hi:aaY H.blks o with
   | none=>
    have e:H.trimO o n=none:=by unfold Hp.trimO;rw[hi]
    rw[e];rw[hi]at HU;dsimp only[aay,bkV,Bk.val,Option.isSome,aat,Option.map]at HU;dsimp only[acS,aat];clear hC hi e h hR hk;go_enter Tryz.func191,Tryz.ntmps191
    go_wp2_with fail
    with_reducible refine HC.out.mono ?_
    rintro e w1 ⟨rfl,hb1⟩;have HU1:=hE0 (HU.out w1 hb1);have HB1:=hE0 hb1;clear hb1 HC HU;go_wp2_with fail
    with_reducible refine HU1.out.mono ?_
    rintro e w2 ⟨rfl,hb2⟩;have hb2':=HB1.out.trans (hb2.mono HB1.out.size);have HB2:=hE0 (hb2'.alloc hb2'.size (.cells #[.int .i64 0, .int .i64 0, .bool false] 112));clear hb2 hb2' HU1;go_wp2
    go_ret
    exact⟨rfl,HB2.out⟩
   | some i=>
    obtain⟨h1,h2,h3⟩:=aeq hi;rw[hi]at HU;obtain⟨m1,m2⟩:=aeR h1;obtain⟨x,hx⟩:=nmE (aam H.blks i);rw[hx]at m1 h2 h3;have hm:Option.map (aam H.blks) (some i)=some x:=by rw[<-hx];rfl
    rw[hm]at HU;have hxb:=(hR.bound (by omega)).2 x (by rw[m1];simp);have hbl:=(hR.bound (by omega)).1;obtain⟨xo,xs,xu⟩:=x;dsimp only at h2 h3 hxb;subst h3;dsimp only[aay,bkV,Bk.val,Option.isSome,aat]at HU;by_cases hlt:xs<n
    · have e:H.trimO o n=none:=by unfold Hp.trimO;rw[hi];dsimp only;rw[hx];dsimp only;rw[if_pos hlt]
      rw[e];dsimp only[acS,aat];have e2:decide ((xs:Int)<(n:Int))=true:=decide_eq_true (by omega);clear hC hi e h hR hk m1 m2 hm hx h2;go_enter Tryz.func191,Tryz.ntmps191
      go_wp2_with fail
      with_reducible refine HC.out.mono ?_
      rintro e w1 ⟨rfl,hb1⟩;have HU1:=hE0 (HU.out w1 hb1);have HB1:=hE0 hb1;clear hb1 HC HU;go_wp2_with fail
      with_reducible refine HU1.out.mono ?_
      rintro e w2 ⟨rfl,hb2⟩;have hb2':=HB1.out.trans (hb2.mono HB1.out.size);have HB2:=hE0 (hb2'.alloc hb2'.size (.cells #[.int .i64 (xo:Int), .int .i64 (xs:Int), .bool true] 112));clear hb2 hb2' HU1;go_wp2
      go_ret
      exact⟨rfl,HB2.out⟩
    · have e:H.trimO o n=some (H.cut i n):=by unfold Hp.trimO;rw[hi];dsimp only;rw[hx];dsimp only;rw[if_neg hlt]
      rw[e];dsimp only[acS,aat];have HG:=hE0 (fun w2 (hB:Became 195 g base cap A bs w w2)=>apI hB hb hcap hc hR m1 hs (Nat.le_of_not_lt hlt));rw[m2]at HG;have e2:decide ((xs:Int)<(n:Int))=false:=decide_eq_false (by omega);clear hC hi e h hR hk m1 m2 hm hx h2;go_enter Tryz.func191,Tryz.ntmps191
      go_wp2_with fail
      with_reducible refine HC.out.mono ?_
      rintro e w1 ⟨rfl,hb1⟩;have HU1:=hE0 (HU.out w1 hb1);have HB1:=hE0 hb1;clear hb1 HC HU;go_wp2_with fail
      with_reducible refine HU1.out.mono ?_
      rintro e w2 ⟨rfl,hb2⟩;have hb2':=HB1.out.trans (hb2.mono HB1.out.size);obtain⟨w3,hw3⟩:=nmE (w2.alloc (.cells #[.int .i64 (xo:Int), .int .i64 (xs:Int), .bool true] 112));have n3:=anE hw3;have hb3:Below w.heap.size w w3:=by rw[<-hw3];exact hb2'.alloc hb2'.size _
      have HG3:=hE0 (HG.out w3 (aaA BC.out hb3));obtain⟨⟨d0,d1,d2⟩,_⟩:=aad n3;have hlt3:=aaa n3;have HW3:=hE0 hw3;clear hb2 hb2' HU1 HG BC hw3 n3 hb3;go_wp2_with (first | (rw[HW3.out]) | fail)
      refine HG3.out.mono ?_;clear d0 d1 d2 hlt3;rintro e w4 ⟨rfl,out,hB,hR,hH,_⟩;have HB:=hE0 hB;have HR:=hE0 hR;have HH:=hE0 hH;clear hB hR hH HG3;go_wp2
      go_ret
      exact⟨rfl,out,HB.out,HR.out,HH.out⟩
end
section
variable {w w1:World} {g base cap c:Nat} {A:Option Addr} {bs:List UInt8} {H:Hp}
theorem ajS (h:Became 195 g base cap A bs w w1) (hbase:base<=4611686018427387904) (hcap:cap<=16384) (hc:H.cap=cap) (hR:Rt bs H){A0 B0:List Bk}{xo xs s:Nat}(hb:H.blks=A0++⟨xo,xs,false⟩::B0) (hs:aaD (s:Int)=true) (hle:s<=xs):
 Calls Tryz.prog 235 #[.pointer (some ⟨g,0,none⟩), .int .i64 (xo:Int), .int .i64 (s:Int)] w1 fun e w2=>e= .returned .nilIface/\∃out,Became 195 g base cap A out w w2/\Rt out ((H.out A0.length).cut A0.length s)/\Held H bs ((H.out A0.length).cut A0.length s) out:=by
 obtain⟨b1,e1,e2,l1,l2,hblk,hR2,hP⟩:=hR.uses (by omega) hb rfl;dsimp only at e1 e2 l2 hblk hR2 hP;obtain⟨b2,hb2⟩:=nmE (aaT b1 ⟨xo,xs,true⟩);rw[hb2]at e2 l2 hR2 hP;have hM:=hR.md (by omega);obtain⟨hl,hbd⟩:=hR.bound (by omega);have hxm:(⟨xo,xs,false⟩:Bk)∈H.blks:=by rw[hb];simp
 have hx:=hbd _ hxm;dsimp only at hx;have hat:frO (aa2 bs (xo:Int))=some ⟨xo,xs,false⟩:=by
  have:=hM.ls.st.at_ _ hxm;dsimp only at this;rw[this];rfl
 have hcut:((H.out A0.length).use A0.length true).cut A0.length s=(H.out A0.length).cut A0.length s:=asZ (by show A0.length<H.blks.length;rw[hb];simp);have h1:=aud h hbase hl (xo:Int) (by omega) _ hat;dsimp only[frV]at h1;have H1:=hE0 h1;have HSZ:=hE0 (show w.heap.size<=w1.heap.size by obtain⟨_,_,_,ht,_⟩:=h;exact ht.size);have HO:=hE0 (fun w2 (hB:Became 195 g base cap A bs w w2)=>amk hB hbase hl (xo:Int) (some ⟨xo,xs,false⟩) (fun z hz=>by cases hz;dsimp only;omega) (b2:=b1) e1);have HS:=hE0 (fun w2 (hB:Became 195 g base cap A b1 w w2)=>ahF hB hbase (by omega) xo xs true (by omega) (by omega) e2);have HC:=hE0 (fun w2 (hB:Became 195 g base cap A b2 w w2)=>apI hB hbase hcap (H:=(H.out A0.length).use A0.length true) hc hR2 hblk hs hle);rw[hcut]at HC;have HH:=hE0 (fun out=>hR.usedHeld (by omega) hb (out:=out) (H3:=(H.out A0.length).cut A0.length s) hblk hP);dsimp only[frV]at HO;clear h1 hcut hat hx hxm hbd hM hb2 e1 e2 hblk hR2 hP hR hb h;go_enter Tryz.func235,Tryz.ntmps235
 go_wp2_with fail
 with_reducible refine H1.out.mono ?_
 rintro e w2 ⟨rfl,hB2,hb2⟩;obtain⟨w3,hw3⟩:=nmE (w2.alloc (.cells #[.int .i64 (xo:Int), .int .i64 (xs:Int), .bool false] 112));have n3:=anE hw3;have B3:=aa1 hB2 (.cells #[.int .i64 (xo:Int), .int .i64 (xs:Int), .bool false] 112);rw[hw3]at B3;have HO3:=hE0 (HO.out w3 B3);have HLE:=hE0 (Nat.le_trans HSZ.out hb2.size);obtain⟨⟨d0,d1,d2⟩,_⟩:=aad n3;have hlt3:=aaa n3;have N3:=hE0 n3;have HW3:=hE0 hw3;clear hB2 hb2 H1 HO hw3 n3 B3 HSZ;go_wp2_with (first | (rw[HW3.out]) | fail)
 refine HO3.out.mono ?_;clear d0 d1 d2 hlt3;rintro e w4 ⟨rfl,hB4,hL4⟩;have n4:=hL4 _ _ N3.out;obtain⟨w5,hw5⟩:=nmE (w4.setCell ⟨w2.heap.size,2,none⟩ (.bool true));have n5:=heap_setCell_same w4 w2.heap.size 2 _ _ (.bool true) n4;have B5:=ahE hB4 n4 HLE.out 2 (.bool true);rw[hw5]at n5 B5;have n5:w5.heap[w2.heap.size]?=some (.cells #[.int .i64 (xo:Int), .int .i64 (xs:Int), .bool true] 112 (0,0)):=n5;have HS5:=hE0 (HS.out w5 B5);obtain⟨⟨c0,c1,c2⟩,f0,f1,f2⟩:=aad n4;have hlt4:=aaa n4;obtain⟨⟨d0,d1,d2⟩,_⟩:=aad n5;have hlt5:=aaa n5;have N5:=hE0 n5;have HW5:=hE0 hw5;clear hB4 hL4 HO3 HS hw5 n4 n5 B5 N3;go_wp2_with (first | (rw[HW5.out]) | fail)
 refine HS5.out.mono ?_;clear c0 c1 c2 f0 f1 f2 hlt4 d0 d1 d2 hlt5;rintro e w6 ⟨rfl,hB6,hL6⟩;have n6:=hL6 _ _ N5.out;have HC6:=hE0 (HC.out w6 hB6);obtain⟨⟨d0,d1,d2⟩,_⟩:=aad n6;have hlt6:=aaa n6;clear hB6 hL6 HS5 HC n6 N5;go_wp2_with fail
 refine HC6.out.mono ?_;clear d0 d1 d2 hlt6;rintro e w7 ⟨rfl,out,hB,hR,_,hP⟩;have HB:=hE0 hB;have HR:=hE0 hR;have HHH:=hE0 (HH.out out hP);clear hB hR hP HC6 HH;go_wp2
 go_ret
 exact⟨rfl,out,HB.out,HR.out,HHH.out⟩
theorem ajT (h:Ar w 195 g base cap A c bs) (hbase:base<=4611686018427387904) (hcap:cap<=16384) (hl:bs.length<=cap) (p:Option Bk) (hp:frO (abD bs (bs.length:Int))=p) (s z:Nat) (hz:(p.map Bk.size).getD 0=z) (hzs:z<=s) (hs:s<=16384) (hlt:cap<bs.length+(s-z)):
 Calls Tryz.prog 234 #[.pointer (some ⟨g,0,none⟩), .int .i64 (s:Int)] w fun e w'=>e= .returned (.tuple #[.int .i64 0,aat false 5])/\Below w.heap.size w w':=by
 have HL:=hE0 (abF h);have h1:=adt h hbase (by omega) (bs.length:Int) (by omega) p hp;rw[afs,hz]at h1;obtain⟨fo,hfo⟩:∃fo:Int,(p.map fun z=>(z.off:Int)).getD (bs.length:Int)=fo:=⟨_,rfl⟩;rw[hfo]at h1;have H1:=hE0 h1;have HG:=hE0 (fun w2 (hB:Below w.heap.size w w2)=>aiV (h.below hB) (s-z) hl hcap hlt);have e1:((s-z:Nat):Int)=(s:Int)-(z:Int):=Int.ofNat_sub hzs;rw[e1]at HG;have hfz:z<=16384:=by omega
 dsimp only[aat];clear h1 hfo hz h hp hlt e1;go_enter Tryz.func234,Tryz.ntmps234
 go_wp2_with fail
 with_reducible refine HL.out.mono ?_
 rintro e w1 ⟨rfl,rfl⟩;go_wp2_with fail
 with_reducible refine H1.out.mono ?_
 rintro e w2 ⟨rfl,hb2⟩;obtain⟨w3,hw3⟩:=nmE (w2.alloc (.cells #[.int .i64 fo, .int .i64 (z:Int), .bool false] 112));have n3:=anE hw3;have hb3:Below w.heap.size w w3:=by rw[<-hw3];exact hb2.alloc hb2.size _
 have HG3:=hE0 (HG.out w3 hb3);obtain⟨⟨d0,d1,d2⟩,_⟩:=aad n3;have hlt3:=aaa n3;have HW3:=hE0 hw3;have HB3:=hE0 hb3;clear hb2 H1 HG HL hw3 n3 hb3;go_wp2_with (first | (rw[HW3.out]) | fail)
 refine HG3.out.mono ?_;clear d0 d1 d2 hlt3;rintro e w4 ⟨rfl,k,rfl⟩;have HB4:Hid (Below w.heap.size w (w3.drewN k)):=⟨HB3.out.os,HB3.out.tape,HB3.out.output,HB3.out.size,HB3.out.block⟩;clear HG3;go_wp2
 go_ret2
 exact⟨rfl,HB4.out⟩
theorem ajU (h:Ar w 195 g base cap A c bs) (hbase:base<=4611686018427387904) (hcap:cap<=16384) (hl:bs.length<=cap) (s z o:Nat) (hzs:z<=s) (hs:s<=16384) (ho:o<=16384) (hlt:bs.length+(s-z)<=cap) (b1 b2:List UInt8) (hl1:b1.length=bs.length+(s-z)) (e2:ad5 b1 (o:Int) (s:Int) true=some b2)
 (h1:Calls Tryz.prog 237 #[.pointer (some ⟨g,0,none⟩), .int .i64 (bs.length:Int)] w fun e w'=>e= .returned (.agg #[.int .i64 (o:Int), .int .i64 (z:Int), .bool false])/\Below w.heap.size w w')
 (hO:∀w2,Became 195 g base cap A (bs++List.replicate (s-z) 0) w w2->Calls Tryz.prog 238 #[.pointer (some ⟨g,0,none⟩), .agg #[.int .i64 (o:Int), .int .i64 (z:Int), .bool false]] w2 fun e w3=>e= .returned (.tuple #[])/\Became 195 g base cap A b1 w w3/\Loc w2 w3):
 Calls Tryz.prog 234 #[.pointer (some ⟨g,0,none⟩), .int .i64 (s:Int)] w fun e w'=>e= .returned (.tuple #[.int .i64 (o:Int),aat true 5])/\Became 195 g base cap A b2 w w':=by
 have HL:=hE0 (abF h);have H1:=hE0 h1;have BC:=hE0 (show Became 195 g base cap A bs w w from⟨A,c,h,Tch.refl _ _, .inl rfl⟩);have HG:=hE0 (fun w2 (hB:Became 195 g base cap A bs w w2)=>ata hB (s-z) hl hcap hlt);have HO:=hE0 hO;have hl1':b1.length<=16384:=by omega
 have HS:=hE0 (fun w2 c' A' (a:Ar w2 195 g base cap A' c' b1)=>auX w2 g base cap c' A' b1 (o:Int) (s:Int) true _ a hbase hl1' (by omega) (by omega) e2);dsimp only[ao1,aat]at HS;obtain⟨bz,hbz⟩:=nmE (bs++List.replicate (s-z) 0);have e3:((s-z:Nat):Int)=(s:Int)-(z:Int):=Int.ofNat_sub hzs;rw[hbz,e3]at HG;rw[hbz]at HO;have hfz:z<=16384:=by omega
 dsimp only[aat];clear h1 hO h hlt e3 e2 hl1 hl1' hbz;go_enter Tryz.func234,Tryz.ntmps234
 go_wp2_with fail
 with_reducible refine HL.out.mono ?_
 rintro e w1 ⟨rfl,rfl⟩;go_wp2_with fail
 with_reducible refine H1.out.mono ?_
 rintro e w2 ⟨rfl,hb2⟩;obtain⟨w3,hw3⟩:=nmE (w2.alloc (.cells #[.int .i64 (o:Int), .int .i64 (z:Int), .bool false] 112));have n3:=anE hw3;have hb3:Below w.heap.size w w3:=by rw[<-hw3];exact hb2.alloc hb2.size _
 have HG3:=hE0 (HG.out w3 (aaA BC.out hb3));obtain⟨⟨d0,d1,d2⟩,_⟩:=aad n3;have hlt3:=aaa n3;have HW3:=hE0 hw3;have N3:=hE0 n3;clear hb2 H1 HG HL hw3 n3 hb3 BC;go_wp2_with (first | (rw[HW3.out]) | fail)
 refine HG3.out.mono ?_;clear d0 d1 d2 hlt3;rintro e w4 ⟨rfl,hB4,hL4⟩;have n4:=hL4 _ _ N3.out;have HO4:=hE0 (HO.out w4 hB4);obtain⟨⟨d0,d1,d2⟩,_⟩:=aad n4;have hlt4:=aaa n4;have N4:=hE0 n4;clear hB4 hL4 HG3 HO n4 N3;go_wp2_with fail
 refine HO4.out.mono ?_;clear d0 d1 d2 hlt4;rintro e w5 ⟨rfl,hB5,hL5⟩;have n5:=hL5 _ _ N4.out;obtain⟨w6,hw6⟩:=nmE w5.drew;have n6:w6.heap[w2.heap.size]?=some (.cells #[.int .i64 (o:Int), .int .i64 (z:Int), .bool false] 112 (0,0)):=by rw[<-hw6];exact n5
 have B6:Became 195 g base cap A b1 w w6:=by rw[<-hw6];exact aaA hB5 (Below.refl _ _).drew
 obtain⟨A6,c6,a6,t6,k6⟩:=B6;have hnf:=aiz a6 n6;obtain⟨⟨d0,d1,d2⟩,_⟩:=aad n6;have HS6:=hE0 (HS.out w6 c6 A6 a6);have HFIN:=hE0 (fun w7 (hB:Became 195 g base cap A6 b2 w6 w7)=>Became.trans a6 t6 k6 hB);have HNF:=hE0 hnf;have HW6:=hE0 hw6;clear hB5 hL5 HO4 HS n5 N4 n6 a6 t6 k6 hw6 hnf;go_wp2_with fail
 refine abf (foot g A6) [([0,1,2,3,4,5,6],7)] [8,9] [] (by kernel_rfl) (by kernel_rfl) (by kernel_rfl) (fun _ _ _ _ _ h=>h) ?_;rw[HW6.out];clear HW6;have z0:∀z:LaterS (foot g A6) w6,z.val.cell? ⟨w2.heap.size,0,none⟩=some (.int .i64 (o:Int)):=fun z=>z.ext.cell d0 HNF.out;clear d0 d1 d2;refine abY (l:= ?seg1) ?hseg1 ?_
 case hseg1=>simp only[pick,lE1,lE2,lE3];rfl
 repeat (go_big_quiet_step (fail))
 refine wpQuiet_nil ?_;clear z0;refine acd (vs:= #[.pointer (some ⟨g,0,none⟩), .agg #[.int .i64 (o:Int), .int .i64 (s:Int), .bool true]]) Tryz.call217 rfl rfl rfl (R:=fun r w'=>r= .nilIface/\Became 195 g base cap A6 b2 w6 w') (HS6.out.mono ?_) ?_
 · rintro e w' ⟨rfl,hB⟩;have hB':=hB;obtain⟨_,_,_,ht,_⟩:=hB';exact⟨_,rfl,ht,rfl,hB⟩
 rintro r w7 _ ⟨rfl,hB7⟩;refine⟨foot g A6,fun _ _ h=>h,?_⟩;refine adf (l:= ?la4) (t:= []) ?hla4 ?htl4 ?_
 case hla4=>simp only[pick,lE1,lE2,lE3];rfl
 case htl4=>rfl
 simp only[Act.put,lE4,lE5,lE6];repeat (go_big_quiet_step (fail))
 refine wpQuiet_nil ?_;have HB7:=hE0 (HFIN.out w7 hB7);clear hB7 HFIN HS6;go_wp2
 go_ret2
 exact⟨rfl,HB7.out⟩
theorem aiC (h:Ar w 195 g base cap A c bs) (hbase:base<=4611686018427387904) (hcap:cap<=16384) (hl:bs.length<=cap) (p:Option Bk) (hp:frO (abD bs (bs.length:Int))=p) (s z o:Nat) (hz:(p.map Bk.size).getD 0=z) (hzs:z<=s) (hs:s<=16384) (ho:o<=16384)
 (hfo:(p.map fun z=>(z.off:Int)).getD (bs.length:Int)=(o:Int)) (hpz:∀y,p=some y->0<y.size/\y.off<=16384) (hlt:bs.length+(s-z)<=cap) (b1 b2:List UInt8) (e1:apw (bs++List.replicate (s-z) 0) p=some b1) (hl1:b1.length=bs.length+(s-z)) (e2:ad5 b1 (o:Int) (s:Int) true=some b2):
 Calls Tryz.prog 234 #[.pointer (some ⟨g,0,none⟩), .int .i64 (s:Int)] w fun e w'=>e= .returned (.tuple #[.int .i64 (o:Int),aat true 5])/\Became 195 g base cap A b2 w w':=by
 have ef:=afs (bs.length:Int) p;rw[hz,hfo]at ef;refine ajU h hbase hcap hl s z o hzs hs ho hlt b1 b2 hl1 e2 ?_ fun w2 hB=> ?_
 · rw[<-ef];exact adt h hbase (by omega) (bs.length:Int) (by omega) p hp
 · rw[<-ef];exact amk hB hbase (by rw[List.length_append,List.length_replicate];omega) (bs.length:Int) p hpz e1
end
theorem ann (w:World) (g base cap c:Nat) (A:Option Addr) (bs:List UInt8) (H:Hp) (n:Nat) (h:Ar w 195 g base cap A c bs) (hb:base<=4611686018427387904) (hcap:cap<=16384) (hc:H.cap=cap) (hR:Rt bs H) (hs:aaD (n:Int)=true) (hi:H.find n=none):
 Calls Tryz.prog 188 #[.pointer (some ⟨g,0,none⟩), .int .i64 (n:Int)] w fun e w'=>ab5 g base cap A bs H (H.take n) w e w':=by
 obtain⟨hbl,hbd⟩:=hR.bound (by omega);have hq:=(aac _).1 hs;have hF:=findC w g base cap c A bs (n:Int) h hb hbl ⟨by omega,by omega⟩;unfold ajA at hF;rw[if_pos hs]at hF;have hfi:=hR.finds hs;rw[hfi]at hF;dsimp only[Option.getD,Option.isSome,aat]at hF;have BC:=hE0 (show Became 195 g base cap A bs w w from⟨A,c,h,Tch.refl _ _, .inl rfl⟩);obtain⟨A0,p,b1,hpu,hfr,htl⟩:=hR.tail (by omega);have hlo:=hR.lost hs hi;have hlen:=hR.lenE;have hle:=hR.len;have hM:=hR.md (by omega);have ht:=hM.tl;rw[b1,aaC]at ht;obtain⟨t1,t2⟩:=ht;obtain⟨o,ho⟩:=nmE (184+aa7 A0);have hlen2:bs.length=o+aa7 p.toList:=by
  rw[<-hlen,b1,<-ho];unfold lenB;rw[aeC];omega
 obtain⟨z,hz⟩:=nmE (aa7 p.toList);have hpz:(p.map Bk.size).getD 0=z:=by rw[<-hz];cases p<;>simp[aa7]
 have hpo:∀y,p=some y->y.off=184+aa7 A0/\0<y.size:=fun y hy=>by
  have hyb:=hbd y (by rw[b1,hy];simp);rw[hy]at t2;obtain⟨t3,_⟩:=t2;exact⟨t3,by omega⟩
 have hfo:(p.map fun z=>(z.off:Int)).getD (bs.length:Int)=(o:Int):=by
  cases p with
  | none=>
   show(bs.length:Int)=(o:Int);rw[hlen2];simp[aa7]
  | some y=>
   show(y.off:Int)=(o:Int);rw[(hpo y rfl).1,ho]
 have hzn:z<=n:=by
  rw[<-hz]
  cases p with
  | none=>simp[aa7]
  | some y=>
   have:=hlo y (by rw[b1];simp) (hpu y rfl);simp[aa7];omega
 rw[hi]at hF;dsimp only[Option.map]at hF;have htz:aci H.blks=z:=htl.trans hz;by_cases hroom:cap<bs.length+(n-z)
 · have et:=apx hi (by rw[htz,hlen,hc];omega);rw[et];dsimp only[ab5];have HT:=hE0 (fun w2 (hB:Below w.heap.size w w2)=>ajT (h.below hB) hb hcap (by omega) p hfr n z hpz hzn (by omega) hroom);dsimp only[aat]at HT ⊢;have HF:=hE0 hF;clear hF hfi hi et hR h hbd hs b1 hpu hfr htl htz hlo hlen hle hM t1 t2 ho hlen2 hz hpz hpo hfo hroom;go_enter Tryz.func188,Tryz.ntmps188
   go_wp2_with fail
   with_reducible refine HF.out.mono ?_
   rintro e w2 ⟨rfl,hb2⟩;have HT2:=hE0 (HT.out w2 hb2);have HB2:=hE0 hb2;clear hb2 HF HT BC;go_wp2_with fail
   refine HT2.out.mono ?_;rintro e w4 ⟨rfl,hb4⟩;have HB4:=hE0 (HB2.out.trans (hb4.mono HB2.out.size));clear hb4 HT2 HB2;go_wp2
   go_ret2
   exact⟨rfl,HB4.out⟩
 · obtain⟨H',et,hb',hl',hc'⟩:=art hi (by rw[htz,hlen,hc];omega) b1 htl hpo;rw[et];dsimp only[ab5];obtain⟨q1,e1,e2,l1,l2,hRt,hP⟩:=hR.adds (by omega) b1 hpu (o:=o) (s:=n) (n:=n-z) ho.symm hs (by omega) (by omega);have hRR:=hRt H' (by rw[hb',ho]) hl' hc';have hHD:Held H bs H' (aaT q1 ⟨o,n,true⟩):=fun z hz hzu y _ _ _ i i1 i2 _=>hP z hz hzu i ⟨i1,i2⟩;rw[ho];obtain⟨b2,hb2⟩:=nmE (aaT q1 ⟨o,n,true⟩);rw[hb2]at e2 hRR hHD;have HT:=hE0 (fun w2 (hB:Below w.heap.size w w2)=>aiC (h.below hB) hb hcap (by omega) p hfr n z o hpz hzn (by omega) (by omega) hfo (fun y hy=>⟨(hpo y hy).2,by have:=(hpo y hy).1;omega⟩) (by omega) q1 b2 e1 l1 e2);dsimp only[aat]at HT ⊢;have HF:=hE0 hF;have HRR:=hE0 hRR;have HHD:=hE0 hHD;clear hF hfi hi et hR h hbd hs b1 hpu hfr htl htz hlo hlen hle hM t1 t2 ho hlen2 hz hpz hpo hfo hroom hb' hl' hc' e1 e2 l1 l2 hRt hP hRR hHD hb2;go_enter Tryz.func188,Tryz.ntmps188
   go_wp2_with fail
   with_reducible refine HF.out.mono ?_
   rintro e w2 ⟨rfl,hb2⟩;have HT2:=hE0 (HT.out w2 hb2);have HB2:=hE0 hb2;clear hb2 HF HT BC;go_wp2_with fail
   refine HT2.out.mono ?_;rintro e w4 ⟨rfl,hb4⟩;have HB4:=hE0 (hb4.after HB2.out);clear hb4 HT2 HB2;go_wp2
   go_ret2
   exact⟨rfl,b2,HB4.out,HRR.out,HHD.out⟩
theorem atc:au2:=by
 intro w g base cap c A bs H s h hb hcap hc hR hsr;obtain⟨hbl,hbd⟩:=hR.bound (by omega);have hF:=findC w g base cap c A bs s h hb hbl hsr;constructor
 · intro hs;unfold ajA at hF;rw[if_neg (by rw[hs];simp)]at hF;dsimp only[aat]at hF ⊢;have HF:=hE0 hF;clear hF hs h hR hbd;go_enter Tryz.func188,Tryz.ntmps188
   go_wp2_with fail
   with_reducible refine HF.out.mono ?_
   rintro e w2 ⟨rfl,hb2⟩;have HB2:=hE0 hb2;clear hb2 HF;go_wp2
   go_ret2
   exact⟨rfl,HB2.out⟩
 · intro hs;have hq:=(aac _).1 hs;unfold ajA at hF;rw[if_pos hs]at hF;obtain⟨n,rfl⟩:∃n:Nat,s=(n:Int):=⟨s.toNat,by omega⟩;rw[Int.toNat_natCast];have hfi:=hR.finds hs;rw[hfi]at hF;dsimp only[Option.getD,Option.isSome,aat]at hF;have BC:=hE0 (show Became 195 g base cap A bs w w from⟨A,c,h,Tch.refl _ _, .inl rfl⟩)
   cases hi:H.find n with
   | some i=>
    obtain⟨i1,i2,i3⟩:=hR.found hs hi;obtain⟨m1,m2⟩:=aeR i1;have et:=ars hi;obtain⟨x,hx⟩:=nmE (aam H.blks i);rw[hi]at hF;dsimp only[Option.map]at hF;rw[hx]at m1 i2 i3 et hF;have hxb:=hbd x (by rw[m1];simp);obtain⟨xo,xs,xu⟩:=x;dsimp only at i2 i3 hxb et hF;subst i3;rw[et];dsimp only[ab5,aat];have HT:=hE0 (fun w2 (hB:Became 195 g base cap A bs w w2)=>ajS hB hb hcap hc hR m1 hs i2);rw[m2]at HT;have HF:=hE0 hF;have e0:((xo:Int)==0)=false:=by rw[beq_eq_false_iff_ne];omega
    clear hF hfi hi et m1 m2 hx hR h hbd hs;go_enter Tryz.func188,Tryz.ntmps188
    go_wp2_with fail
    with_reducible refine HF.out.mono ?_
    rintro e w2 ⟨rfl,hb2⟩;have HT2:=hE0 (HT.out w2 (aaA BC.out hb2));clear hb2 HF HT BC;go_wp2_with fail
    refine HT2.out.mono ?_;rintro e w4 ⟨rfl,out,hB,hR,hH⟩;have HB:=hE0 hB;have HR:=hE0 hR;have HH:=hE0 hH;clear hB hR hH HT2;go_wp2
    go_ret2
    exact⟨rfl,out,HB.out,HR.out,HH.out⟩
   | none=>exact ann w g base cap c A bs H n h hb hcap hc hR hs hi
open Go.RowKit Go.Extern.Stop Go.Stop Go.Extern
theorem agA (v:Value) (w:World):(Extern.ReflectliteType.typeOf #[.iface 130 v]).run Tryz.prog w= .ok (.iface 314 (.agg #[.pointer (some ⟨1,130,none⟩)])) w:=by kernel_rfl
def apJ:Array Value->Sem Value:=Extern.ReflectliteType.method fun t=>do Extern.Rtype.noPackHeld "Comparable" t;pure (.bool (<-typeInfo t).comparable)
theorem adZ (w:World):(apJ #[.agg #[.pointer (some ⟨1,130,none⟩)]]).run Tryz.prog w= .ok (.bool true) w:=by kernel_rfl
theorem aft (v:Value) (w:World):(Go.method 476 314 v "Comparable").run Tryz.prog w= .ok (304,v) w:=by kernel_rfl
theorem apK (v:Value) (xT:TypeId) (w:World):(Instr.typeAssert (.iface 130 v) xT 336 true).run Tryz.prog w= .ok (.tuple #[.nilIface, .bool false]) w:=run_typeAssert_lacksB Tryz.underlying336 (by kernel_rfl) (by kernel_rfl) v xT w
theorem aiD (v:Value) (xT:TypeId) (w:World):(Instr.typeAssert (.iface 130 v) xT 321 true).run Tryz.prog w= .ok (.tuple #[.nilIface, .bool false]) w:=run_typeAssert_lacksB Tryz.underlying321 (by kernel_rfl) (by kernel_rfl) v xT w
theorem ag0 (v:Value) (xT:TypeId) (w:World):(Instr.typeAssert (.iface 130 v) xT 322 true).run Tryz.prog w= .ok (.tuple #[.nilIface, .bool false]) w:=run_typeAssert_lacksB Tryz.underlying322 (by kernel_rfl) (by kernel_rfl) v xT w
theorem ano (w:World):(binOp .eql 31 (.iface 130 (.int .i64 1)) (.iface 130 (.int .i64 1))).run Tryz.prog w= .ok (.bool true) w:=by kernel_rfl
theorem anp (w:World):(binOp .eql 31 (.iface 130 (.int .i64 3)) (.iface 130 (.int .i64 1))).run Tryz.prog w= .ok (.bool false) w:=by kernel_rfl
theorem au7 (w:World):
 Calls Tryz.prog 192 #[.iface 130 (.int .i64 1), .iface 130 (.int .i64 1)] w fun e w'=>e= .returned (.bool true)/\w'=w:=by
 have h8:= @run_callFunc_extern Tryz.prog 240 _ Extern.ReflectliteType.typeOf Tryz.func240 (by kernel_rfl) (by kernel_rfl) (by kernel_rfl) (by kernel_rfl);have h32:= @run_callFunc_extern Tryz.prog 304 _ apJ Tryz.func304 (by kernel_rfl) (by kernel_rfl) (by kernel_rfl) (by kernel_rfl);have tT:=agA;have cT:=adZ;have mR:=aft;have heq:=ano;go_enter Tryz.func192,Tryz.ntmps192
 go_wp2
 refine wp_loop_rounds 1 ?_;rw[rounds_succ];go_wp2
 go_ret
 exact⟨rfl,rfl⟩
theorem auh (w:World):
 Calls Tryz.prog 192 #[.iface 130 (.int .i64 3), .iface 130 (.int .i64 1)] w fun e w'=>e= .returned (.bool false)/\w'=w:=by
 have h8:= @run_callFunc_extern Tryz.prog 240 _ Extern.ReflectliteType.typeOf Tryz.func240 (by kernel_rfl) (by kernel_rfl) (by kernel_rfl) (by kernel_rfl);have h32:= @run_callFunc_extern Tryz.prog 304 _ apJ Tryz.func304 (by kernel_rfl) (by kernel_rfl) (by kernel_rfl) (by kernel_rfl);have tT:=agA;have cT:=adZ;have mR:=aft;have nE:=apK;have uE:=aiD;have vE:=ag0;have heq:=anp;go_enter Tryz.func192,Tryz.ntmps192
 go_wp2
 refine wp_loop_rounds 1 ?_;rw[rounds_succ];go_wp2
 go_ret
 exact⟨rfl,rfl⟩
def ETV:Value:= .iface 314 (.agg #[.pointer (some ⟨1,31,none⟩)])
def ET (w:World):Prop:=w.cell? ⟨0,0,none⟩=some (.iface 314 (.agg #[.pointer (some ⟨1,31,none⟩)]))
theorem aui (t:Value) (w:World):
 Calls Tryz.prog 133 #[.nilIface,t] w fun e w'=>e= .returned (.bool false)/\w'=w:=by
 go_enter Tryz.func133,Tryz.ntmps133
 go_wp2
 go_ret
 exact⟨rfl,rfl⟩
theorem alf (t:Addr) (w:World):(ReflectliteValue.unpack (.iface 217 (.pointer (some t)))).run Tryz.prog w
 = .ok (.agg #[.pointer (some ⟨1,217,none⟩), .pointer (some ⟨w.heap.size,0,none⟩), .int .u64 150]) (w.alloc (.cells #[.pointer (some t)] 217)):=by kernel_rfl
theorem ary (a:Addr) (w:World):(ReflectliteValue.methodAny (ReflectliteValue.valueError "reflectlite.Value.Type" 0) (fun t _ _ _=>ReflectliteType.toType t) #[.agg #[.pointer (some ⟨1,217,none⟩), .pointer (some a), .int .u64 150]]).run Tryz.prog w
 = .ok (.iface 314 (.agg #[.pointer (some ⟨1,217,none⟩)])) w:=by kernel_rfl
theorem aiE (h:Value) (w:World):(Go.method 476 314 (.agg #[h]) "Kind").run Tryz.prog w= .ok (295,h) w:=by kernel_rfl
theorem arz (w:World):((ReflectliteType.abiMethod fun t=>(fun a:Nat=>Value.int IntKind.u8 (a:Int))<$>Rtype.kind t) #[.pointer (some ⟨1,217,none⟩)]).run Tryz.prog w= .ok (.int .u8 22) w:=by kernel_rfl
theorem arA (w:World):((ReflectliteType.abiMethod fun t=>(fun a:Nat=>Value.int IntKind.u8 (a:Int))<$>Rtype.kind t) #[.pointer (some ⟨1,130,none⟩)]).run Tryz.prog w= .ok (.int .u8 2) w:=by kernel_rfl
theorem asd (z:Sem Value) (f:TypeId->Addr->Nat->Nat->Sem Value) (v:Value):
 ReflectliteValue.method z f #[v]=(do match<-ReflectliteValue.parts v with | none=>z | some (t,a,fl)=>f t a fl (fl%32)):=rfl
theorem ajV (a:Addr) (w:World):(ReflectliteValue.parts (.agg #[.pointer (some ⟨1,217,none⟩), .pointer (some a), .int .u64 150])).run Tryz.prog w= .ok (some (217,a,150)) w:=by kernel_rfl
theorem apL (a p:Addr) (W:World) (ha:W.cell? a=some (.pointer (some p))):
 (ReflectliteValue.method (ReflectliteValue.valueError "reflectlite.Value.IsNil" 0) ReflectliteValue.isNil #[.agg #[.pointer (some ⟨1,217,none⟩), .pointer (some a), .int .u64 150]]).run Tryz.prog W= .ok (.bool false) W:=by
 rw[asd];simp only[Sem.run_bind,ajV,Result.andThen];simp[ReflectliteValue.isNil,loadVar,isAgg,underlying,Tryz.underlying217,ha,Result.andThen]
theorem aiF (h:Value) (w:World):(Go.method 476 314 (.agg #[h]) "Elem").run Tryz.prog w= .ok (305, .agg #[h]) w:=by kernel_rfl
theorem aer (h:Value) (w:World):(Go.method 476 314 (.agg #[h]) "Implements").run Tryz.prog w= .ok (306, .agg #[h]) w:=by kernel_rfl
theorem ad0 (h:Value) (w:World):(Go.method 476 314 (.agg #[h]) "AssignableTo").run Tryz.prog w= .ok (303, .agg #[h]) w:=by kernel_rfl
theorem arB (w:World):(ReflectliteType.method ReflectliteType.elem #[.agg #[.pointer (some ⟨1,217,none⟩)]]).run Tryz.prog w= .ok (.iface 314 (.agg #[.pointer (some ⟨1,130,none⟩)])) w:=by kernel_rfl
theorem arC (w:World):(ReflectliteType.relation "Implements" ReflectliteType.implements_ #[.agg #[.pointer (some ⟨1,130,none⟩)], .iface 314 (.agg #[.pointer (some ⟨1,31,none⟩)])]).run Tryz.prog w= .ok (.bool true) w:=by kernel_rfl
theorem anq (v:Value) (w:World):(ReflectliteType.typeOf #[.iface 130 v]).run Tryz.prog w= .ok (.iface 314 (.agg #[.pointer (some ⟨1,130,none⟩)])) w:=by kernel_rfl
theorem anr (w:World):(ReflectliteType.relation "AssignableTo" ReflectliteType.assignableTo #[.agg #[.pointer (some ⟨1,130,none⟩)], .iface 314 (.agg #[.pointer (some ⟨1,130,none⟩)])]).run Tryz.prog w= .ok (.bool true) w:=by kernel_rfl
theorem alg (k:Int) (w:World):(ReflectliteValue.unpack (.iface 130 (.int .i64 k))).run Tryz.prog w
 = .ok (.agg #[.pointer (some ⟨1,130,none⟩), .pointer (some ⟨w.heap.size,0,none⟩), .int .u64 130]) (w.alloc (.cells #[.int .i64 k] 130)):=by kernel_rfl
theorem ans (w:World):(Rtype.elem? 217).run Tryz.prog w= .ok (some 130) w:=by kernel_rfl
theorem auj (p:Addr) (w:World):(ReflectliteValue.mk 130 p ReflectliteValue.flagAddr).run Tryz.prog w= .ok (.agg #[.pointer (some ⟨1,130,none⟩), .pointer (some p), .int .u64 386]) w:=by kernel_rfl
theorem apM (a p:Addr) (W:World) (ha:W.cell? a=some (.pointer (some p))):
 (ReflectliteValue.method (ReflectliteValue.valueError "reflectlite.Value.Elem" 0) ReflectliteValue.elem #[.agg #[.pointer (some ⟨1,217,none⟩), .pointer (some a), .int .u64 150]]).run Tryz.prog W
  = .ok (.agg #[.pointer (some ⟨1,130,none⟩), .pointer (some p), .int .u64 386]) W:=by
 rw[asd];simp only[Sem.run_bind,ajV,Result.andThen];simp[ReflectliteValue.elem,loadVar,isAgg,underlying,Tryz.underlying217,ha,Result.andThen,ans,auj]
theorem auk (v x:Value):ReflectliteValue.set #[v,x]=(do
 let (some (dst,a,fl),some (src,b,_)):=(<-ReflectliteValue.parts v,<-ReflectliteValue.parts x)
  | unsupported (.noEntry "extern/(internal/reflectlite.Value).Set.zeroValue")
 if fl/ReflectliteValue.flagAddr%2==0 then unsupported (.noEntry "extern/(internal/reflectlite.Value).Set.unaddressable")
 let val<-loadVar src b
 if<-Rtype.directlyAssignable dst src then storeVar dst a val
 else if<-Rtype.implements dst src then
  if (<-Rtype.kind src)==20 then
   match val with
   | .nilIface=>unsupported (.noEntry "extern/reflectlite: a nil value of one interface type handed on as a value of another")
   | _=>storeVar dst a val
  else storeVar dst a (.iface src val)
 else panicString ("reflectlite.Set: value of type " ++(<-Rtype.spelt src)++ " is not assignable to type " ++(<-Rtype.spelt dst))
 pure (.tuple #[])):=rfl
theorem ant (a:Addr) (w:World):(ReflectliteValue.parts (.agg #[.pointer (some ⟨1,130,none⟩), .pointer (some a), .int .u64 386])).run Tryz.prog w= .ok (some (130,a,386)) w:=by kernel_rfl
theorem apN (a:Addr) (w:World):(ReflectliteValue.parts (.agg #[.pointer (some ⟨1,130,none⟩), .pointer (some a), .int .u64 130])).run Tryz.prog w= .ok (some (130,a,130)) w:=by kernel_rfl
theorem anu (w:World):(Rtype.directlyAssignable 130 130).run Tryz.prog w= .ok true w:=by kernel_rfl
theorem atd (ta b:Addr) (k:Int) (old:Value) (W:World) (hb:W.cell? b=some (.int .i64 k)) (ht:W.cell? ta=some old) (hf:W.frozen? ta=false):
 (ReflectliteValue.set #[.agg #[.pointer (some ⟨1,130,none⟩), .pointer (some ta), .int .u64 386], .agg #[.pointer (some ⟨1,130,none⟩), .pointer (some b), .int .u64 130]]).run Tryz.prog W
  = .ok (.tuple #[]) (W.setCell ta (.int .i64 k)):=by
 rw[auk];simp only[Sem.run_bind,ant,apN,Result.andThen];simp[ReflectliteValue.flagAddr,loadVar,isAgg,underlying,Tryz.underlying130,hb,Result.andThen,anu,storeVar,Value.cells,storeCells,Addr.add];rw[run_store Tryz.prog W ta _ _ (by rfl)];simp[ht,hf]
theorem aul (k:Int) (t:Addr) (old:Value) (w:World) (hg:ET w) (ht0:w.cell? t=some old) (hf0:w.frozen? t=false):
 Calls Tryz.prog 133 #[.iface 130 (.int .i64 k), .iface 217 (.pointer (some t))] w fun ev w'=>ev= .returned (.bool true)/\w'=((((w.alloc (.cells #[.pointer (some t)] 217)).alloc (.cells #[.pointer (some ⟨1,217,none⟩), .pointer (some ⟨w.heap.size,0,none⟩), .int .u64 150] 267)).alloc (.cells #[.pointer (some ⟨1,217,none⟩), .pointer (some ⟨w.heap.size,0,none⟩), .int .u64 150] 267)).alloc (.cells #[.int .i64 k] 130)).setCell t (.int .i64 k):=by
 unfold ET at hg;have h6:= @run_callFunc_extern Tryz.prog 195 _ (fun args=>ReflectliteValue.unpack (args.getD 0 (.tuple #[]))) Tryz.func195 (by kernel_rfl) (by kernel_rfl) (by kernel_rfl) (by kernel_rfl);have h7:= @run_callFunc_extern Tryz.prog 196 _ (ReflectliteValue.methodAny (ReflectliteValue.valueError "reflectlite.Value.Type" 0) (fun t _ _ _=>ReflectliteType.toType t)) Tryz.func196 (by kernel_rfl) (by kernel_rfl) (by kernel_rfl) (by kernel_rfl);have h8:= @run_callFunc_extern Tryz.prog 197 _ (ReflectliteValue.method (ReflectliteValue.valueError "reflectlite.Value.IsNil" 0) ReflectliteValue.isNil) Tryz.func197 (by kernel_rfl) (by kernel_rfl) (by kernel_rfl) (by kernel_rfl);have h27:= @run_callFunc_extern Tryz.prog 295 _ (ReflectliteType.abiMethod fun t=>do pure (.int .u8 (<-Rtype.kind t))) Tryz.func295 (by kernel_rfl) (by kernel_rfl) (by kernel_rfl) (by kernel_rfl);have h37:= @run_callFunc_extern Tryz.prog 305 _ (ReflectliteType.method ReflectliteType.elem) Tryz.func305 (by kernel_rfl) (by kernel_rfl) (by kernel_rfl) (by kernel_rfl);have h38:= @run_callFunc_extern Tryz.prog 306 _ (ReflectliteType.relation "Implements" ReflectliteType.implements_) Tryz.func306 (by kernel_rfl) (by kernel_rfl) (by kernel_rfl) (by kernel_rfl);have h10:= @run_callFunc_extern Tryz.prog 240 _ ReflectliteType.typeOf Tryz.func240 (by kernel_rfl) (by kernel_rfl) (by kernel_rfl) (by kernel_rfl);have h35:= @run_callFunc_extern Tryz.prog 303 _ (ReflectliteType.relation "AssignableTo" ReflectliteType.assignableTo) Tryz.func303 (by kernel_rfl) (by kernel_rfl) (by kernel_rfl) (by kernel_rfl);have h11:= @run_callFunc_extern Tryz.prog 246 _ (ReflectliteValue.method (ReflectliteValue.valueError "reflectlite.Value.Elem" 0) ReflectliteValue.elem) Tryz.func246 (by kernel_rfl) (by kernel_rfl) (by kernel_rfl) (by kernel_rfl);have h12:= @run_callFunc_extern Tryz.prog 247 _ ReflectliteValue.set Tryz.func247 (by kernel_rfl) (by kernel_rfl) (by kernel_rfl) (by kernel_rfl);have tO:=anq;have mA:=ad0;have a25:=anr;have v25:=alg;have f6:=alf;have f7:=ary;have mK:=aiE;have mE:=aiF;have mI:=aer;have k27:=arz;have k25:=arA;have e27:=arB;have i25:=arC;have n8:=apL ⟨w.heap.size,0,none⟩ t ((w.alloc (.cells #[.pointer (some t)] 217)).alloc (.cells #[.pointer (some ⟨1,217,none⟩), .pointer (some ⟨w.heap.size,0,none⟩), .int .u64 150] 267)) (by simp);have hlt:0<w.heap.size:=by
  rcases Nat.eq_zero_or_pos w.heap.size with h0 | h
  · simp[World.cell?,h0]at hg
  · exact h
 have hg2:((w.alloc (.cells #[.pointer (some t)] 217)).alloc (.cells #[.pointer (some ⟨1,217,none⟩), .pointer (some ⟨w.heap.size,0,none⟩), .int .u64 150] 267)).cell? ⟨0,0,none⟩=some (.iface 314 (.agg #[.pointer (some ⟨1,31,none⟩)])):=by
  rw[World.cell?_alloc_lt _ _ ⟨0,0,none⟩ (by simp),World.cell?_alloc_lt _ _ ⟨0,0,none⟩ hlt];exact hg
 have htl:t.block<w.heap.size:=by
  rcases Nat.lt_or_ge t.block w.heap.size with h | h
  · exact h
  · simp[World.cell?,Array.getElem?_eq_none h]at ht0
 have el:=apM ⟨w.heap.size,0,none⟩ t (((w.alloc (.cells #[.pointer (some t)] 217)).alloc (.cells #[.pointer (some ⟨1,217,none⟩), .pointer (some ⟨w.heap.size,0,none⟩), .int .u64 150] 267)).alloc (.cells #[.pointer (some ⟨1,217,none⟩), .pointer (some ⟨w.heap.size,0,none⟩), .int .u64 150] 267)) (by rw[World.cell?_alloc_lt _ _ ⟨w.heap.size,0,none⟩ (by simp;omega)];simp);have st:=atd t ⟨w.heap.size+1+1+1,0,none⟩ k old ((((w.alloc (.cells #[.pointer (some t)] 217)).alloc (.cells #[.pointer (some ⟨1,217,none⟩), .pointer (some ⟨w.heap.size,0,none⟩), .int .u64 150] 267)).alloc (.cells #[.pointer (some ⟨1,217,none⟩), .pointer (some ⟨w.heap.size,0,none⟩), .int .u64 150] 267)).alloc (.cells #[.int .i64 k] 130))
  (by rw[World.cell?_alloc_at _ _ _ _ (by simp)];rfl)
  (by rw[World.cell?_alloc_lt _ _ t (by simp;omega),World.cell?_alloc_lt _ _ t (by simp;omega),World.cell?_alloc_lt _ _ t (by simp;omega),World.cell?_alloc_lt _ _ t htl];exact ht0)
  (by rw[World.frozen?_alloc_old _ _ t (by simp;omega),World.frozen?_alloc_old _ _ t (by simp;omega),World.frozen?_alloc_old _ _ t (by simp;omega),World.frozen?_alloc_old _ _ t (Nat.ne_of_lt htl)];exact hf0)
 go_enter Tryz.func133,Tryz.ntmps133
 go_wp2
 refine wp_loop_rounds 1 ?_;rw[rounds_succ];go_wp2
 go_ret
 exact⟨rfl,rfl⟩
def RezTold (g base cap:Nat) (A:Option Addr) (bs:List UInt8) (H:Hp) (o:Int) (r:(Nat × Int) × Hp) (w:World) (e:Ending) (w':World):Prop:=
 (r.1.2=0->e= .returned (.tuple #[.int .i64 (r.1.1:Int),aat true 0])/\∃out,Became 195 g base cap A out w w'/\Rt out r.2/\Held H bs r.2 out/\aiv H bs o r.2 out r.1.1)/\
 (r.1.2≠0->e= .returned (.tuple #[.int .i64 0,aat false r.1.2])/\Below w.heap.size w w')
def ate:Prop:=∀(w:World) (g base cap c:Nat) (A:Option Addr) (bs:List UInt8) (H:Hp) (o s:Int),Ar w 195 g base cap A c bs->base<=4611686018427387904->cap<=16384->H.cap=cap->Rt bs H->(-9223372036854775808<=o/\o<=9223372036854775807)->(-9223372036854775808<=s/\s<=9223372036854775807)->
 (aaD s=false->Calls Tryz.prog 129 #[.pointer (some ⟨g,0,none⟩), .int .i64 o, .int .i64 s] w fun e w'=>e= .returned (.tuple #[.int .i64 0,aat false 1])/\Below w.heap.size w w')/\
 (aaD s=true->Calls Tryz.prog 129 #[.pointer (some ⟨g,0,none⟩), .int .i64 o, .int .i64 s] w fun e w'=>RezTold g base cap A bs H o (H.resize o s.toNat) w e w')
section
variable {w w1:World} {g base cap c:Nat} {A:Option Addr} {bs b1 b2:List UInt8}
theorem ahG (o:Int):
 Calls Tryz.prog 244 #[.int .i64 o, .nilIface] w fun e w'=>e= .returned (.tuple #[.int .i64 o, .nilIface])/\w'=w:=by
 go_enter Tryz.func244,Tryz.ntmps244
 go_wp2
 go_ret2
 exact⟨rfl,rfl⟩
theorem ahH (h:Ar w 195 g base cap A c bs) (hb:base<=4611686018427387904) (o:Nat) (ho:o<=16384):
 Calls Tryz.prog 273 #[.pointer (some ⟨g,0,none⟩), .int .i64 (o:Int)] w fun e w'=>e= .returned (.int .u64 ((base+o+8:Nat):Int))/\w=w':=by
 have HB:=hE0 (acc h);have e1:IntKind.u64.wrap (o:Int)=(o:Int):=IntWalk.u64_in _ (by omega);have e2:IntKind.u64.wrap ((base:Int)+(o:Int))=(base:Int)+(o:Int):=IntWalk.u64_in _ (by omega);have e3:IntKind.u64.wrap ((base:Int)+(o:Int)+8)=(base:Int)+(o:Int)+8:=IntWalk.u64_in _ (by omega);clear h;go_enter Tryz.func273,Tryz.ntmps273
 go_wp2_with fail
 with_reducible refine HB.out.mono ?_
 rintro e w' ⟨rfl,rfl⟩;go_wp2
 go_ret
 exact⟨by push_cast;rfl,rfl⟩
theorem alh (h:Ar w 195 g base cap A c bs) (hb:base<=4611686018427387904) (hl:bs.length<=16384) (xo xs:Nat) (hxo:xo<=16384) (hxs:xs<=16384) (hy:aa2 bs ((xo:Int)+(xs:Int))=none):
 Calls Tryz.prog 242 #[.pointer (some ⟨g,0,none⟩), .agg #[.int .i64 (xo:Int), .int .i64 (xs:Int), .bool true]] w fun e w'=>e= .returned (frV 0 none)/\Below w.heap.size w w':=by
 obtain⟨w0,hw0⟩:=nmE (w.alloc (.cells #[.int .i64 (xo:Int), .int .i64 (xs:Int), .bool true] 112));have hb0:=abE hw0;have n0:=anE hw0;have z0:w0.heap.size=w.heap.size+1:=by rw[<-hw0];simp only[World.alloc,Array.size_push]
 obtain⟨w1,hw1⟩:=nmE (w0.alloc (.cells #[.int .i64 0, .int .i64 0, .bool false] 112));have hb1:Below w.heap.size w w1:=by rw[<-hw1];exact hb0.alloc hb0.size _
 have hn1:w1.heap[w.heap.size+1]?=some (.cells #[.int .i64 0, .int .i64 0, .bool false] 112 (0,0)):=by rw[<-hw1,<-z0];exact heap_alloc_new w0 _
 have n1:w1.heap[w.heap.size]?=some (.cells #[.int .i64 (xo:Int), .int .i64 (xs:Int), .bool true] 112 (0,0)):=by rw[<-hw1];exact(heap_alloc_old _ _ (aae n0)).trans n0
 have h1:=h.below hb1;have hG:=ajv w1 g base cap c A bs ((xo:Int)+(xs:Int)) _ h1 hb hl ⟨by omega,by omega⟩ hy;dsimp only[aay,bkV,Bk.val,Option.isSome,aat]at hG;have HG:=hE0 hG;have HW0:=hE0 hw0;have HW1:=hE0 hw1;have HB1:=hE0 hb1;have HN1:=hE0 hn1;obtain⟨⟨d0,d1,d2⟩,_⟩:=aad n1;have hlt1:=aaa n1;clear hG hy hw0 hw1 hb0 hb1 n0 n1 hn1 h1 h z0;go_enter Tryz.func242,Tryz.ntmps242
 go_wp2_with (first | (rw[HW0.out,HW1.out]) | fail)
 clear d0 d1 d2 hlt1
 with_reducible refine HG.out.mono ?_
 rintro e w2 ⟨rfl,hb2⟩;have hn2:=(hb2.block _ (aae HN1.out)).trans HN1.out;have HB2:=hE0 (HB1.out.trans (hb2.mono HB1.out.size));have HN2:=hE0 hn2;clear hb2 hn2 HG;obtain⟨⟨c0,c1,c2⟩,f0,f1,f2⟩:=aad HN2.out;have hlt:=aaa HN2.out;go_wp2
 (try simp only[Exit.inBlock,Exit.then])
 refine acx (g:=w.heap.size+1) (o:=0) (s:=0) (b:=false) Tryz.results242 ?_ ?_ ((heap_alloc_old _ _ (aae (aav HN2.out _ _ _))).trans (aav HN2.out _ _ _)) ?_
 · rfl
 · rfl
 · refine⟨rfl,Below.alloc (((HB2.out.setCell ?_ _).setCell ?_ _).setCell ?_ _) ?_ _⟩
   · exact Nat.le_succ _
   · exact Nat.le_succ _
   · exact Nat.le_succ _
   · simp only[World.setCell];have h9:=HB2.out.size;simpa using h9
theorem ali (h:Ar w 195 g base cap A c bs) (hb:base<=4611686018427387904) (hl:bs.length<=16384) (xo xs:Nat) (hxo:xo<=16384) (hxs:xs<=16384) (yo ys:Nat) (hy:aa2 bs ((xo:Int)+(xs:Int))=some ⟨yo,ys,true⟩):
 Calls Tryz.prog 242 #[.pointer (some ⟨g,0,none⟩), .agg #[.int .i64 (xo:Int), .int .i64 (xs:Int), .bool true]] w fun e w'=>e= .returned (frV 0 none)/\Below w.heap.size w w':=by
 obtain⟨w0,hw0⟩:=nmE (w.alloc (.cells #[.int .i64 (xo:Int), .int .i64 (xs:Int), .bool true] 112));have hb0:=abE hw0;have n0:=anE hw0;have z0:w0.heap.size=w.heap.size+1:=by rw[<-hw0];simp only[World.alloc,Array.size_push]
 obtain⟨w1,hw1⟩:=nmE (w0.alloc (.cells #[.int .i64 0, .int .i64 0, .bool false] 112));have hb1:Below w.heap.size w w1:=by rw[<-hw1];exact hb0.alloc hb0.size _
 have hn1:w1.heap[w.heap.size+1]?=some (.cells #[.int .i64 0, .int .i64 0, .bool false] 112 (0,0)):=by rw[<-hw1,<-z0];exact heap_alloc_new w0 _
 have n1:w1.heap[w.heap.size]?=some (.cells #[.int .i64 (xo:Int), .int .i64 (xs:Int), .bool true] 112 (0,0)):=by rw[<-hw1];exact(heap_alloc_old _ _ (aae n0)).trans n0
 have h1:=h.below hb1;have hG:=ajv w1 g base cap c A bs ((xo:Int)+(xs:Int)) _ h1 hb hl ⟨by omega,by omega⟩ hy;dsimp only[aay,bkV,Bk.val,Option.isSome,aat]at hG;have HG:=hE0 hG;have HW0:=hE0 hw0;have HW1:=hE0 hw1;have HB1:=hE0 hb1;have HN1:=hE0 hn1;obtain⟨⟨d0,d1,d2⟩,_⟩:=aad n1;have hlt1:=aaa n1;clear hG hy hw0 hw1 hb0 hb1 n0 n1 hn1 h1 h z0;go_enter Tryz.func242,Tryz.ntmps242
 go_wp2_with (first | (rw[HW0.out,HW1.out]) | fail)
 clear d0 d1 d2 hlt1
 with_reducible refine HG.out.mono ?_
 rintro e w2 ⟨rfl,hb2⟩;have hn2:=(hb2.block _ (aae HN1.out)).trans HN1.out;have HB2:=hE0 (HB1.out.trans (hb2.mono HB1.out.size));have HN2:=hE0 hn2;clear hb2 hn2 HG;obtain⟨⟨c0,c1,c2⟩,f0,f1,f2⟩:=aad HN2.out;have hlt:=aaa HN2.out;go_wp2
 (try simp only[Exit.inBlock,Exit.then])
 refine acx (g:=w.heap.size+1) (o:=0) (s:=0) (b:=false) Tryz.results242 ?_ ?_ ((heap_alloc_old _ _ (aae (aav HN2.out _ _ _))).trans (aav HN2.out _ _ _)) ?_
 · rfl
 · rfl
 · refine⟨rfl,Below.alloc (((HB2.out.setCell ?_ _).setCell ?_ _).setCell ?_ _) ?_ _⟩
   · exact Nat.le_succ _
   · exact Nat.le_succ _
   · exact Nat.le_succ _
   · simp only[World.setCell];have h9:=HB2.out.size;simpa using h9
theorem alj (h:Ar w 195 g base cap A c bs) (hb:base<=4611686018427387904) (hl:bs.length<=16384) (xo xs:Nat) (hxo:xo<=16384) (hxs:xs<=16384) (yo ys:Nat) (hy:aa2 bs ((xo:Int)+(xs:Int))=some ⟨yo,ys,false⟩):
 Calls Tryz.prog 242 #[.pointer (some ⟨g,0,none⟩), .agg #[.int .i64 (xo:Int), .int .i64 (xs:Int), .bool true]] w fun e w'=>e= .returned (frV 0 (some ⟨yo,ys,false⟩))/\Below w.heap.size w w':=by
 obtain⟨w0,hw0⟩:=nmE (w.alloc (.cells #[.int .i64 (xo:Int), .int .i64 (xs:Int), .bool true] 112));have hb0:=abE hw0;have n0:=anE hw0;have z0:w0.heap.size=w.heap.size+1:=by rw[<-hw0];simp only[World.alloc,Array.size_push]
 obtain⟨w1,hw1⟩:=nmE (w0.alloc (.cells #[.int .i64 0, .int .i64 0, .bool false] 112));have hb1:Below w.heap.size w w1:=by rw[<-hw1];exact hb0.alloc hb0.size _
 have hn1:w1.heap[w.heap.size+1]?=some (.cells #[.int .i64 0, .int .i64 0, .bool false] 112 (0,0)):=by rw[<-hw1,<-z0];exact heap_alloc_new w0 _
 have n1:w1.heap[w.heap.size]?=some (.cells #[.int .i64 (xo:Int), .int .i64 (xs:Int), .bool true] 112 (0,0)):=by rw[<-hw1];exact(heap_alloc_old _ _ (aae n0)).trans n0
 have h1:=h.below hb1;have hG:=ajv w1 g base cap c A bs ((xo:Int)+(xs:Int)) _ h1 hb hl ⟨by omega,by omega⟩ hy;dsimp only[aay,bkV,Bk.val,Option.isSome,aat]at hG;have HG:=hE0 hG;have HW0:=hE0 hw0;have HW1:=hE0 hw1;have HB1:=hE0 hb1;have HN1:=hE0 hn1;obtain⟨⟨d0,d1,d2⟩,_⟩:=aad n1;have hlt1:=aaa n1;clear hG hy hw0 hw1 hb0 hb1 n0 n1 hn1 h1 h z0;go_enter Tryz.func242,Tryz.ntmps242
 go_wp2_with (first | (rw[HW0.out,HW1.out]) | fail)
 clear d0 d1 d2 hlt1
 with_reducible refine HG.out.mono ?_
 rintro e w2 ⟨rfl,hb2⟩;have hn2:=(hb2.block _ (aae HN1.out)).trans HN1.out;have HB2:=hE0 (HB1.out.trans (hb2.mono HB1.out.size));have HN2:=hE0 hn2;clear hb2 hn2 HG;obtain⟨⟨c0,c1,c2⟩,f0,f1,f2⟩:=aad HN2.out;have hlt:=aaa HN2.out;go_wp2
 (try simp only[Exit.inBlock,Exit.then])
 refine acx (g:=w.heap.size+1) (o:=(yo:Int)) (s:=(ys:Int)) (b:=false) Tryz.results242 ?_ ?_ ((heap_alloc_old _ _ (aae (aav HN2.out _ _ _))).trans (aav HN2.out _ _ _)) ?_
 · rfl
 · rfl
 · refine⟨rfl,Below.alloc (((HB2.out.setCell ?_ _).setCell ?_ _).setCell ?_ _) ?_ _⟩
   · exact Nat.le_succ _
   · exact Nat.le_succ _
   · exact Nat.le_succ _
   · simp only[World.setCell];have h9:=HB2.out.size;simpa using h9
theorem ad9 (h:Ar w 195 g base cap A c bs) (hb:base<=4611686018427387904) (hl:bs.length<=16384) (xo xs:Nat) (hxo:xo<=16384) (hxs:xs<=16384) (y:Option Bk) (hy:frO (aa2 bs ((xo:Int)+(xs:Int)))=y):
 Calls Tryz.prog 242 #[.pointer (some ⟨g,0,none⟩), .agg #[.int .i64 (xo:Int), .int .i64 (xs:Int), .bool true]] w fun e w'=>e= .returned (frV 0 y)/\Below w.heap.size w w':=by
 subst hy
 cases hg:aa2 bs ((xo:Int)+(xs:Int))with
 | none=>exact alh h hb hl xo xs hxo hxs hg
 | some x=>
  obtain⟨yo,ys,yu⟩:=x
  cases yu with
  | true=>exact ali h hb hl xo xs hxo hxs yo ys hg
  | false=>exact alj h hb hl xo xs hxo hxs yo ys hg
theorem atf (h:Became 195 g base cap A b1 w w1) (hb:base<=4611686018427387904) (hl:b1.length<=16384) (o:Nat) (ho:o<=16384) (hy:aee b1 (o:Int)=some b2):
 Calls Tryz.prog 271 #[.pointer (some ⟨g,0,none⟩), .int .i64 (o:Int)] w1 fun e w2=>e= .returned .nilIface/\Became 195 g base cap A b2 w w2/\Loc w1 w2:=by
 obtain⟨A',c',a,tc,k⟩:=h;refine(atX w1 g base cap c' A' b1 (o:Int) _ a hb hl (by omega) hy).mono ?_;rintro e w2 ⟨h1,h2⟩;have h2':=h2;obtain⟨_,_,_,ht,_⟩:=h2';exact⟨h1,Became.trans a tc k h2,Loc.tch a ht⟩
end
section
variable {w w1:World} {g base cap c:Nat} {A:Option Addr} {bs b1 b2:List UInt8}
theorem apO (h:Became 195 g base cap A bs w w1) (hb:base<=4611686018427387904) (hl:bs.length<=16384) (xo xs n:Nat) (ho:xo<=16384) (hn:n<=16384) (hy:ad5 bs (xo:Int) (n:Int) true=some b2):
 Calls Tryz.prog 243 #[.pointer (some ⟨g,0,none⟩), .agg #[.int .i64 (xo:Int), .int .i64 (xs:Int), .bool true], .agg #[.int .i64 0, .int .i64 0, .bool false], .int .i64 (n:Int)] w1 fun e w2=>e= .returned (.tuple #[])/\Became 195 g base cap A b2 w w2:=by
 obtain⟨w0,hw0⟩:=nmE (w1.alloc (.cells #[.int .i64 (xo:Int), .int .i64 (xs:Int), .bool true] 112));have B0:=aa1 h (.cells #[.int .i64 (xo:Int), .int .i64 (xs:Int), .bool true] 112);rw[hw0]at B0;have n0:=anE hw0;have z0:w0.heap.size=w1.heap.size+1:=by rw[<-hw0];simp only[World.alloc,Array.size_push]
 obtain⟨w2,hw2⟩:=nmE (w0.alloc (.cells #[.int .i64 0, .int .i64 0, .bool false] 112));have B2:=aa1 B0 (.cells #[.int .i64 0, .int .i64 0, .bool false] 112);rw[hw2]at B2;have m2:w2.heap[w1.heap.size+1]?=some (.cells #[.int .i64 0, .int .i64 0, .bool false] 112 (0,0)):=by rw[<-hw2,<-z0];exact heap_alloc_new w0 _
 have n2:w2.heap[w1.heap.size]?=some (.cells #[.int .i64 (xo:Int), .int .i64 (xs:Int), .bool true] 112 (0,0)):=by rw[<-hw2];exact(heap_alloc_old _ _ (aae n0)).trans n0
 have HS:=hE0 (ahF B2 hb hl xo n true ho hn hy);have HW0:=hE0 hw0;have HW2:=hE0 hw2;obtain⟨⟨d0,d1,d2⟩,_⟩:=aad n2;have hlt1:=aaa n2;obtain⟨⟨c0,c1,c2⟩,_⟩:=aad m2;have hlt2:=aaa m2;clear hw0 hw2 B0 B2 n0 n2 m2 z0 hy h;go_enter Tryz.func243,Tryz.ntmps243
 go_wp2_with (first | (rw[HW0.out,HW2.out]) | fail)
 refine HS.out.mono ?_;rintro e w3 ⟨rfl,hB3,_⟩;have HB3:=hE0 hB3;clear hB3 HS d0 d1 d2 c0 c1 c2 hlt1 hlt2;go_wp2
 go_end0
 exact⟨rfl,HB3.out⟩
theorem apP (h:Became 195 g base cap A bs w w1) (hb:base<=4611686018427387904) (hl:bs.length<=16384) (xo xs yo ys n:Nat) (ho:xo<=16384) (hyo:yo<=16384) (hys:(0:Int)<(ys:Int)) (hn:n<=16384) (hl1:b1.length<=16384) (ht:aee bs (yo:Int)=some b1) (hy:ad5 b1 (xo:Int) (n:Int) true=some b2):
 Calls Tryz.prog 243 #[.pointer (some ⟨g,0,none⟩), .agg #[.int .i64 (xo:Int), .int .i64 (xs:Int), .bool true], .agg #[.int .i64 (yo:Int), .int .i64 (ys:Int), .bool false], .int .i64 (n:Int)] w1 fun e w2=>e= .returned (.tuple #[])/\Became 195 g base cap A b2 w w2:=by
 obtain⟨w0,hw0⟩:=nmE (w1.alloc (.cells #[.int .i64 (xo:Int), .int .i64 (xs:Int), .bool true] 112));have B0:=aa1 h (.cells #[.int .i64 (xo:Int), .int .i64 (xs:Int), .bool true] 112);rw[hw0]at B0;have n0:=anE hw0;have z0:w0.heap.size=w1.heap.size+1:=by rw[<-hw0];simp only[World.alloc,Array.size_push]
 obtain⟨w2,hw2⟩:=nmE (w0.alloc (.cells #[.int .i64 (yo:Int), .int .i64 (ys:Int), .bool false] 112));have B2:=aa1 B0 (.cells #[.int .i64 (yo:Int), .int .i64 (ys:Int), .bool false] 112);rw[hw2]at B2;have m2:w2.heap[w1.heap.size+1]?=some (.cells #[.int .i64 (yo:Int), .int .i64 (ys:Int), .bool false] 112 (0,0)):=by rw[<-hw2,<-z0];exact heap_alloc_new w0 _
 have n2:w2.heap[w1.heap.size]?=some (.cells #[.int .i64 (xo:Int), .int .i64 (xs:Int), .bool true] 112 (0,0)):=by rw[<-hw2];exact(heap_alloc_old _ _ (aae n0)).trans n0
 have HT:=hE0 (atf B2 hb hl yo hyo ht);have HS:=hE0 (fun w3 (B3:Became 195 g base cap A b1 w w3)=>ahF B3 hb hl1 xo n true ho hn hy);have HW0:=hE0 hw0;have HW2:=hE0 hw2;have HN2:=hE0 n2;obtain⟨⟨d0,d1,d2⟩,_⟩:=aad n2;have hlt1:=aaa n2;obtain⟨⟨c0,c1,c2⟩,_⟩:=aad m2;have hlt2:=aaa m2;clear hw0 hw2 B0 B2 n0 n2 m2 z0 hy ht h;go_enter Tryz.func243,Tryz.ntmps243
 go_wp2_with (first | (rw[HW0.out,HW2.out]) | fail)
 refine HT.out.mono ?_;clear d0 d1 d2 c0 c1 c2 hlt1 hlt2;rintro e w3 ⟨rfl,hB3,hL3⟩;have n3:=hL3 _ _ HN2.out;have HS3:=hE0 (HS.out w3 hB3);obtain⟨⟨d0,d1,d2⟩,_⟩:=aad n3;have hlt1:=aaa n3;clear hB3 hL3 n3 HT HS HN2;go_wp2_with fail
 refine HS3.out.mono ?_;clear d0 d1 d2 hlt1;rintro e w4 ⟨rfl,hB4,_⟩;have HB4:=hE0 hB4;clear hB4 HS3;go_wp2
 go_end0
 exact⟨rfl,HB4.out⟩
theorem aml (h:Became 195 g base cap A bs w w1) (hb:base<=4611686018427387904) (hl:bs.length<=16384) (xo xs n:Nat) (y:Option Bk) (ho:xo<=16384) (hs:∀z,y=some z->0<z.size/\z.off<=16384) (hn:n<=16384) (hl1:b1.length<=16384) (ht:apw bs y=some b1) (hy:ad5 b1 (xo:Int) (n:Int) true=some b2):
 Calls Tryz.prog 243 #[.pointer (some ⟨g,0,none⟩), .agg #[.int .i64 (xo:Int), .int .i64 (xs:Int), .bool true],frV 0 y, .int .i64 (n:Int)] w1 fun e w2=>e= .returned (.tuple #[])/\Became 195 g base cap A b2 w w2:=by
 cases y with
 | none=>
  injection ht with ht;subst ht;exact apO h hb hl xo xs n ho hn hy
 | some z=>
  have hz:=hs z rfl;exact apP h hb hl xo xs z.off z.size n ho hz.2 (by omega) hn hl1 ht hy
end
theorem Held.moved{H H':Hp}{bs out:List UInt8}{o:Int}{p:Nat}(h:Held H bs H' out) (hp:(p:Int)=o):aiv H bs o H' out p:=by
 intro x hx hu hxo y hy hyu hyp i i1 i2 i3;have e:x.off=p:=by omega
 have:=h x hx hu y hy hyu (by omega) (x.off+i) (by omega) (by omega) (by omega);rw[e]at this ⊢;exact this
theorem Held.self (H:Hp) (bs:List UInt8):Held H bs H bs:=fun _ _ _ _ _ _ _ _ _ _ _=>rfl
theorem alk{H:Hp}{p o:Int}:(H.moveD p o).lists=H.lists:=by unfold Hp.moveD;split<;>rfl
section
variable {bs:List UInt8} {H:Hp}
theorem Rt.moveD{p o:Int}(h:Rt bs H):Rt bs (H.moveD p o):=⟨by rw[acB];exact h.walk,fun c hc=>by rw[alk];exact h.all_ c hc,h.chk,by rw[moveD_cap];exact h.len⟩
theorem Rt.moved (h:Rt bs H){s i q:Nat}(hs:aaD (s:Int)=true){o:Int}(hi:aaY H.blks o=some i){xo xs:Nat}(hx:aam H.blks i=⟨xo,xs,true⟩) (hlt:xs<s) (hq:(H.take s).1=some q){bs1:List UInt8}(h1:Rt bs1 (H.take s).2) (hh1:Held H bs (H.take s).2 bs1):
 q+8+(xs-16)<=bs1.length/\xo+8+(xs-16)<=bs1.length/\32<=xs/\Rt (lay bs1 (q+8) ((bs1.drop (xo+8)).take (xs-16))) ((H.take s).2.moveD (q:Int) o)/\(∃j,aaY ((H.take s).2.moveD (q:Int) o).blks o=some j)/\
  ∀H' out,Held ((H.take s).2.moveD (q:Int) o) (lay bs1 (q+8) ((bs1.drop (xo+8)).take (xs-16))) H' out->Held H bs H' out/\aiv H bs o H' out q:=by
 obtain⟨i1,i2,i3⟩:=aeq hi;have hxm:(⟨xo,xs,true⟩:Bk)∈H.blks:=by rw[<-hx];exact List.mem_of_getElem? (aar i1)
 rw[hx]at i2;dsimp only at i2;have ht:abr 184 H.blks (Go.Proofs.YtncadccbepjekaaGreatDoor.lenB H.blks):=by rw[h.lenE];exact(aaj h.walk).2.1
 have tm:∀z∈H.blks,z.used=true->z∈(H.take s).2.blks:=fun z hz hu=>afQ ht hs (fun j hj=>by obtain⟨a,_,c⟩:=h.found hs hj;exact⟨a,c⟩) hz hu;obtain⟨y,n1,n2,n3,n4,n5,n6⟩:=h.what hs hq;have ht1:=(aaj h1.walk).2.1;obtain⟨y1,y2,y3,_⟩:=(aak _ _ _ ht1).2 y n1;obtain⟨x1,x2,x3,_⟩:=(aak _ _ _ ht1).2 _ (tm _ hxm rfl);dsimp only at x1 x2 x3;have sx:=(aac _).1 x3;have hap:=n6 _ hxm rfl;dsimp only at hap;obtain⟨cs,hcs⟩:=nmE ((bs1.drop (xo+8)).take (xs-16));have hcl:cs.length=xs-16:=by rw[<-hcs,List.length_take,List.length_drop];omega
 rw[hcs];have ag:ahw bs1 (lay bs1 (q+8) cs) y:=adV (x:=y) (q+8) cs (by omega) (by omega) (by omega);have hR2:Rt (lay bs1 (q+8) cs) (H.take s).2:=h1.fill n1 n3 ag;refine⟨by omega,by omega,by omega,hR2.moveD,?_,fun H' out hH=>⟨?_,?_⟩⟩
 · rw[acB];obtain⟨j,hj⟩:=List.mem_iff_getElem?.1 (tm _ hxm rfl);have:=aiA ht1 hj i2 rfl
   cases hu:aaY (H.take s).2.blks o with
   | none=>rw[hu]at this;cases this
   | some k=>exact⟨k,rfl⟩
 · intro z hz hzu v hv hvu e k k1 k2 k3;have a:=hH z (by rw[acB];exact tm z hz hzu) hzu v hv hvu e k k1 k2 k3;have b:=ag.2 k (by have:=n6 z hz hzu;omega);have d:=hh1 z hz hzu z (tm z hz hzu) hzu rfl k k1 k2 k2;rw[a,b,d]
 · intro x' hx' hxu' hxo' v hv hvu hvp k k1 k2 k3;obtain rfl:x'=⟨xo,xs,true⟩:=by
    have sz:=(aac _).1 ((aak _ _ _ ht).2 x' hx').2.2.1;rcases aaL _ _ _ ht x' hx' _ hxm with e | e | e
    · exact e
    · dsimp only at e;omega
    · dsimp only at e;omega
   dsimp only at k2 ⊢;have a:=hH y (by rw[acB];exact n1) n3 v hv hvu (by omega) (q+k) (by omega) (by omega) (by omega);have b:=ahz bs1 (q+8) cs (by omega) (k-8) (by omega);rw[show q+8+(k-8)=q+k by omega]at b;have d:cs[k-8]?=bs1[xo+k]?:=by
    rw[<-hcs,List.getElem?_take_of_lt (by omega),List.getElem?_drop,show xo+8+(k-8)=xo+k by omega]
   have f:=hh1 _ hxm rfl _ (tm _ hxm rfl) rfl rfl (xo+k) (by dsimp only;omega) (by dsimp only;omega) (by dsimp only;omega);rw[a,b,d,f]
theorem Rt.wideHeld (h:Rt bs H){A B1:List Bk}{n:Option Bk}{xo xs t:Nat}(hb:H.blks=A++⟨xo,xs,true⟩::(n.toList++B1)) (hf:∀y,n=some y->y.used=false) (hxt:xs<=t){b2:List UInt8}{H':Hp}(hb':H'.blks=A++⟨xo,t,true⟩::B1)
 (h1:∀z∈H.blks,z.used=true->z.off≠xo->∀i,Pay z i->b2[i]?=bs[i]?) (h2:∀i,Pay ⟨xo,xs,true⟩ i->b2[i]?=bs[i]?) {H'':Hp} {out:List UInt8} (hH:Held H' b2 H'' out):Held H bs H'' out:=by
 intro z hz hzu v hv hvu e k k1 k2 k3;have ht:abr 184 H.blks (Go.Proofs.YtncadccbepjekaaGreatDoor.lenB H.blks):=by rw[h.lenE];exact(aaj h.walk).2.1
 have hxm:(⟨xo,xs,true⟩:Bk)∈H.blks:=by rw[hb];simp
 by_cases hzo:z.off=xo
 · obtain rfl:z=⟨xo,xs,true⟩:=by
    have sz:=(aac _).1 ((aak _ _ _ ht).2 z hz).2.2.1;have sx:=(aac _).1 ((aak _ _ _ ht).2 _ hxm).2.2.1;dsimp only at sx;rcases aaL _ _ _ ht z hz _ hxm with e | e | e
    · exact e
    · dsimp only at e;omega
    · dsimp only at e;omega
   dsimp only at k1 k2 e;rw[hH ⟨xo,t,true⟩ (by rw[hb'];simp) rfl v hv hvu e k k1 (by dsimp only;omega) k3,h2 k ⟨k1,k2⟩]
 · have hm:z∈H'.blks:=by
    rw[hb]at hz;rw[hb'];rcases List.mem_append.1 hz with hz | hz
    · simp[hz]
    · rcases List.mem_cons.1 hz with rfl | hz
      · exact absurd rfl hzo
      · rcases List.mem_append.1 hz with hz | hz
        · have:=hf z (by simpa using hz);rw[hzu]at this;cases this
        · simp[hz]
   rw[hH z hm hzu v hv hvu e k k1 k2 k3,h1 z hz hzu hzo k ⟨k1,k2⟩]
end
section
variable {w:World} {g base cap c:Nat} {A:Option Addr} {bs:List UInt8} {H:Hp}
theorem atg (h:Ar w 195 g base cap A c bs) (hbase:base<=4611686018427387904) (hcap:cap<=16384) (hc:H.cap=cap) (hR:Rt bs H) (xo xs s:Nat) (hs:aaD (s:Int)=true) (hq:(H.take s).1=none):
 Calls Tryz.prog 245 #[.pointer (some ⟨g,0,none⟩), .agg #[.int .i64 (xo:Int), .int .i64 (xs:Int), .bool true], .int .i64 (s:Int)] w fun e w'=>e= .returned (.tuple #[.int .i64 0,aat false 5])/\Below w.heap.size w w':=by
 have ss:=(aac _).1 hs;obtain⟨w0,hw0⟩:=nmE (w.alloc (.cells #[.int .i64 (xo:Int), .int .i64 (xs:Int), .bool true] 112));have hb0:=abE hw0;have hT:=(atc w0 g base cap c A bs H (s:Int) (h.below hb0) hbase hcap hc hR ⟨by omega,by omega⟩).2 hs;rw[Int.toNat_natCast]at hT;unfold ab5 at hT;rw[hq]at hT;dsimp only[aat]at hT ⊢;have HT:=hE0 hT;have HW0:=hE0 hw0;have HB0:=hE0 hb0;clear hT hw0 hb0 h hR hq hs;go_enter Tryz.func245,Tryz.ntmps245
 go_wp2_with (first | (rw[HW0.out]) | fail)
 refine HT.out.mono ?_;rintro e w2 ⟨rfl,hb2⟩;have HB2:=hE0 (HB0.out.trans (hb2.mono HB0.out.size));clear hb2 HT;go_wp2
 go_ret2
 exact⟨rfl,HB2.out⟩
theorem arD (h:Ar w 195 g base cap A c bs) (hbase:base<=4611686018427387904) (hcap:cap<=16384) (hc:H.cap=cap) (hR:Rt bs H){xo xs s i q:Nat}(hs:aaD (s:Int)=true) (hi:aaY H.blks (xo:Int)=some i) (hx:aam H.blks i=⟨xo,xs,true⟩) (hlt:xs<s) (hq:(H.take s).1=some q):
 Calls Tryz.prog 245 #[.pointer (some ⟨g,0,none⟩), .agg #[.int .i64 (xo:Int), .int .i64 (xs:Int), .bool true], .int .i64 (s:Int)] w fun e w'=>e= .returned (.tuple #[.int .i64 (q:Int),aat true 5])/\∃out,Became 195 g base cap A out w w'/\
  Rt out ((((H.take s).2.moveD (q:Int) (xo:Int)).giveO (xo:Int)).getD ((H.take s).2.moveD (q:Int) (xo:Int)))/\Held H bs ((((H.take s).2.moveD (q:Int) (xo:Int)).giveO (xo:Int)).getD ((H.take s).2.moveD (q:Int) (xo:Int))) out/\
  aiv H bs (xo:Int) ((((H.take s).2.moveD (q:Int) (xo:Int)).giveO (xo:Int)).getD ((H.take s).2.moveD (q:Int) (xo:Int))) out q:=by
 have ss:=(aac _).1 hs;obtain⟨w0,hw0⟩:=nmE (w.alloc (.cells #[.int .i64 (xo:Int), .int .i64 (xs:Int), .bool true] 112));have hb0:=abE hw0;have n0:=anE hw0;have h0:=h.below hb0;have hT:=(atc w0 g base cap c A bs H (s:Int) h0 hbase hcap hc hR ⟨by omega,by omega⟩).2 hs;rw[Int.toNat_natCast]at hT;unfold ab5 at hT;rw[hq]at hT;have hcap2:(H.take s).2.cap=cap:=take_cap.trans hc;have HM:=hE0 (fun bs1 (h1:Rt bs1 (H.take s).2) hh1=>hR.moved hs hi hx hlt hq h1 hh1);have HBD:=hE0 (fun bs1 (h1:Rt bs1 (H.take s).2)=>h1.bound (by omega));obtain⟨H1,hH1⟩:=nmE ((H.take s).2);rw[hH1]at hT HM HBD hcap2 ⊢;have hcap3:(H1.moveD (q:Int) (xo:Int)).cap=cap:=moveD_cap.trans hcap2;obtain⟨H2,hH2⟩:=nmE (H1.moveD (q:Int) (xo:Int));rw[hH2]at HM hcap3 ⊢;dsimp only[aat]at hT ⊢;have HT:=hE0 hT;have HW0:=hE0 hw0;have HB0:=hE0 hb0;have HN0:=hE0 n0;have HA0:=hE0 h0;clear hT hw0 hb0 n0 h0 h hR hq hs hi hx hlt hH1 hH2 hc hcap2;go_enter Tryz.func245,Tryz.ntmps245
 go_wp2_with (first | (rw[HW0.out]) | fail)
 refine HT.out.mono ?_;rintro e w2 ⟨rfl,bs1,hB2,hR1,hh1⟩;obtain⟨l1,l2,l3,hR2,⟨j,hj⟩,hfin⟩:=HM.out bs1 hR1 hh1;have hbl:=(HBD.out bs1 hR1).1;obtain⟨bs2,hbs2⟩:=nmE (lay bs1 (q+8) ((bs1.drop (xo+8)).take (xs-16)));rw[hbs2]at hR2 hfin;have hg:H2.giveO (xo:Int)=some (H2.give j):=by unfold Hp.giveO;rw[hj];rfl
 have HGV:=hE0 (show(H2.giveO (xo:Int)).getD H2=H2.give j by rw[hg];rfl);obtain⟨A2,c2,a2,t2,k2⟩:=hB2;have n2:=Loc.tch HA0.out t2 _ _ HN0.out;obtain⟨v1,hv1⟩:∃v1:Int,((base+q+8:Nat):Int)=v1:=⟨_,rfl⟩;obtain⟨v2,hv2⟩:∃v2:Int,((base+xo+8:Nat):Int)=v2:=⟨_,rfl⟩;have H1:=hE0 (ahH a2.drew hbase q (by omega));have H2':=hE0 (ahH a2.drew hbase xo (by omega));have HC:=hE0 (asn a2.drew (by omega) (base+q+8) (base+xo+8) (xs-16) (q+8) (xo+8) (by omega) (by omega) (by omega) (by omega) (by omega) (by omega) (by omega) (by omega) (by omega));rw[hbs2]at HC;rw[hv1]at H1 HC;rw[hv2]at H2' HC;have e16:((xs-16:Nat):Int)=(xs:Int)-16:=by omega
 rw[e16]at HC;have ew:IntKind.u64.wrap ((xs:Int)-16)=(xs:Int)-16:=IntWalk.u64_in _ (by omega);obtain⟨⟨d0,d1,d2⟩,_⟩:=aad n2;have hlt2:=aaa n2;have HN2:=hE0 n2;have HGK:=hE0 (fun w3 c3 A3 (a3:Ar w3 195 g base cap A3 c3 bs2)=>auf w3 g base cap c3 A3 bs2 H2 (xo:Int) a3 hbase hcap hcap3 hR2 ⟨by omega,by omega⟩);rw[hg]at HGK;dsimp only[acS,aat]at HGK;have HTR:=hE0 (fun b3 w4 (k:Became 195 g base cap A2 b3 w2 w4)=>Became.trans a2 t2 k2 k);have HFIN:=hE0 hfin;clear hfin hR2 hj hg hR1 hh1 HM HBD HT HA0 HN0 n2 t2 k2 hbs2 hv1 hv2;go_wp2_with fail
 refine aaq w2.heap.size [([0,1,2,4,5,6,8,9,10,11],3),([],7)] [] [12] (by kernel_rfl) (by kernel_rfl) (by kernel_rfl) (fun _ _ _ _ _ h=>h) ?_;have q0:∀z:LaterB w2.heap.size w2.drew,z.val.cell? ⟨w.heap.size,0,none⟩=some (.int .i64 (xo:Int)):=fun z=>(z.ext.cell (p:=⟨w.heap.size,0,none⟩) hlt2).trans d0;have q1:∀z:LaterB w2.heap.size w2.drew,z.val.cell? ⟨w.heap.size,1,none⟩=some (.int .i64 (xs:Int)):=fun z=>(z.ext.cell (p:=⟨w.heap.size,1,none⟩) hlt2).trans d1;refine tail_cons (l:= ?seg1) ?hseg1 ?_
 case hseg1=>simp only[pick,lE1,lE2,lE3];rfl
 repeat (go_big_quiet_step (fail))
 refine wpQuiet_nil ?_;clear q0 q1;refine aau (vs:= #[.pointer (some ⟨g,0,none⟩), .int .i64 (q:Int)]) Tryz.call273 rfl rfl rfl (R:=fun r w'=>r= .int .u64 v1/\w'=w2.drew) (H1.out.mono ?_) w2.heap.size (Nat.le_refl _) ?_
 · rintro e w' ⟨rfl,rfl⟩;exact⟨_,rfl,Below.refl _ _,rfl,rfl⟩
 rintro r w3 _ ⟨rfl,rfl⟩;refine tail_cons (l:= []) rfl ?_;refine wpQuiet_nil ?_;refine aau (vs:= #[.pointer (some ⟨g,0,none⟩), .int .i64 (xo:Int)]) Tryz.call273 rfl rfl rfl (R:=fun r w'=>r= .int .u64 v2/\w'=w2.drew) (H2'.out.mono ?_) w2.heap.size (Nat.le_refl _) ?_
 · rintro e w' ⟨rfl,rfl⟩;exact⟨_,rfl,Below.refl _ _,rfl,rfl⟩
 rintro r w3 _ ⟨rfl,rfl⟩;refine aaN (l:= []) (t:= ?tl1) rfl ?htl1 ?_
 case htl1=>simp only[pick,lE1,lE2,lE3];rfl
 refine wpQuiet_nil ?_;simp only[Act.put,lE4,lE5,lE6];clear d0 d1 d2 hlt2 H1 H2';go_wp2_with fail
 refine HC.out.mono ?_;rintro e w3 ⟨rfl,hB3⟩;have hB3':=hB3;obtain⟨A3,c3,a3,t3,k3⟩:=hB3';have n3:=Loc.tch a2.drew t3 _ _ HN2.out;have HG:=hE0 (HGK.out w3 c3 A3 a3);have HTR3:=hE0 (fun b3 w4 (k:Became 195 g base cap A3 b3 w3 w4)=>HTR.out b3 w4 (Became.of_drew (Became.trans a3 t3 k3 k)));obtain⟨⟨d0,d1,d2⟩,_⟩:=aad n3;have hlt3:=aaa n3;clear hB3 HGK HTR n3 a3 t3 k3 HC HN2 a2;go_wp2_with fail
 refine HG.out.mono ?_;clear d0 d1 d2 hlt3;rintro e w4 ⟨rfl,out,hB4,hR4,hh4⟩;have hBo:=HTR3.out out w4 hB4;have HBo:=hE0 (hBo.after HB0.out);have HR4:=hE0 hR4;have HF4:=hE0 (HFIN.out _ _ hh4);have HS:=hE0 (ahG (w:=w4) (q:Int));clear hB4 hBo hR4 hh4 HG HTR3 HFIN HB0;go_wp2_with fail
 refine HS.out.mono ?_;rintro e w5 ⟨rfl,rfl⟩;clear HS;go_wp2
 go_ret2
 refine⟨rfl,out,HBo.out,?_⟩;rw[HGV.out];exact⟨HR4.out,HF4.out.1,HF4.out.2⟩
end
theorem arE{l:List Bk}{e:Nat}(ht:abr 184 l e){i:Nat}{x:Bk}{o:Int}(hx:l[i]?=some x) (ho:(x.off:Int)=o) (hu:x.used=true):aaY l o=some i:=by
 have h:=aiA ht hx ho hu
 cases hk:aaY l o with
 | none=>rw[hk]at h;cases h
 | some k=>
  obtain⟨k1,k2,k3⟩:=aeq hk;rw[hk,Option.map_some]at h;injection h with h;have hkx:=aar k1;rw[h]at hkx;have hpw:=List.pairwise_iff_getElem.1 (adi _ _ _ ht);have hi1:=aaG hx;have e1:l[i]=x:=by rw[List.getElem?_eq_getElem hi1]at hx;exact Option.some.inj hx
  have e2:l[k]=x:=by rw[List.getElem?_eq_getElem k1]at hkx;exact Option.some.inj hkx
  rcases Nat.lt_trichotomy k i with h' | h' | h'
  · exact absurd (by rw[e1,e2]) (hpw k i k1 hi1 h')
  · rw[h']
  · exact absurd (by rw[e1,e2]) (hpw i k hi1 k1 h')
section
variable {bs:List UInt8} {H:Hp} {A1 B1:List Bk} {p n:Option Bk} {xo xs z:Nat}
theorem Rt.widened (h:Rt bs H) (hc:H.cap<=16384) (hb:H.blks=(A1++p.toList)++⟨xo,xs,true⟩::(n.toList++B1)) (hN:ak4 A1 p n B1) (hz:(n.map Bk.size).getD 0=z):
 ∃b1 b2,apw bs n=some b1/\ad5 b1 (xo:Int) ((xs+z:Nat):Int) true=some b2/\b1.length=bs.length/\Rt b2 (H.widen (A1++p.toList).length)/\aaY (H.widen (A1++p.toList).length).blks (xo:Int)=some (A1++p.toList).length/\
  aam (H.widen (A1++p.toList).length).blks (A1++p.toList).length=⟨xo,xs+z,true⟩/\∀H'' out,Held (H.widen (A1++p.toList).length) b2 H'' out->Held H bs H'' out:=by
 obtain⟨w1,w2,w3,w4⟩:=aiy hb hN.nf hN.nu;rw[hz]at w1 w3;obtain⟨A,hA⟩:=nmE (A1++p.toList);rw[hA]at hb w1 w2 w3 w4 ⊢;obtain⟨hl,hbd⟩:=h.bound hc;have ht:abr 184 H.blks bs.length:=(aaj h.walk).2.1;have htm:=(aak _ _ _ ht).2;have hxm:(⟨xo,xs,true⟩:Bk)∈H.blks:=by rw[hb];simp
 have sx:=(aac _).1 (htm _ hxm).2.2.1;have hx8:=(htm _ hxm).2.1;dsimp only at sx hx8;have hsz:aaD ((xs+z:Nat):Int)=true:=by
  rw[aac]
  cases n with
  | none=>simp at hz;omega
  | some m=>
   have hmm:m∈H.blks:=by rw[hb];simp
   have sm:=(aac _).1 (htm _ hmm).2.2.1;have hm8:=htm _ hmm;have hz:m.size=z:=hz;rw[hb,aaC]at ht;obtain⟨_,_,_,t3⟩:=ht;obtain⟨t4,_⟩:=t3;dsimp only at t4;omega
 obtain⟨b1,e1,e2,l1,l2,hRt,hP1,hP2⟩:=h.wide hc (n0:=0) (t:=xs+z) hb hN.nf (by rw[hz];omega) (.inl rfl) hsz (by have:=h.len;omega);rw[List.replicate_zero,List.append_nil]at e1;have hR2:=hRt (H.widen A.length) w1 w2 widen_cap;obtain⟨b2,hb2⟩:=nmE (aaT b1 ⟨xo,xs+z,true⟩);rw[hb2]at e2 hR2 hP1 hP2 l2;have hat:(H.widen A.length).blks[A.length]?=some ⟨xo,xs+z,true⟩:=by rw[w1];simp
 exact⟨b1,b2,e1,e2,by omega,hR2,arE (aaj hR2.walk).2.1 hat rfl rfl,aa6 hat,fun H'' out hH=>h.wideHeld hb hN.nf (by omega) w1 hP1 hP2 hH⟩
theorem Rt.grown (h:Rt bs H) (hc:H.cap<=16384) (hb:H.blks=(A1++p.toList)++⟨xo,xs,true⟩::(n.toList++B1)) (hN:ak4 A1 p n B1) (hz:(n.map Bk.size).getD 0=z){s:Nat}(hs:aaD (s:Int)=true) (hlt:xs+z<s) (hend:xo+(xs+z)=bs.length) (hcap:bs.length+(s-(xs+z))<=H.cap):
 ∃b1 b2,apw (bs++List.replicate (s-(xs+z)) 0) n=some b1/\ad5 b1 (xo:Int) (s:Int) true=some b2/\b1.length=bs.length+(s-(xs+z))/\Rt b2 ((H.widen (A1++p.toList).length).size (A1++p.toList).length s)/\Held H bs ((H.widen (A1++p.toList).length).size (A1++p.toList).length s) b2:=by
 obtain⟨w1,w2,w3,w4⟩:=aiy hb hN.nf hN.nu;rw[hz]at w1 w3;obtain⟨A,hA⟩:=nmE (A1++p.toList);rw[hA]at hb w1 w2 w3 w4 ⊢;have ht:abr 184 H.blks bs.length:=(aaj h.walk).2.1;have hB1:B1= []:=by
  rw[hb,aaC]at ht;obtain⟨_,t1,_,t3⟩:=ht;dsimp only at t1;rw[aaC]at t3;have hzn:aa7 n.toList=z:=by rw[<-hz];cases n<;>simp[aa7]
  rw[hzn]at t3;have t4:=t3.2;dsimp only at t4
  cases B1 with
  | nil=>rfl
  | cons y r=>
   have:=(aak _ _ _ t4).2 y (by simp);have sy:=(aac _).1 this.2.2.1;omega
 obtain⟨b1,e1,e2,l1,l2,hRt,hP1,hP2⟩:=h.wide hc (n0:=s-(xs+z)) (t:=s) hb hN.nf (by rw[hz];omega) (.inr hB1) hs hcap;have hat:(H.widen A.length).blks[A.length]?=some ⟨xo,xs+z,true⟩:=by rw[w1];simp
 have hb':((H.widen A.length).size A.length s).blks=A++⟨xo,s,true⟩::B1:=by
  show(H.widen A.length).blks.set A.length {aam (H.widen A.length).blks A.length with size:=s}=_;rw[aa6 hat,w1,List.set_append_right _ _ (Nat.le_refl _),Nat.sub_self];rfl
 have hR2:=hRt ((H.widen A.length).size A.length s) hb' w2 widen_cap;exact⟨b1,_,e1,e2,by omega,hR2,h.wideHeld hb hN.nf (by omega) hb' hP1 hP2 (Held.self _ _)⟩
end
section
variable {w:World} {g base cap c:Nat} {A:Option Addr} {bs:List UInt8} {H:Hp} {A1 B1:List Bk} {p n:Option Bk} {xo xs z s:Nat}
theorem alm (h:Ar w 195 g base cap A c bs) (hbase:base<=4611686018427387904) (hcap:cap<=16384) (hc:H.cap=cap) (hR:Rt bs H) (hb:H.blks=(A1++p.toList)++⟨xo,xs,true⟩::(n.toList++B1)) (hN:ak4 A1 p n B1) (hz:(n.map Bk.size).getD 0=z) (hs:aaD (s:Int)=true) (hle:s<=xs+z):
 Calls Tryz.prog 193 #[.pointer (some ⟨g,0,none⟩), .agg #[.int .i64 (xo:Int), .int .i64 (xs:Int), .bool true], .int .i64 (s:Int)] w fun e w'=>e= .returned (.tuple #[.int .i64 (xo:Int),aat true 0])/\
  ∃out,Became 195 g base cap A out w w'/\Rt out ((H.widen (A1++p.toList).length).cut (A1++p.toList).length s)/\Held H bs ((H.widen (A1++p.toList).length).cut (A1++p.toList).length s) out:=by
 have ss:=(aac _).1 hs;obtain⟨hl,hbd⟩:=hR.bound (by omega);have hx:=hbd ⟨xo,xs,true⟩ (by rw[hb];simp);dsimp only at hx;have hn:∀y,n=some y->0<y.size/\y.off<=16384:=fun y hy=>by have:=hbd y (by rw[hb,hy];simp);omega
 have hzl:xs+z<=16384:=by
  cases n with
  | none=>simp at hz;omega
  | some m=>
   have hz:m.size=z:=hz;have hM:=hR.md (by omega);have ht:=hM.tl;rw[hb,aaC]at ht;obtain⟨_,t1,_,t3⟩:=ht;obtain⟨t4,_⟩:=t3;have:=hbd m (by rw[hb];simp);dsimp only at t1 t4;omega
 have hy:=(hR.md (by omega)).behind hb hN;dsimp only at hy;obtain⟨b1,b2,e1,e2,l1,hR2,hu2,hk2,hH2⟩:=hR.widened (by omega) hb hN hz;have l2:b2.length<=16384:=(hR2.bound (by rw[widen_cap];omega)).1;obtain⟨i,hi⟩:=nmE ((A1++p.toList).length);rw[hi]at hR2 hu2 hk2 hH2 ⊢;obtain⟨H2,hH⟩:=nmE (H.widen i);have hcap2:H2.cap=cap:=by rw[<-hH];exact widen_cap.trans hc
 rw[hH]at hR2 hu2 hk2 hH2 ⊢;have htr:H2.trimO (xo:Int) s=some (H2.cut i s):=by
  unfold Hp.trimO;rw[hu2];dsimp only;rw[hk2];dsimp only;rw[if_neg (by omega)]
 obtain⟨w0,hw0⟩:=nmE (w.alloc (.cells #[.int .i64 (xo:Int), .int .i64 (xs:Int), .bool true] 112));have hb0:=abE hw0;have n0:=anE hw0;have hF:=ad9 (h.below hb0) hbase hl xo xs (by omega) (by omega) n hy;have ef:=afs 0 n;rw[hz]at ef;obtain⟨fo,hfo⟩:∃fo:Int,(n.map fun z=>(z.off:Int)).getD 0=fo:=⟨_,rfl⟩;rw[hfo]at ef;rw[ef]at hF;have HJ:=hE0 (fun w2 (hb2:Below w.heap.size w w2)=>aml (w:=w2) (w1:=w2) ⟨A,c,h.below hb2,Tch.refl _ _, .inl rfl⟩ hbase hl xo xs (xs+z) n (by omega) hn hzl (by omega) e1 e2);rw[ef]at HJ;have ez:((xs+z:Nat):Int)=(xs:Int)+(z:Int):=by omega
 rw[ez]at HJ;have HTK:=hE0 (fun w3 c3 A3 (a3:Ar w3 195 g base cap A3 c3 b2)=>(aug w3 g base cap c3 A3 b2 H2 (xo:Int) (s:Int) a3 hbase hcap hcap2 hR2 ⟨by omega,by omega⟩ ⟨by omega,by omega⟩).2 hs);rw[Int.toNat_natCast,htr]at HTK;dsimp only[acS,aat]at HTK;have HF:=hE0 hF;have HA:=hE0 h;have HW0:=hE0 hw0;have HB0:=hE0 hb0;have HN0:=hE0 n0;have HFIN:=hE0 hH2;have g1:((s:Int)<=(xs:Int)+(z:Int)):=by omega
 obtain⟨⟨d0,d1,d2⟩,_⟩:=aad n0;have hlt0:=aaa n0;dsimp only[aat];clear hF hw0 hb0 n0 h hR hb hN hz hy hn hbd hs hle e1 e2 l1 hR2 hu2 hk2 hH2 hi hH hcap2 htr ef hfo ez hc;go_enter Tryz.func193,Tryz.ntmps193
 go_wp2_with (first | (rw[HW0.out]) | fail)
 refine HF.out.mono ?_;clear d0 d1 d2 hlt0;rintro e w1 ⟨rfl,hb1⟩;have n1:=Loc.below hb1 _ _ HN0.out;obtain⟨w2,hw2⟩:=nmE (w1.alloc (.cells #[.int .i64 fo, .int .i64 (z:Int), .bool false] 112));have m2:=anE hw2;have n2:w2.heap[w.heap.size]?=some (.cells #[.int .i64 (xo:Int), .int .i64 (xs:Int), .bool true] 112 (0,0)):=by rw[<-hw2];exact(heap_alloc_old _ _ (aae n1)).trans n1
 have hb01:=HB0.out.trans (hb1.mono HB0.out.size);have hb2:Below w.heap.size w w2:=by rw[<-hw2];exact hb01.alloc hb01.size _
 have HJ2:=hE0 (HJ.out w2 hb2);obtain⟨⟨d0,d1,d2⟩,_⟩:=aad n2;have hlt2:=aaa n2;obtain⟨⟨c0,c1,c2⟩,_⟩:=aad m2;have hlt3:=aaa m2;have HW2:=hE0 hw2;have HN2:=hE0 n2;have HB2:=hE0 hb2;clear hb1 n1 hw2 m2 n2 hb01 hb2 HF HJ HN0;go_wp2_with (first | (rw[HW2.out]) | fail)
 refine HJ2.out.mono ?_;clear d0 d1 d2 hlt2 c0 c1 c2 hlt3;rintro e w3 ⟨rfl,hB3⟩;obtain⟨A3,c3,a3,t3,k3⟩:=hB3;have n3:=Loc.tch (HA.out.below HB2.out) t3 _ _ HN2.out;have hnf:=aiz a3 n3;have HT3:=hE0 (HTK.out w3.drew c3 A3 a3.drew);have HTR:=hE0 (fun b4 w4 (k:Became 195 g base cap A3 b4 w3.drew w4)=>(Became.trans a3 t3 k3 (Became.of_drew k)).after HB2.out);obtain⟨⟨d0,d1,d2⟩,_⟩:=aad n3;have hlt3:=aaa n3;have HNF:=hE0 hnf;clear a3 t3 k3 n3 hnf HJ2 HTK HN2 HB2 HA;go_wp2_with fail
 refine abf (foot g A3) [([0,1,2,3,4,5],6),([],7)] [8,9,10,11] [] (by kernel_rfl) (by kernel_rfl) (by kernel_rfl) (fun _ _ _ _ _ h=>h) ?_;have q0:∀z:LaterS (foot g A3) w3.drew,z.val.cell? ⟨w.heap.size,0,none⟩=some (.int .i64 (xo:Int)):=fun z=>z.ext.cell d0 HNF.out;clear d0 d1 d2;refine abY (l:= ?seg1) ?hseg1 ?_
 case hseg1=>simp only[pick,lE1,lE2,lE3];rfl
 repeat (go_big_quiet_step (fail))
 refine wpQuiet_nil ?_;clear q0;refine acd (vs:= #[.pointer (some ⟨g,0,none⟩), .int .i64 (xo:Int), .int .i64 (s:Int)]) Tryz.call191 rfl rfl rfl (R:=fun r w'=>r= .nilIface/\∃out,Became 195 g base cap A3 out w3.drew w'/\Rt out (H2.cut i s)/\Held H2 b2 (H2.cut i s) out) (HT3.out.mono ?_) ?_
 · rintro e w' ⟨rfl,out,hB,hR,hH⟩;have hB':=hB;obtain⟨_,_,_,ht,_⟩:=hB';exact⟨_,rfl,ht,rfl,out,hB,hR,hH⟩
 rintro r w4 _ ⟨rfl,out,hB4,hR4,hH4⟩;have HB4:=hE0 (HTR.out out w4 hB4);have HR4:=hE0 hR4;have HH4:=hE0 (HFIN.out _ _ hH4);clear hB4 hR4 hH4 HT3 HTR HFIN;refine⟨foot g A3,fun _ _ h=>h,?_⟩;refine abY (l:= []) rfl ?_;refine wpQuiet_nil ?_;refine acd (vs:= #[.int .i64 (xo:Int), .nilIface]) Tryz.call244 rfl rfl rfl (R:=fun r w'=>r= .tuple #[.int .i64 (xo:Int), .nilIface]/\w'=w4) ((ahG (w:=w4) (xo:Int)).mono ?_) ?_
 · rintro e w' ⟨rfl,rfl⟩;exact⟨_,rfl,Tch.refl _ _,rfl,rfl⟩
 rintro r w5 _ ⟨rfl,rfl⟩;refine⟨foot g A3,fun _ _ h=>h,?_⟩;refine adf (l:= ?la4) (t:= []) ?hla4 ?htl4 ?_
 case hla4=>simp only[pick,lE1,lE2,lE3];rfl
 case htl4=>rfl
 simp only[Act.put,lE4,lE5,lE6];repeat (go_big_quiet_step (fail))
 refine wpQuiet_nil ?_;go_wp2
 go_ret2
 exact⟨rfl,out,HB4.out,HR4.out,HH4.out⟩
end
section
variable {P:Program} {ops:Array Oper} {Q:Exit->Act->World->Prop}
theorem arF{i:Nat}{S:Nat->Prop}{o:Oper}{a:Act}{w:World}{K:(Nat->Prop)->Act->World->Prop}(d:Option Tmp) (ho:ops[i]?=some o) (hd:o.dst=d) (hw:Region.wanted o (yielded ops a.tmps)=false) (hk:K S (a.put d undef) w):
 wpOp P ops Q i (fun a'' w''=>Tch S w w''/\∃S':Nat->Prop,(∀k,k<w.heap.size->S' k->S k)/\K S' a'' w'') a w:=by
 subst hd;unfold wpOp;simp only[ho];rw[if_neg (by rw[hw];decide)];exact⟨Tch.refl _ _,S,fun _ _ h=>h,hk⟩
end
def aln (H:Hp) (o:Int) (s:Nat):(Nat × Int) × Hp:=match (H.take s).1 with
 | none=>((0,5),H)
 | some p=>((p,0),(((H.take s).2.moveD (p:Int) o).giveO o).getD ((H.take s).2.moveD (p:Int) o))
section
variable {w w1 w':World} {g base cap c:Nat} {A:Option Addr} {bs:List UInt8} {H:Hp} {o:Int} {r:(Nat × Int) × Hp} {e:Ending}
theorem RezTold.after (h:RezTold g base cap A bs H o r w1 e w') (hb:Below w.heap.size w w1):RezTold g base cap A bs H o r w e w':=by
 refine⟨fun hr=> ?_,fun hr=> ?_⟩
 · obtain⟨h1,out,h2,h3⟩:=h.1 hr;exact⟨h1,out,h2.after hb,h3⟩
 · obtain⟨h1,h2⟩:=h.2 hr;exact⟨h1,hb.trans (h2.mono hb.size)⟩
theorem RezTold.shape (h:RezTold g base cap A bs H o r w e w'):∃(v:Int) (x:Value),e= .returned (.tuple #[.int .i64 v,x]):=by
 by_cases hr:r.1.2=0
 · exact⟨_,_,(h.1 hr).1⟩
 · exact⟨_,_,(h.2 hr).1⟩
theorem RezTold.yes{p:Nat}{H':Hp}{out:List UInt8}(hb:Became 195 g base cap A out w w') (h1:Rt out H') (h2:Held H bs H' out) (h3:aiv H bs o H' out p):RezTold g base cap A bs H o ((p,0),H') w (.returned (.tuple #[.int .i64 (p:Int),aat true 0])) w':=
 ⟨fun _=>⟨rfl,out,hb,h1,h2,h3⟩,fun hr=>absurd rfl hr⟩
theorem RezTold.no{k:Int}(hk:k≠0) (hb:Below w.heap.size w w'):RezTold g base cap A bs H o ((0,k),H) w (.returned (.tuple #[.int .i64 0,aat false k])) w':=
 ⟨fun hr=>absurd hr hk,fun _=>⟨rfl,hb⟩⟩
theorem amm (h:Ar w 195 g base cap A c bs) (hbase:base<=4611686018427387904) (hcap:cap<=16384) (hc:H.cap=cap) (hR:Rt bs H){xo xs s i:Nat}(hs:aaD (s:Int)=true) (hi:aaY H.blks (xo:Int)=some i) (hx:aam H.blks i=⟨xo,xs,true⟩) (hlt:xs<s):
 Calls Tryz.prog 245 #[.pointer (some ⟨g,0,none⟩), .agg #[.int .i64 (xo:Int), .int .i64 (xs:Int), .bool true], .int .i64 (s:Int)] w fun e w'=>RezTold g base cap A bs H (xo:Int) (aln H (xo:Int) s) w e w':=by
 unfold aln
 cases hq:(H.take s).1 with
 | none=>
  refine(atg h hbase hcap hc hR xo xs s hs hq).mono ?_;rintro e w' ⟨rfl,hb⟩;exact RezTold.no (by decide) hb
 | some q=>
  refine(arD h hbase hcap hc hR hs hi hx hlt hq).mono ?_;rintro e w' ⟨rfl,out,hb,h1,h2,h3⟩;exact RezTold.yes hb h1 h2 h3
end
section
variable {w:World} {g base cap c:Nat} {A:Option Addr} {bs:List UInt8} {H:Hp} {A1 B1:List Bk} {p n:Option Bk} {xo xs z s:Nat}
theorem aiG (h:Ar w 195 g base cap A c bs) (hbase:base<=4611686018427387904) (hcap:cap<=16384) (hc:H.cap=cap) (hR:Rt bs H) (hb:H.blks=(A1++p.toList)++⟨xo,xs,true⟩::(n.toList++B1)) (hN:ak4 A1 p n B1) (hz:(n.map Bk.size).getD 0=z) (hs:aaD (s:Int)=true) (hle:xs+z<s) (hend:xo+(xs+z)=bs.length) (hroom:bs.length+(s-(xs+z))<=cap):
 Calls Tryz.prog 193 #[.pointer (some ⟨g,0,none⟩), .agg #[.int .i64 (xo:Int), .int .i64 (xs:Int), .bool true], .int .i64 (s:Int)] w fun e w'=>e= .returned (.tuple #[.int .i64 (xo:Int),aat true 0])/\
  ∃out,Became 195 g base cap A out w w'/\Rt out ((H.widen (A1++p.toList).length).size (A1++p.toList).length s)/\Held H bs ((H.widen (A1++p.toList).length).size (A1++p.toList).length s) out:=by
 have ss:=(aac _).1 hs;obtain⟨hl,hbd⟩:=hR.bound (by omega);have hx:=hbd ⟨xo,xs,true⟩ (by rw[hb];simp);dsimp only at hx;have hn:∀y,n=some y->0<y.size/\y.off<=16384:=fun y hy=>by have:=hbd y (by rw[hb,hy];simp);omega
 have hzl:xs+z<=16384:=by omega
 have hy:=(hR.md (by omega)).behind hb hN;dsimp only at hy;have ef:=afs 0 n;rw[hz]at ef;obtain⟨fo,hfo⟩:∃fo:Int,(n.map fun z=>(z.off:Int)).getD 0=fo:=⟨_,rfl⟩;rw[hfo]at ef;obtain⟨b1,b2,e1,e2,l1,hR2,hH2⟩:=hR.grown (by omega) hb hN hz hs hle hend (by omega);obtain⟨bz,hbz⟩:=nmE (bs++List.replicate (s-(xs+z)) 0);have hbzl:bz.length<=16384:=by rw[<-hbz,List.length_append,List.length_replicate];omega
 have HG:=hE0 (fun w2 c2 A2 (a2:Ar w2 195 g base cap A2 c2 bs)=>ahW a2 (s-(xs+z)) (by omega) hcap hroom);rw[hbz]at HG e1;have ez:((s-(xs+z):Nat):Int)=(s:Int)-((xs:Int)+(z:Int)):=by omega
 rw[ez]at HG;have HJ:=hE0 (fun w4 c4 A4 (a4:Ar w4 195 g base cap A4 c4 bz)=>aml (w:=w4) (w1:=w4) ⟨A4,c4,a4,Tch.refl _ _, .inl rfl⟩ hbase hbzl xo xs s n (by omega) hn (by omega) (by omega) e1 e2);rw[ef]at HJ;have HR2:=hE0 hR2;have HH2:=hE0 hH2;have k1:((xo:Int)+((xs:Int)+(z:Int))==(bs.length:Int))=true:=by rw[beq_iff_eq];omega
 obtain⟨w0,hw0⟩:=nmE (w.alloc (.cells #[.int .i64 (xo:Int), .int .i64 (xs:Int), .bool true] 112));have hb0:=abE hw0;have n0:=anE hw0;have hF:=ad9 (h.below hb0) hbase hl xo xs (by omega) (by omega) n hy;rw[ef]at hF;have HF:=hE0 hF;have HA:=hE0 h;have HW0:=hE0 hw0;have HB0:=hE0 hb0;have HN0:=hE0 n0;have g1:((xs:Int)+(z:Int)<(s:Int)):=by omega
 obtain⟨⟨d0,d1,d2⟩,_⟩:=aad n0;have hlt0:=aaa n0;dsimp only[aat];clear hF hw0 hb0 n0 h hR hb hN hz hy hn hbd hs hle ef hfo hc e1 e2 l1 hR2 hH2 hbz ez hend;go_enter Tryz.func193,Tryz.ntmps193
 go_wp2_with (first | (rw[HW0.out]) | fail)
 refine HF.out.mono ?_;clear d0 d1 d2 hlt0;rintro e w1 ⟨rfl,hb1⟩;have n1:=Loc.below hb1 _ _ HN0.out;obtain⟨w2,hw2⟩:=nmE (w1.alloc (.cells #[.int .i64 fo, .int .i64 (z:Int), .bool false] 112));have m2:=anE hw2;have n2:w2.heap[w.heap.size]?=some (.cells #[.int .i64 (xo:Int), .int .i64 (xs:Int), .bool true] 112 (0,0)):=by rw[<-hw2];exact(heap_alloc_old _ _ (aae n1)).trans n1
 have hb01:=HB0.out.trans (hb1.mono HB0.out.size);have hb2:Below w.heap.size w w2:=by rw[<-hw2];exact hb01.alloc hb01.size _
 obtain⟨⟨d0,d1,d2⟩,_⟩:=aad n2;have hlt2:=aaa n2;obtain⟨⟨c0,c1,c2⟩,_⟩:=aad m2;have hlt3:=aaa m2;have a2:=HA.out.below hb2;have HNF:=hE0 (aiz a2 n2);have HL:=hE0 (abF a2.drew);have HA2:=hE0 a2;have HW2:=hE0 hw2;have HN2:=hE0 n2;have HM2:=hE0 m2;have HB2:=hE0 hb2;clear hb1 n1 hw2 m2 n2 hb01 hb2 HF HN0 a2 HA HB0;go_wp2_with (first | (rw[HW2.out]) | fail)
 clear c0 c1 c2 hlt3 d1 d2;refine abf (foot g A) [([0,1,2,3,4],5),([6,7,8,9,10,11],12)] [13,14] [] (by kernel_rfl) (by kernel_rfl) (by kernel_rfl) (fun _ _ _ _ _ h=>h) ?_;have q0:∀z:LaterS (foot g A) w2.drew,z.val.cell? ⟨w.heap.size,0,none⟩=some (.int .i64 (xo:Int)):=fun z=>z.ext.cell d0 HNF.out;clear d0;refine abY (l:= ?seg1) ?hseg1 ?_
 case hseg1=>simp only[pick,lE1,lE2,lE3];rfl
 repeat (go_big_quiet_step (fail))
 refine wpQuiet_nil ?_;clear q0;refine acd (vs:= #[.pointer (some ⟨g,0,none⟩)]) Tryz.call97 rfl rfl rfl (R:=fun r w'=>r= .int .i64 (bs.length:Int)/\w'=w2.drew) (HL.out.mono ?_) ?_
 · rintro e w' ⟨rfl,rfl⟩;exact⟨_,rfl,Tch.refl _ _,rfl,rfl⟩
 rintro r w3 _ ⟨rfl,rfl⟩;refine⟨foot g A,fun _ _ h=>h,?_⟩;clear HL;refine abY (l:= ?seg2) ?hseg2 ?_
 case hseg2=>simp only[pick,lE1,lE2,lE3];rfl
 simp only[Act.put,lE4,lE5,lE6];repeat (go_big_quiet_step (fail))
 refine wpQuiet_nil ?_;refine acd (vs:= #[.pointer (some ⟨g,0,none⟩), .int .i64 ((s:Int)-((xs:Int)+(z:Int)))]) Tryz.call65 rfl rfl rfl (R:=fun r w'=>r= .nilIface/\Became 195 g base cap A bz w2.drew w') ((HG.out w2.drew c A HA2.out.drew).mono ?_) ?_
 · rintro e w' ⟨rfl,hB⟩;have hB':=hB;obtain⟨_,_,_,ht,_⟩:=hB';exact⟨_,rfl,ht,rfl,hB⟩
 rintro r w4 _ ⟨rfl,hB4⟩;refine⟨foot g A,fun _ _ h=>h,?_⟩;clear k1;refine adf (l:= ?la4) (t:= []) ?hla4 ?htl4 ?_
 case hla4=>simp only[pick,lE1,lE2,lE3];rfl
 case htl4=>rfl
 simp only[Act.put,lE4,lE5,lE6];repeat (go_big_quiet_step (fail))
 refine wpQuiet_nil ?_;obtain⟨A4,c4,a4,t4,k4⟩:=hB4;have n4:=Loc.tch HA2.out.drew t4 _ _ HN2.out;have m4:=Loc.tch HA2.out.drew t4 _ _ HM2.out;have HJ4:=hE0 (HJ.out w4 c4 A4 a4);have HTR:=hE0 (fun b5 w5 (k:Became 195 g base cap A4 b5 w4 w5)=>(Became.of_drew (Became.trans a4 t4 k4 k)).after HB2.out);have HA4:=hE0 a4;have HN4:=hE0 n4;obtain⟨⟨d0,d1,d2⟩,_⟩:=aad n4;have hlt2:=aaa n4;obtain⟨⟨c0,c1,c2⟩,_⟩:=aad m4;have hlt3:=aaa m4;clear a4 t4 k4 n4 m4 HJ HG HN2 HM2 HB2;go_wp2_with fail
 refine HJ4.out.mono ?_;clear d0 d1 d2 hlt2 c0 c1 c2 hlt3;rintro e w5 ⟨rfl,hB5⟩;have HB5:=hE0 (HTR.out b2 w5 hB5);obtain⟨A5,c5,a5,t5,k5⟩:=hB5;have n5:=Loc.tch HA4.out t5 _ _ HN4.out;obtain⟨⟨d0,d1,d2⟩,_⟩:=aad n5;have hlt2:=aaa n5;clear a5 t5 k5 n5 HJ4 HTR HA4 HN4;go_wp2
 go_ret2
 exact⟨rfl,b2,HB5.out,HR2.out,HH2.out⟩
theorem ag1 (h:Ar w 195 g base cap A c bs) (hbase:base<=4611686018427387904) (hcap:cap<=16384) (hc:H.cap=cap) (hR:Rt bs H) (hb:H.blks=(A1++p.toList)++⟨xo,xs,true⟩::(n.toList++B1)) (hN:ak4 A1 p n B1) (hz:(n.map Bk.size).getD 0=z) (hs:aaD (s:Int)=true) (hle:xs+z<s){i:Nat}(hi:aaY H.blks (xo:Int)=some i) (hx0:aam H.blks i=⟨xo,xs,true⟩) (hend:xo+(xs+z)≠bs.length):
 Calls Tryz.prog 193 #[.pointer (some ⟨g,0,none⟩), .agg #[.int .i64 (xo:Int), .int .i64 (xs:Int), .bool true], .int .i64 (s:Int)] w fun e w'=>RezTold g base cap A bs H (xo:Int) (aln H (xo:Int) s) w e w':=by
 have ss:=(aac _).1 hs;obtain⟨hl,hbd⟩:=hR.bound (by omega);have hx:=hbd ⟨xo,xs,true⟩ (by rw[hb];simp);dsimp only at hx;have hn:∀y,n=some y->0<y.size/\y.off<=16384:=fun y hy=>by have:=hbd y (by rw[hb,hy];simp);omega
 have hzl:xs+z<=16384:=by omega
 have hy:=(hR.md (by omega)).behind hb hN;dsimp only at hy;have ef:=afs 0 n;rw[hz]at ef;obtain⟨fo,hfo⟩:∃fo:Int,(n.map fun z=>(z.off:Int)).getD 0=fo:=⟨_,rfl⟩;rw[hfo]at ef;have HMV:=hE0 (fun w2 (hb2:Below w.heap.size w w2)=>amm (h.below hb2) hbase hcap hc hR hs hi hx0 (by omega));obtain⟨mr,hmr⟩:=nmE (aln H (xo:Int) s);rw[hmr]at HMV ⊢;have k1:((xo:Int)+((xs:Int)+(z:Int))==(bs.length:Int))=false:=by rw[beq_eq_false_iff_ne];omega
 obtain⟨w0,hw0⟩:=nmE (w.alloc (.cells #[.int .i64 (xo:Int), .int .i64 (xs:Int), .bool true] 112));have hb0:=abE hw0;have n0:=anE hw0;have hF:=ad9 (h.below hb0) hbase hl xo xs (by omega) (by omega) n hy;rw[ef]at hF;have HF:=hE0 hF;have HA:=hE0 h;have HW0:=hE0 hw0;have HB0:=hE0 hb0;have HN0:=hE0 n0;have g1:((xs:Int)+(z:Int)<(s:Int)):=by omega
 obtain⟨⟨d0,d1,d2⟩,_⟩:=aad n0;have hlt0:=aaa n0;clear hF hw0 hb0 n0 h hR hb hN hz hy hn hbd hs hle ef hfo hc hend hi hx0 hmr;go_enter Tryz.func193,Tryz.ntmps193
 go_wp2_with (first | (rw[HW0.out]) | fail)
 refine HF.out.mono ?_;clear d0 d1 d2 hlt0;rintro e w1 ⟨rfl,hb1⟩;have n1:=Loc.below hb1 _ _ HN0.out;obtain⟨w2,hw2⟩:=nmE (w1.alloc (.cells #[.int .i64 fo, .int .i64 (z:Int), .bool false] 112));have m2:=anE hw2;have n2:w2.heap[w.heap.size]?=some (.cells #[.int .i64 (xo:Int), .int .i64 (xs:Int), .bool true] 112 (0,0)):=by rw[<-hw2];exact(heap_alloc_old _ _ (aae n1)).trans n1
 have hb01:=HB0.out.trans (hb1.mono HB0.out.size);have hb2:Below w.heap.size w w2:=by rw[<-hw2];exact hb01.alloc hb01.size _
 obtain⟨⟨d0,d1,d2⟩,_⟩:=aad n2;have hlt2:=aaa n2;obtain⟨⟨c0,c1,c2⟩,_⟩:=aad m2;have hlt3:=aaa m2;have a2:=HA.out.below hb2;have HNF:=hE0 (aiz a2 n2);have HL:=hE0 (abF a2.drew);have HA2:=hE0 a2;have HW2:=hE0 hw2;have HN2:=hE0 n2;have HM2:=hE0 m2;have HB2:=hE0 hb2;clear hb1 n1 hw2 m2 n2 hb01 hb2 HF HN0 a2 HA HB0;go_wp2_with (first | (rw[HW2.out]) | fail)
 clear c0 c1 c2 hlt3 d1 d2;refine abf (foot g A) [([0,1,2,3,4],5),([6,7,8,9,10,11],12)] [13,14] [] (by kernel_rfl) (by kernel_rfl) (by kernel_rfl) (fun _ _ _ _ _ h=>h) ?_;have q0:∀z:LaterS (foot g A) w2.drew,z.val.cell? ⟨w.heap.size,0,none⟩=some (.int .i64 (xo:Int)):=fun z=>z.ext.cell d0 HNF.out;clear d0;refine abY (l:= ?seg1) ?hseg1 ?_
 case hseg1=>simp only[pick,lE1,lE2,lE3];rfl
 repeat (go_big_quiet_step (fail))
 refine wpQuiet_nil ?_;clear q0;refine acd (vs:= #[.pointer (some ⟨g,0,none⟩)]) Tryz.call97 rfl rfl rfl (R:=fun r w'=>r= .int .i64 (bs.length:Int)/\w'=w2.drew) (HL.out.mono ?_) ?_
 · rintro e w' ⟨rfl,rfl⟩;exact⟨_,rfl,Tch.refl _ _,rfl,rfl⟩
 rintro r w3 _ ⟨rfl,rfl⟩;refine⟨foot g A,fun _ _ h=>h,?_⟩;clear HL;refine abY (l:= ?seg2) ?hseg2 ?_
 case hseg2=>simp only[pick,lE1,lE2,lE3];rfl
 simp only[Act.put,lE4,lE5,lE6];repeat (go_big_quiet_step (fail))
 refine wpQuiet_nil ?_;refine arF (some 48) rfl rfl rfl ?_;clear k1;refine adf (l:= ?la4) (t:= []) ?hla4 ?htl4 ?_
 case hla4=>simp only[pick,lE1,lE2,lE3];rfl
 case htl4=>rfl
 simp only[Act.put,lE4,lE5,lE6];repeat (go_big_quiet_step (fail))
 refine wpQuiet_nil ?_;obtain⟨w3,hw3⟩:=nmE w2.drew;have hb3:Below w.heap.size w w3:=by rw[<-hw3];exact HB2.out.drew
 have n3:w3.heap[w.heap.size]?=some (.cells #[.int .i64 (xo:Int), .int .i64 (xs:Int), .bool true] 112 (0,0)):=by rw[<-hw3];exact HN2.out
 rw[hw3];have HMV3:=hE0 (HMV.out w3 hb3);have HB3:=hE0 hb3;obtain⟨⟨d0,d1,d2⟩,_⟩:=aad n3;have hlt2:=aaa n3;clear n3 hb3 HMV HN2 HM2 HB2 HA2 hw3 HW2;go_wp2_with fail
 refine HMV3.out.mono ?_;clear d0 d1 d2 hlt2;rintro e w4 hT;obtain⟨v,x,rfl⟩:=hT.shape;have HT:=hE0 (hT.after HB3.out);clear hT HMV3 HB3;go_wp2
 go_ret2
 exact HT.out
theorem ag2 (h:Ar w 195 g base cap A c bs) (hbase:base<=4611686018427387904) (hcap:cap<=16384) (hc:H.cap=cap) (hR:Rt bs H) (hb:H.blks=(A1++p.toList)++⟨xo,xs,true⟩::(n.toList++B1)) (hN:ak4 A1 p n B1) (hz:(n.map Bk.size).getD 0=z) (hs:aaD (s:Int)=true) (hle:xs+z<s){i:Nat}(hi:aaY H.blks (xo:Int)=some i) (hx0:aam H.blks i=⟨xo,xs,true⟩) (hend:xo+(xs+z)=bs.length) (hroom:cap<bs.length+(s-(xs+z))):
 Calls Tryz.prog 193 #[.pointer (some ⟨g,0,none⟩), .agg #[.int .i64 (xo:Int), .int .i64 (xs:Int), .bool true], .int .i64 (s:Int)] w fun e w'=>RezTold g base cap A bs H (xo:Int) (aln H (xo:Int) s) w e w':=by
 have ss:=(aac _).1 hs;obtain⟨hl,hbd⟩:=hR.bound (by omega);have hx:=hbd ⟨xo,xs,true⟩ (by rw[hb];simp);dsimp only at hx;have hn:∀y,n=some y->0<y.size/\y.off<=16384:=fun y hy=>by have:=hbd y (by rw[hb,hy];simp);omega
 have hzl:xs+z<=16384:=by omega
 have hy:=(hR.md (by omega)).behind hb hN;dsimp only at hy;have ef:=afs 0 n;rw[hz]at ef;obtain⟨fo,hfo⟩:∃fo:Int,(n.map fun z=>(z.off:Int)).getD 0=fo:=⟨_,rfl⟩;rw[hfo]at ef;have HMV:=hE0 (fun w2 (hb2:Below w.heap.size w w2)=>amm (h.below hb2) hbase hcap hc hR hs hi hx0 (by omega));obtain⟨mr,hmr⟩:=nmE (aln H (xo:Int) s);rw[hmr]at HMV ⊢;have hlc:bs.length<=cap:=by have:=hR.len;omega
 have HG:=hE0 (fun w2 c2 A2 (a2:Ar w2 195 g base cap A2 c2 bs)=>aiV a2 (s-(xs+z)) hlc hcap hroom);have ez:((s-(xs+z):Nat):Int)=(s:Int)-((xs:Int)+(z:Int)):=by omega
 rw[ez]at HG;have k1:((xo:Int)+((xs:Int)+(z:Int))==(bs.length:Int))=true:=by rw[beq_iff_eq];omega
 obtain⟨w0,hw0⟩:=nmE (w.alloc (.cells #[.int .i64 (xo:Int), .int .i64 (xs:Int), .bool true] 112));have hb0:=abE hw0;have n0:=anE hw0;have hF:=ad9 (h.below hb0) hbase hl xo xs (by omega) (by omega) n hy;rw[ef]at hF;have HF:=hE0 hF;have HA:=hE0 h;have HW0:=hE0 hw0;have HB0:=hE0 hb0;have HN0:=hE0 n0;have g1:((xs:Int)+(z:Int)<(s:Int)):=by omega
 obtain⟨⟨d0,d1,d2⟩,_⟩:=aad n0;have hlt0:=aaa n0;clear hF hw0 hb0 n0 h hR hb hN hz hy hn hbd hs hle ef hfo hc hend hi hx0 hmr ez hroom;go_enter Tryz.func193,Tryz.ntmps193
 go_wp2_with (first | (rw[HW0.out]) | fail)
 refine HF.out.mono ?_;clear d0 d1 d2 hlt0;rintro e w1 ⟨rfl,hb1⟩;have n1:=Loc.below hb1 _ _ HN0.out;obtain⟨w2,hw2⟩:=nmE (w1.alloc (.cells #[.int .i64 fo, .int .i64 (z:Int), .bool false] 112));have m2:=anE hw2;have n2:w2.heap[w.heap.size]?=some (.cells #[.int .i64 (xo:Int), .int .i64 (xs:Int), .bool true] 112 (0,0)):=by rw[<-hw2];exact(heap_alloc_old _ _ (aae n1)).trans n1
 have hb01:=HB0.out.trans (hb1.mono HB0.out.size);have hb2:Below w.heap.size w w2:=by rw[<-hw2];exact hb01.alloc hb01.size _
 obtain⟨⟨d0,d1,d2⟩,_⟩:=aad n2;have hlt2:=aaa n2;obtain⟨⟨c0,c1,c2⟩,_⟩:=aad m2;have hlt3:=aaa m2;have a2:=HA.out.below hb2;have HNF:=hE0 (aiz a2 n2);have HL:=hE0 (abF a2.drew);have HA2:=hE0 a2;have HW2:=hE0 hw2;have HN2:=hE0 n2;have HM2:=hE0 m2;have HB2:=hE0 hb2;clear hb1 n1 hw2 m2 n2 hb01 hb2 HF HN0 a2 HA HB0;go_wp2_with (first | (rw[HW2.out]) | fail)
 clear c0 c1 c2 hlt3 d1 d2;refine abf (foot g A) [([0,1,2,3,4],5),([6,7,8,9,10,11],12)] [13,14] [] (by kernel_rfl) (by kernel_rfl) (by kernel_rfl) (fun _ _ _ _ _ h=>h) ?_;have q0:∀z:LaterS (foot g A) w2.drew,z.val.cell? ⟨w.heap.size,0,none⟩=some (.int .i64 (xo:Int)):=fun z=>z.ext.cell d0 HNF.out;clear d0;refine abY (l:= ?seg1) ?hseg1 ?_
 case hseg1=>simp only[pick,lE1,lE2,lE3];rfl
 repeat (go_big_quiet_step (fail))
 refine wpQuiet_nil ?_;clear q0;refine acd (vs:= #[.pointer (some ⟨g,0,none⟩)]) Tryz.call97 rfl rfl rfl (R:=fun r w'=>r= .int .i64 (bs.length:Int)/\w'=w2.drew) (HL.out.mono ?_) ?_
 · rintro e w' ⟨rfl,rfl⟩;exact⟨_,rfl,Tch.refl _ _,rfl,rfl⟩
 rintro r w3 _ ⟨rfl,rfl⟩;refine⟨foot g A,fun _ _ h=>h,?_⟩;clear HL;refine abY (l:= ?seg2) ?hseg2 ?_
 case hseg2=>simp only[pick,lE1,lE2,lE3];rfl
 simp only[Act.put,lE4,lE5,lE6];repeat (go_big_quiet_step (fail))
 refine wpQuiet_nil ?_;refine acd (vs:= #[.pointer (some ⟨g,0,none⟩), .int .i64 ((s:Int)-((xs:Int)+(z:Int)))]) Tryz.call65 rfl rfl rfl (R:=fun r w'=>r= .iface 130 (.int .i64 5)/\∃k,w'=w2.drew.drewN k) ((HG.out w2.drew c A HA2.out.drew).mono ?_) ?_
 · rintro e w' ⟨rfl,k,rfl⟩;exact⟨_,rfl,Tch.of_below (S:=foot g A) ⟨rfl,rfl,rfl,Nat.le_refl _,fun _ _=>rfl⟩,rfl,k,rfl⟩
 rintro r w4 _ ⟨rfl,k,rfl⟩;refine⟨foot g A,fun _ _ h=>h,?_⟩;clear k1;refine adf (l:= ?la4) (t:= []) ?hla4 ?htl4 ?_
 case hla4=>simp only[pick,lE1,lE2,lE3];rfl
 case htl4=>rfl
 simp only[Act.put,lE4,lE5,lE6];repeat (go_big_quiet_step (fail))
 refine wpQuiet_nil ?_;obtain⟨w3,hw3⟩:=nmE (w2.drew.drewN k);have hb3:Below w.heap.size w w3:=by
  rw[<-hw3];have hd:=HB2.out.drew;exact⟨hd.os,hd.tape,hd.output,hd.size,hd.block⟩
 have n3:w3.heap[w.heap.size]?=some (.cells #[.int .i64 (xo:Int), .int .i64 (xs:Int), .bool true] 112 (0,0)):=by rw[<-hw3];exact HN2.out
 rw[hw3];have HMV3:=hE0 (HMV.out w3 hb3);have HB3:=hE0 hb3;obtain⟨⟨d0,d1,d2⟩,_⟩:=aad n3;have hlt2:=aaa n3;clear n3 hb3 HMV HN2 HM2 HB2 HA2 hw3 HW2 HG;go_wp2_with fail
 refine HMV3.out.mono ?_;clear d0 d1 d2 hlt2;rintro e w4 hT;obtain⟨v,x,rfl⟩:=hT.shape;have HT:=hE0 (hT.after HB3.out);clear hT HMV3 HB3;go_wp2
 go_ret2
 exact HT.out
end
section
variable {w:World} {g base cap c:Nat} {A:Option Addr} {bs:List UInt8} {H:Hp} {xo xs s i:Nat}
theorem alo (h:Ar w 195 g base cap A c bs) (hbase:base<=4611686018427387904) (hcap:cap<=16384) (hc:H.cap=cap) (hR:Rt bs H) (hs:aaD (s:Int)=true) (hi:aaY H.blks (xo:Int)=some i) (hx:aam H.blks i=⟨xo,xs,true⟩) (hlt:xs<s):
 Calls Tryz.prog 193 #[.pointer (some ⟨g,0,none⟩), .agg #[.int .i64 (xo:Int), .int .i64 (xs:Int), .bool true], .int .i64 (s:Int)] w fun e w'=>RezTold g base cap A bs H (xo:Int) (H.resize (xo:Int) s) w e w':=by
 obtain⟨i1,i2,i3⟩:=aeq hi;obtain⟨m1,m2⟩:=aeR i1;obtain⟨A1,p,n,B1,eA,eB,hN⟩:=ak5 (H.blks.take i) (H.blks.drop (i+1));rw[hx]at m1;have hb:H.blks=(A1++p.toList)++⟨xo,xs,true⟩::(n.toList++B1):=by rw[<-eA,<-eB];exact m1
 have hlen:(A1++p.toList).length=i:=by rw[<-eA];exact m2
 obtain⟨z,hz⟩:=nmE ((n.map Bk.size).getD 0);obtain⟨_,_,w3,_⟩:=aiy hb hN.nf hN.nu;rw[hlen,hz]at w3;have hlE:=hR.lenE;have hle:=hR.len;have er:H.resize (xo:Int) s=if s<=xs+z then ((xo,0),(H.widen i).cut i s) else if afq H i s=true then ((xo,0),(H.widen i).size i s) else aln H (xo:Int) s:=by
  unfold Hp.resize;rw[hi];dsimp only;rw[hx,w3];dsimp only;rw[if_neg (by omega)];rfl
 rw[er];by_cases h1:s<=xs+z
 · rw[if_pos h1];have k:=alm h hbase hcap hc hR hb hN hz hs h1;rw[hlen]at k;refine k.mono ?_;rintro e w' ⟨rfl,out,k1,k2,k3⟩;exact RezTold.yes k1 k2 k3 (k3.moved rfl)
 · rw[if_neg h1];by_cases h2:xo+(xs+z)=bs.length
   · by_cases h3:bs.length+(s-(xs+z))<=cap
     · have hg:afq H i s=true:=by
        unfold afq;rw[hx,w3,hlE,Bool.and_eq_true,decide_eq_true_eq,decide_eq_true_eq];exact⟨h2,by omega⟩
       rw[if_pos hg];have k:=aiG h hbase hcap hc hR hb hN hz hs (by omega) h2 h3;rw[hlen]at k;refine k.mono ?_;rintro e w' ⟨rfl,out,k1,k2,k3⟩;exact RezTold.yes k1 k2 k3 (k3.moved rfl)
     · have hg:¬afq H i s=true:=by
        unfold afq;rw[hx,w3,hlE,Bool.and_eq_true,decide_eq_true_eq,decide_eq_true_eq];rintro⟨_,h4⟩;omega
       rw[if_neg hg];exact ag2 h hbase hcap hc hR hb hN hz hs (by omega) hi hx h2 (by omega)
   · have hg:¬afq H i s=true:=by
      unfold afq;rw[hx,w3,hlE,Bool.and_eq_true,decide_eq_true_eq,decide_eq_true_eq];rintro⟨h4,_⟩;exact h2 h4
     rw[if_neg hg];exact ag1 h hbase hcap hc hR hb hN hz hs (by omega) hi hx h2
end
theorem ath:ate:=by
 intro w g base cap c A bs H o s h hbase hcap hc hR ho hsr;have hT:=aug w g base cap c A bs H o s h hbase hcap hc hR ho hsr;constructor
 · intro hs;have HT:=hE0 (hT.1 hs);dsimp only[aat]at HT ⊢;clear hT hs h hR;go_enter Tryz.func129,Tryz.ntmps129
   go_wp2_with fail
   refine HT.out.mono ?_;rintro e w1 ⟨rfl,hb1⟩;have HB1:=hE0 hb1;have HI:=hE0 (au7 w1);clear hb1 HT;go_wp2_with fail
   refine HI.out.mono ?_;rintro e w2 ⟨rfl,rfl⟩;clear HI;go_wp2
   go_ret2
   exact⟨rfl,HB1.out⟩
 · intro hs;have hq:=(aac _).1 hs;obtain⟨n,rfl⟩:∃n:Nat,s=(n:Int):=⟨s.toNat,by omega⟩;rw[Int.toNat_natCast];have hT:=hT.2 hs;rw[Int.toNat_natCast]at hT;have HUK:=hE0 (fun w1 (hB:Below w.heap.size w w1)=>arx w1 g base cap c A bs H o (h.below hB) hbase hcap hc hR ho)
   cases hi:aaY H.blks o with
   | none=>
    have e1:H.trimO o n=none:=by unfold Hp.trimO;rw[hi]
    have e2:H.resize o n=((0,3),H):=by unfold Hp.resize;rw[hi]
    rw[e1]at hT;rw[e2];rw[hi]at HUK;dsimp only[acS,aay,bkV,Bk.val,Option.isSome,aat,Option.map]at HUK hT;have HT:=hE0 hT;clear hT hs h hR e1 e2 hi;go_enter Tryz.func129,Tryz.ntmps129
    go_wp2_with fail
    refine HT.out.mono ?_;rintro e w1 ⟨rfl,hb1⟩;have HB1:=hE0 hb1;have HI:=hE0 (auh w1);have HU:=hE0 (HUK.out w1 hb1);clear hb1 HT HUK;go_wp2_with fail
    refine HI.out.mono ?_;rintro e w2 ⟨rfl,rfl⟩;clear HI;go_wp2_with fail
    refine HU.out.mono ?_;rintro e w3 ⟨rfl,hb3⟩;have hb3':=HB1.out.trans (hb3.mono HB1.out.size);have HB3:=hE0 (hb3'.alloc hb3'.size (.cells #[.int .i64 0, .int .i64 0, .bool false] 112));clear hb3 hb3' HU HB1;go_wp2
    go_ret2
    exact RezTold.no (by decide) HB3.out
   | some i=>
    obtain⟨i1,i2,i3⟩:=aeq hi;obtain⟨x,hx⟩:=nmE (aam H.blks i);obtain⟨xo,xs,xu⟩:=x;rw[hx]at i2 i3;dsimp only at i2 i3;subst i3;subst i2;have hxb:=(hR.bound (by omega)).2 _ (List.mem_of_getElem? (aar i1));rw[hx]at hxb;dsimp only at hxb;have hbl:=(hR.bound (by omega)).1;by_cases hle:n<=xs
    · have e1:H.trimO (xo:Int) n=some (H.cut i n):=by
       unfold Hp.trimO;rw[hi];dsimp only;rw[hx];dsimp only;rw[if_neg (by omega)]
      have e2:H.resize (xo:Int) n=((xo,0),H.cut i n):=by
       unfold Hp.resize;rw[hi];dsimp only;rw[hx];dsimp only;rw[if_pos hle]
      rw[e1]at hT;rw[e2];dsimp only[acS,aat]at hT;have HT:=hE0 hT;clear hT hs h hR e1 e2 hi HUK;go_enter Tryz.func129,Tryz.ntmps129
      go_wp2_with fail
      refine HT.out.mono ?_;rintro e w1 ⟨rfl,out,hB,hR1,hH1⟩;have HF:=hE0 (RezTold.yes (o:=(xo:Int)) hB hR1 hH1 (hH1.moved rfl));clear hB hR1 hH1 HT;go_wp2
      go_ret2
      exact HF.out
    · have e1:H.trimO (xo:Int) n=none:=by
       unfold Hp.trimO;rw[hi];dsimp only;rw[hx];dsimp only;rw[if_pos (by omega)]
      have HE:=hE0 (fun w1 (hB:Below w.heap.size w w1)=>alo (h.below hB) hbase hcap hc hR hs hi hx (by omega));obtain⟨rr,hrr⟩:=nmE (H.resize (xo:Int) n);rw[hrr]at HE ⊢;rw[e1]at hT;rw[hi,Option.map_some,hx]at HUK;dsimp only[acS,aay,bkV,Bk.val,Option.isSome,aat]at HUK hT;have HT:=hE0 hT;clear hT hs h hR e1 hi hrr;go_enter Tryz.func129,Tryz.ntmps129
      go_wp2_with fail
      refine HT.out.mono ?_;rintro e w1 ⟨rfl,hb1⟩;have HB1:=hE0 hb1;have HI:=hE0 (auh w1);have HU:=hE0 (HUK.out w1 hb1);clear hb1 HT HUK;go_wp2_with fail
      refine HI.out.mono ?_;rintro e w2 ⟨rfl,rfl⟩;clear HI;go_wp2_with fail
      refine HU.out.mono ?_;rintro e w3 ⟨rfl,hb3⟩;have hb3':=HB1.out.trans (hb3.mono HB1.out.size);obtain⟨w4,hw4⟩:=nmE (w3.alloc (.cells #[.int .i64 (xo:Int), .int .i64 (xs:Int), .bool true] 112));have hb4:Below w.heap.size w w4:=by rw[<-hw4];exact hb3'.alloc hb3'.size _
      have n4:=anE hw4;have HE4:=hE0 (HE.out w4 hb4);have HB4:=hE0 hb4;have HW4:=hE0 hw4;obtain⟨⟨d0,d1,d2⟩,_⟩:=aad n4;have hlt4:=aaa n4;clear hb3 hb3' HU HB1 HE hb4 hw4 n4;go_wp2_with (first | (rw[HW4.out]) | fail)
      refine HE4.out.mono ?_;clear d0 d1 d2 hlt4;rintro e w5 hT;obtain⟨v,x,rfl⟩:=hT.shape;have HT:=hE0 (hT.after HB4.out);clear hT HE4 HB4;go_wp2
      go_ret2
      exact HT.out
end Go.Proofs.YtncadccbepjekaaGreatDoor
