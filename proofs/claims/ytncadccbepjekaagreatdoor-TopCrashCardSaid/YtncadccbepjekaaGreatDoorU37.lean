/- Texts of mine, joined. -/
import Derived.Test.YtncadccbepjekaaGreatDoorU34
set_option maxRecDepth 100000
set_option maxHeartbeats 2000000
namespace Go.Proofs.YtncadccbepjekaaGreatDoor
open Go.RowKit
section
variable {P:Program} {ops:Array Oper} {Q:Exit->Act->World->Prop}
theorem asr{i:Nat}{S:Nat->Prop}{o:Oper}{a:Act}{w:World}{K:(Nat->Prop)->Act->World->Prop}(d:Option Tmp) (ho:ops[i]?=some o) (hd:o.dst=d) (hw:Region.wanted o (yielded ops a.tmps)=false) (hk:K S (a.put d undef) w):
 wpOp P ops Q i (fun a'' w''=>Tch S w w''/\∃S':Nat->Prop,(∀k,k<w.heap.size->S' k->S k)/\K S' a'' w'') a w:=by
 subst hd;unfold wpOp;simp only[ho];rw[if_neg (by rw[hw];decide)];exact⟨Tch.refl _ _,S,fun _ _ h=>h,hk⟩
end
def amd (H:Hp) (o:Int) (s:Nat):(Nat × Int) × Hp:=match (H.take s).1 with
 | none=>((0,5),H)
 | some p=>((p,0),(((H.take s).2.moveD (p:Int) o).giveO o).getD ((H.take s).2.moveD (p:Int) o))
section
variable {w w1 w':World} {g base cap c:Nat} {A:Option Addr} {bs:List UInt8} {H:Hp} {o:Int} {r:(Nat × Int) × Hp} {e:Ending}
theorem RezTold.after (h:RezTold g base cap A bs H o r w1 e w') (hb:Below w.heap.size w w1):RezTold g base cap A bs H o r w e w':=by
 refine⟨fun hr=> ?_,fun hr=> ?_⟩
 · obtain⟨h1,out,h2,h3⟩:=h.1 hr;exact⟨h1,out,h2.after hb,h3⟩
 · obtain⟨h1,h2⟩:=h.2 hr;exact⟨h1,hb.trans (h2.mono hb.size)⟩
theorem RezTold.shape (h:RezTold g base cap A bs H o r w e w'):∃(v:Int) (x:Value),e= .returned (.tuple #[.int .i64 v,x]):=by
 by_cases hr:r.1.2=0
 · exact⟨_,_,(h.1 hr).1⟩
 · exact⟨_,_,(h.2 hr).1⟩
theorem RezTold.yes{p:Nat}{H':Hp}{out:List UInt8}(hb:Became 195 g base cap A out w w') (h1:Rt out H') (h2:Held H bs H' out) (h3:ai6 H bs o H' out p):RezTold g base cap A bs H o ((p,0),H') w (.returned (.tuple #[.int .i64 (p:Int),aat true 0])) w':=
 ⟨fun _=>⟨rfl,out,hb,h1,h2,h3⟩,fun hr=>absurd rfl hr⟩
theorem RezTold.no{k:Int}(hk:k≠0) (hb:Below w.heap.size w w'):RezTold g base cap A bs H o ((0,k),H) w (.returned (.tuple #[.int .i64 0,aat false k])) w':=
 ⟨fun hr=>absurd hr hk,fun _=>⟨rfl,hb⟩⟩
theorem anh (h:Ar w 195 g base cap A c bs) (hbase:base<=4611686018427387904) (hcap:cap<=16384) (hc:H.cap=cap) (hR:Rt bs H){xo xs s i:Nat}(hs:aaB (s:Int)=true) (hi:aaY H.blks (xo:Int)=some i) (hx:aam H.blks i=⟨xo,xs,true⟩) (hlt:xs<s):
 Calls Tryz.prog 245 #[.pointer (some ⟨g,0,none⟩), .agg #[.int .i64 (xo:Int), .int .i64 (xs:Int), .bool true], .int .i64 (s:Int)] w fun e w'=>RezTold g base cap A bs H (xo:Int) (amd H (xo:Int) s) w e w':=by
 unfold amd
 cases hq:(H.take s).1 with
 | none=>
  refine(at7 h hbase hcap hc hR xo xs s hs hq).mono ?_;rintro e w' ⟨rfl,hb⟩;exact RezTold.no (by decide) hb
 | some q=>
  refine(asj h hbase hcap hc hR hs hi hx hlt hq).mono ?_;rintro e w' ⟨rfl,out,hb,h1,h2,h3⟩;exact RezTold.yes hb h1 h2 h3
end
section
variable {w:World} {g base cap c:Nat} {A:Option Addr} {bs:List UInt8} {H:Hp} {A1 B1:List Bk} {p n:Option Bk} {xo xs z s:Nat}
theorem ajp (h:Ar w 195 g base cap A c bs) (hbase:base<=4611686018427387904) (hcap:cap<=16384) (hc:H.cap=cap) (hR:Rt bs H) (hb:H.blks=(A1++p.toList)++⟨xo,xs,true⟩::(n.toList++B1)) (hN:alu A1 p n B1) (hz:(n.map Bk.size).getD 0=z) (hs:aaB (s:Int)=true) (hle:xs+z<s) (hend:xo+(xs+z)=bs.length) (hroom:bs.length+(s-(xs+z))<=cap):
 Calls Tryz.prog 193 #[.pointer (some ⟨g,0,none⟩), .agg #[.int .i64 (xo:Int), .int .i64 (xs:Int), .bool true], .int .i64 (s:Int)] w fun e w'=>e= .returned (.tuple #[.int .i64 (xo:Int),aat true 0])/\
  ∃out,Became 195 g base cap A out w w'/\Rt out ((H.widen (A1++p.toList).length).size (A1++p.toList).length s)/\Held H bs ((H.widen (A1++p.toList).length).size (A1++p.toList).length s) out:=by
 have ss:=(aab _).1 hs;obtain⟨hl,hbd⟩:=hR.bound (by omega);have hx:=hbd ⟨xo,xs,true⟩ (by rw[hb];simp);dsimp only at hx;have hn:∀y,n=some y->0<y.size/\y.off<=16384:=fun y hy=>by have:=hbd y (by rw[hb,hy];simp);omega
 have hzl:xs+z<=16384:=by omega
 have hy:=(hR.md (by omega)).behind hb hN;dsimp only at hy;have ef:=afX 0 n;rw[hz]at ef;obtain⟨fo,hfo⟩:∃fo:Int,(n.map fun z=>(z.off:Int)).getD 0=fo:=⟨_,rfl⟩;rw[hfo]at ef;obtain⟨b1,b2,e1,e2,l1,hR2,hH2⟩:=hR.grown (by omega) hb hN hz hs hle hend (by omega);obtain⟨bz,hbz⟩:=nmE (bs++List.replicate (s-(xs+z)) 0);have hbzl:bz.length<=16384:=by rw[<-hbz,List.length_append,List.length_replicate];omega
 have HG:=hE0 (fun w2 c2 A2 (a2:Ar w2 195 g base cap A2 c2 bs)=>aiD a2 (s-(xs+z)) (by omega) hcap hroom);rw[hbz]at HG e1;have ez:((s-(xs+z):Nat):Int)=(s:Int)-((xs:Int)+(z:Int)):=by omega
 rw[ez]at HG;have HJ:=hE0 (fun w4 c4 A4 (a4:Ar w4 195 g base cap A4 c4 bz)=>am9 (w:=w4) (w1:=w4) ⟨A4,c4,a4,Tch.refl _ _, .inl rfl⟩ hbase hbzl xo xs s n (by omega) hn (by omega) (by omega) e1 e2);rw[ef]at HJ;have HR2:=hE0 hR2;have HH2:=hE0 hH2;have k1:((xo:Int)+((xs:Int)+(z:Int))==(bs.length:Int))=true:=by rw[beq_iff_eq];omega
 obtain⟨w0,hw0⟩:=nmE (w.alloc (.cells #[.int .i64 (xo:Int), .int .i64 (xs:Int), .bool true] 112));have hb0:=abE hw0;have n0:=anE hw0;have hF:=aeu (h.below hb0) hbase hl xo xs (by omega) (by omega) n hy;rw[ef]at hF;have HF:=hE0 hF;have HA:=hE0 h;have HW0:=hE0 hw0;have HB0:=hE0 hb0;have HN0:=hE0 n0;have g1:((xs:Int)+(z:Int)<(s:Int)):=by omega
 obtain⟨⟨d0,d1,d2⟩,_⟩:=aad n0;have hlt0:=aac n0;dsimp only[aat];clear hF hw0 hb0 n0 h hR hb hN hz hy hn hbd hs hle ef hfo hc e1 e2 l1 hR2 hH2 hbz ez hend;go_enter Tryz.func193,Tryz.ntmps193
 go_wp2_with (first | (rw[HW0.out]) | fail)
 refine HF.out.mono ?_;clear d0 d1 d2 hlt0;rintro e w1 ⟨rfl,hb1⟩;have n1:=Loc.below hb1 _ _ HN0.out;obtain⟨w2,hw2⟩:=nmE (w1.alloc (.cells #[.int .i64 fo, .int .i64 (z:Int), .bool false] 112));have m2:=anE hw2;have n2:w2.heap[w.heap.size]?=some (.cells #[.int .i64 (xo:Int), .int .i64 (xs:Int), .bool true] 112 (0,0)):=by rw[<-hw2];exact(heap_alloc_old _ _ (aae n1)).trans n1
 have hb01:=HB0.out.trans (hb1.mono HB0.out.size);have hb2:Below w.heap.size w w2:=by rw[<-hw2];exact hb01.alloc hb01.size _
 obtain⟨⟨d0,d1,d2⟩,_⟩:=aad n2;have hlt2:=aac n2;obtain⟨⟨c0,c1,c2⟩,_⟩:=aad m2;have hlt3:=aac m2;have a2:=HA.out.below hb2;have HNF:=hE0 (ajf a2 n2);have HL:=hE0 (abL a2.drew);have HA2:=hE0 a2;have HW2:=hE0 hw2;have HN2:=hE0 n2;have HM2:=hE0 m2;have HB2:=hE0 hb2;clear hb1 n1 hw2 m2 n2 hb01 hb2 HF HN0 a2 HA HB0;go_wp2_with (first | (rw[HW2.out]) | fail)
 clear c0 c1 c2 hlt3 d1 d2;refine aa0 (foot g A) [([0,1,2,3,4],5),([6,7,8,9,10,11],12)] [13,14] [] (by kernel_rfl) (by kernel_rfl) (by kernel_rfl) (fun _ _ _ _ _ h=>h) ?_;have q0:∀z:LaterS (foot g A) w2.drew,z.val.cell? ⟨w.heap.size,0,none⟩=some (.int .i64 (xo:Int)):=fun z=>z.ext.cell d0 HNF.out;clear d0;refine abF (l:= ?seg1) ?hseg1 ?_
 case hseg1=>simp only[pick,lE1,lE2,lE3];rfl
 repeat (go_big_quiet_step (fail))
 refine wpQuiet_nil ?_;clear q0;refine abO (vs:= #[.pointer (some ⟨g,0,none⟩)]) Tryz.call97 rfl rfl rfl (R:=fun r w'=>r= .int .i64 (bs.length:Int)/\w'=w2.drew) (HL.out.mono ?_) ?_
 · rintro e w' ⟨rfl,rfl⟩;exact⟨_,rfl,Tch.refl _ _,rfl,rfl⟩
 rintro r w3 _ ⟨rfl,rfl⟩;refine⟨foot g A,fun _ _ h=>h,?_⟩;clear HL;refine abF (l:= ?seg2) ?hseg2 ?_
 case hseg2=>simp only[pick,lE1,lE2,lE3];rfl
 simp only[Act.put,lE4,lE5,lE6];repeat (go_big_quiet_step (fail))
 refine wpQuiet_nil ?_;refine abO (vs:= #[.pointer (some ⟨g,0,none⟩), .int .i64 ((s:Int)-((xs:Int)+(z:Int)))]) Tryz.call65 rfl rfl rfl (R:=fun r w'=>r= .nilIface/\Became 195 g base cap A bz w2.drew w') ((HG.out w2.drew c A HA2.out.drew).mono ?_) ?_
 · rintro e w' ⟨rfl,hB⟩;have hB':=hB;obtain⟨_,_,_,ht,_⟩:=hB';exact⟨_,rfl,ht,rfl,hB⟩
 rintro r w4 _ ⟨rfl,hB4⟩;refine⟨foot g A,fun _ _ h=>h,?_⟩;clear k1;refine acX (l:= ?la4) (t:= []) ?hla4 ?htl4 ?_
 case hla4=>simp only[pick,lE1,lE2,lE3];rfl
 case htl4=>rfl
 simp only[Act.put,lE4,lE5,lE6];repeat (go_big_quiet_step (fail))
 refine wpQuiet_nil ?_;obtain⟨A4,c4,a4,t4,k4⟩:=hB4;have n4:=Loc.tch HA2.out.drew t4 _ _ HN2.out;have m4:=Loc.tch HA2.out.drew t4 _ _ HM2.out;have HJ4:=hE0 (HJ.out w4 c4 A4 a4);have HTR:=hE0 (fun b5 w5 (k:Became 195 g base cap A4 b5 w4 w5)=>(Became.of_drew (Became.trans a4 t4 k4 k)).after HB2.out);have HA4:=hE0 a4;have HN4:=hE0 n4;obtain⟨⟨d0,d1,d2⟩,_⟩:=aad n4;have hlt2:=aac n4;obtain⟨⟨c0,c1,c2⟩,_⟩:=aad m4;have hlt3:=aac m4;clear a4 t4 k4 n4 m4 HJ HG HN2 HM2 HB2;go_wp2_with fail
 refine HJ4.out.mono ?_;clear d0 d1 d2 hlt2 c0 c1 c2 hlt3;rintro e w5 ⟨rfl,hB5⟩;have HB5:=hE0 (HTR.out b2 w5 hB5);obtain⟨A5,c5,a5,t5,k5⟩:=hB5;have n5:=Loc.tch HA4.out t5 _ _ HN4.out;obtain⟨⟨d0,d1,d2⟩,_⟩:=aad n5;have hlt2:=aac n5;clear a5 t5 k5 n5 HJ4 HTR HA4 HN4;go_wp2
 go_ret2
 exact⟨rfl,b2,HB5.out,HR2.out,HH2.out⟩
theorem ahM (h:Ar w 195 g base cap A c bs) (hbase:base<=4611686018427387904) (hcap:cap<=16384) (hc:H.cap=cap) (hR:Rt bs H) (hb:H.blks=(A1++p.toList)++⟨xo,xs,true⟩::(n.toList++B1)) (hN:alu A1 p n B1) (hz:(n.map Bk.size).getD 0=z) (hs:aaB (s:Int)=true) (hle:xs+z<s){i:Nat}(hi:aaY H.blks (xo:Int)=some i) (hx0:aam H.blks i=⟨xo,xs,true⟩) (hend:xo+(xs+z)≠bs.length):
 Calls Tryz.prog 193 #[.pointer (some ⟨g,0,none⟩), .agg #[.int .i64 (xo:Int), .int .i64 (xs:Int), .bool true], .int .i64 (s:Int)] w fun e w'=>RezTold g base cap A bs H (xo:Int) (amd H (xo:Int) s) w e w':=by
 have ss:=(aab _).1 hs;obtain⟨hl,hbd⟩:=hR.bound (by omega);have hx:=hbd ⟨xo,xs,true⟩ (by rw[hb];simp);dsimp only at hx;have hn:∀y,n=some y->0<y.size/\y.off<=16384:=fun y hy=>by have:=hbd y (by rw[hb,hy];simp);omega
 have hzl:xs+z<=16384:=by omega
 have hy:=(hR.md (by omega)).behind hb hN;dsimp only at hy;have ef:=afX 0 n;rw[hz]at ef;obtain⟨fo,hfo⟩:∃fo:Int,(n.map fun z=>(z.off:Int)).getD 0=fo:=⟨_,rfl⟩;rw[hfo]at ef;have HMV:=hE0 (fun w2 (hb2:Below w.heap.size w w2)=>anh (h.below hb2) hbase hcap hc hR hs hi hx0 (by omega));obtain⟨mr,hmr⟩:=nmE (amd H (xo:Int) s);rw[hmr]at HMV ⊢;have k1:((xo:Int)+((xs:Int)+(z:Int))==(bs.length:Int))=false:=by rw[beq_eq_false_iff_ne];omega
 obtain⟨w0,hw0⟩:=nmE (w.alloc (.cells #[.int .i64 (xo:Int), .int .i64 (xs:Int), .bool true] 112));have hb0:=abE hw0;have n0:=anE hw0;have hF:=aeu (h.below hb0) hbase hl xo xs (by omega) (by omega) n hy;rw[ef]at hF;have HF:=hE0 hF;have HA:=hE0 h;have HW0:=hE0 hw0;have HB0:=hE0 hb0;have HN0:=hE0 n0;have g1:((xs:Int)+(z:Int)<(s:Int)):=by omega
 obtain⟨⟨d0,d1,d2⟩,_⟩:=aad n0;have hlt0:=aac n0;clear hF hw0 hb0 n0 h hR hb hN hz hy hn hbd hs hle ef hfo hc hend hi hx0 hmr;go_enter Tryz.func193,Tryz.ntmps193
 go_wp2_with (first | (rw[HW0.out]) | fail)
 refine HF.out.mono ?_;clear d0 d1 d2 hlt0;rintro e w1 ⟨rfl,hb1⟩;have n1:=Loc.below hb1 _ _ HN0.out;obtain⟨w2,hw2⟩:=nmE (w1.alloc (.cells #[.int .i64 fo, .int .i64 (z:Int), .bool false] 112));have m2:=anE hw2;have n2:w2.heap[w.heap.size]?=some (.cells #[.int .i64 (xo:Int), .int .i64 (xs:Int), .bool true] 112 (0,0)):=by rw[<-hw2];exact(heap_alloc_old _ _ (aae n1)).trans n1
 have hb01:=HB0.out.trans (hb1.mono HB0.out.size);have hb2:Below w.heap.size w w2:=by rw[<-hw2];exact hb01.alloc hb01.size _
 obtain⟨⟨d0,d1,d2⟩,_⟩:=aad n2;have hlt2:=aac n2;obtain⟨⟨c0,c1,c2⟩,_⟩:=aad m2;have hlt3:=aac m2;have a2:=HA.out.below hb2;have HNF:=hE0 (ajf a2 n2);have HL:=hE0 (abL a2.drew);have HA2:=hE0 a2;have HW2:=hE0 hw2;have HN2:=hE0 n2;have HM2:=hE0 m2;have HB2:=hE0 hb2;clear hb1 n1 hw2 m2 n2 hb01 hb2 HF HN0 a2 HA HB0;go_wp2_with (first | (rw[HW2.out]) | fail)
 clear c0 c1 c2 hlt3 d1 d2;refine aa0 (foot g A) [([0,1,2,3,4],5),([6,7,8,9,10,11],12)] [13,14] [] (by kernel_rfl) (by kernel_rfl) (by kernel_rfl) (fun _ _ _ _ _ h=>h) ?_;have q0:∀z:LaterS (foot g A) w2.drew,z.val.cell? ⟨w.heap.size,0,none⟩=some (.int .i64 (xo:Int)):=fun z=>z.ext.cell d0 HNF.out;clear d0;refine abF (l:= ?seg1) ?hseg1 ?_
 case hseg1=>simp only[pick,lE1,lE2,lE3];rfl
 repeat (go_big_quiet_step (fail))
 refine wpQuiet_nil ?_;clear q0;refine abO (vs:= #[.pointer (some ⟨g,0,none⟩)]) Tryz.call97 rfl rfl rfl (R:=fun r w'=>r= .int .i64 (bs.length:Int)/\w'=w2.drew) (HL.out.mono ?_) ?_
 · rintro e w' ⟨rfl,rfl⟩;exact⟨_,rfl,Tch.refl _ _,rfl,rfl⟩
 rintro r w3 _ ⟨rfl,rfl⟩;refine⟨foot g A,fun _ _ h=>h,?_⟩;clear HL;refine abF (l:= ?seg2) ?hseg2 ?_
 case hseg2=>simp only[pick,lE1,lE2,lE3];rfl
 simp only[Act.put,lE4,lE5,lE6];repeat (go_big_quiet_step (fail))
 refine wpQuiet_nil ?_;refine asr (some 48) rfl rfl rfl ?_;clear k1;refine acX (l:= ?la4) (t:= []) ?hla4 ?htl4 ?_
 case hla4=>simp only[pick,lE1,lE2,lE3];rfl
 case htl4=>rfl
 simp only[Act.put,lE4,lE5,lE6];repeat (go_big_quiet_step (fail))
 refine wpQuiet_nil ?_;obtain⟨w3,hw3⟩:=nmE w2.drew;have hb3:Below w.heap.size w w3:=by rw[<-hw3];exact HB2.out.drew
 have n3:w3.heap[w.heap.size]?=some (.cells #[.int .i64 (xo:Int), .int .i64 (xs:Int), .bool true] 112 (0,0)):=by rw[<-hw3];exact HN2.out
 rw[hw3];have HMV3:=hE0 (HMV.out w3 hb3);have HB3:=hE0 hb3;obtain⟨⟨d0,d1,d2⟩,_⟩:=aad n3;have hlt2:=aac n3;clear n3 hb3 HMV HN2 HM2 HB2 HA2 hw3 HW2;go_wp2_with fail
 refine HMV3.out.mono ?_;clear d0 d1 d2 hlt2;rintro e w4 hT;obtain⟨v,x,rfl⟩:=hT.shape;have HT:=hE0 (hT.after HB3.out);clear hT HMV3 HB3;go_wp2
 go_ret2
 exact HT.out
theorem ahN (h:Ar w 195 g base cap A c bs) (hbase:base<=4611686018427387904) (hcap:cap<=16384) (hc:H.cap=cap) (hR:Rt bs H) (hb:H.blks=(A1++p.toList)++⟨xo,xs,true⟩::(n.toList++B1)) (hN:alu A1 p n B1) (hz:(n.map Bk.size).getD 0=z) (hs:aaB (s:Int)=true) (hle:xs+z<s){i:Nat}(hi:aaY H.blks (xo:Int)=some i) (hx0:aam H.blks i=⟨xo,xs,true⟩) (hend:xo+(xs+z)=bs.length) (hroom:cap<bs.length+(s-(xs+z))):
 Calls Tryz.prog 193 #[.pointer (some ⟨g,0,none⟩), .agg #[.int .i64 (xo:Int), .int .i64 (xs:Int), .bool true], .int .i64 (s:Int)] w fun e w'=>RezTold g base cap A bs H (xo:Int) (amd H (xo:Int) s) w e w':=by
 have ss:=(aab _).1 hs;obtain⟨hl,hbd⟩:=hR.bound (by omega);have hx:=hbd ⟨xo,xs,true⟩ (by rw[hb];simp);dsimp only at hx;have hn:∀y,n=some y->0<y.size/\y.off<=16384:=fun y hy=>by have:=hbd y (by rw[hb,hy];simp);omega
 have hzl:xs+z<=16384:=by omega
 have hy:=(hR.md (by omega)).behind hb hN;dsimp only at hy;have ef:=afX 0 n;rw[hz]at ef;obtain⟨fo,hfo⟩:∃fo:Int,(n.map fun z=>(z.off:Int)).getD 0=fo:=⟨_,rfl⟩;rw[hfo]at ef;have HMV:=hE0 (fun w2 (hb2:Below w.heap.size w w2)=>anh (h.below hb2) hbase hcap hc hR hs hi hx0 (by omega));obtain⟨mr,hmr⟩:=nmE (amd H (xo:Int) s);rw[hmr]at HMV ⊢;have hlc:bs.length<=cap:=by have:=hR.len;omega
 have HG:=hE0 (fun w2 c2 A2 (a2:Ar w2 195 g base cap A2 c2 bs)=>ajG a2 (s-(xs+z)) hlc hcap hroom);have ez:((s-(xs+z):Nat):Int)=(s:Int)-((xs:Int)+(z:Int)):=by omega
 rw[ez]at HG;have k1:((xo:Int)+((xs:Int)+(z:Int))==(bs.length:Int))=true:=by rw[beq_iff_eq];omega
 obtain⟨w0,hw0⟩:=nmE (w.alloc (.cells #[.int .i64 (xo:Int), .int .i64 (xs:Int), .bool true] 112));have hb0:=abE hw0;have n0:=anE hw0;have hF:=aeu (h.below hb0) hbase hl xo xs (by omega) (by omega) n hy;rw[ef]at hF;have HF:=hE0 hF;have HA:=hE0 h;have HW0:=hE0 hw0;have HB0:=hE0 hb0;have HN0:=hE0 n0;have g1:((xs:Int)+(z:Int)<(s:Int)):=by omega
 obtain⟨⟨d0,d1,d2⟩,_⟩:=aad n0;have hlt0:=aac n0;clear hF hw0 hb0 n0 h hR hb hN hz hy hn hbd hs hle ef hfo hc hend hi hx0 hmr ez hroom;go_enter Tryz.func193,Tryz.ntmps193
 go_wp2_with (first | (rw[HW0.out]) | fail)
 refine HF.out.mono ?_;clear d0 d1 d2 hlt0;rintro e w1 ⟨rfl,hb1⟩;have n1:=Loc.below hb1 _ _ HN0.out;obtain⟨w2,hw2⟩:=nmE (w1.alloc (.cells #[.int .i64 fo, .int .i64 (z:Int), .bool false] 112));have m2:=anE hw2;have n2:w2.heap[w.heap.size]?=some (.cells #[.int .i64 (xo:Int), .int .i64 (xs:Int), .bool true] 112 (0,0)):=by rw[<-hw2];exact(heap_alloc_old _ _ (aae n1)).trans n1
 have hb01:=HB0.out.trans (hb1.mono HB0.out.size);have hb2:Below w.heap.size w w2:=by rw[<-hw2];exact hb01.alloc hb01.size _
 obtain⟨⟨d0,d1,d2⟩,_⟩:=aad n2;have hlt2:=aac n2;obtain⟨⟨c0,c1,c2⟩,_⟩:=aad m2;have hlt3:=aac m2;have a2:=HA.out.below hb2;have HNF:=hE0 (ajf a2 n2);have HL:=hE0 (abL a2.drew);have HA2:=hE0 a2;have HW2:=hE0 hw2;have HN2:=hE0 n2;have HM2:=hE0 m2;have HB2:=hE0 hb2;clear hb1 n1 hw2 m2 n2 hb01 hb2 HF HN0 a2 HA HB0;go_wp2_with (first | (rw[HW2.out]) | fail)
 clear c0 c1 c2 hlt3 d1 d2;refine aa0 (foot g A) [([0,1,2,3,4],5),([6,7,8,9,10,11],12)] [13,14] [] (by kernel_rfl) (by kernel_rfl) (by kernel_rfl) (fun _ _ _ _ _ h=>h) ?_;have q0:∀z:LaterS (foot g A) w2.drew,z.val.cell? ⟨w.heap.size,0,none⟩=some (.int .i64 (xo:Int)):=fun z=>z.ext.cell d0 HNF.out;clear d0;refine abF (l:= ?seg1) ?hseg1 ?_
 case hseg1=>simp only[pick,lE1,lE2,lE3];rfl
 repeat (go_big_quiet_step (fail))
 refine wpQuiet_nil ?_;clear q0;refine abO (vs:= #[.pointer (some ⟨g,0,none⟩)]) Tryz.call97 rfl rfl rfl (R:=fun r w'=>r= .int .i64 (bs.length:Int)/\w'=w2.drew) (HL.out.mono ?_) ?_
 · rintro e w' ⟨rfl,rfl⟩;exact⟨_,rfl,Tch.refl _ _,rfl,rfl⟩
 rintro r w3 _ ⟨rfl,rfl⟩;refine⟨foot g A,fun _ _ h=>h,?_⟩;clear HL;refine abF (l:= ?seg2) ?hseg2 ?_
 case hseg2=>simp only[pick,lE1,lE2,lE3];rfl
 simp only[Act.put,lE4,lE5,lE6];repeat (go_big_quiet_step (fail))
 refine wpQuiet_nil ?_;refine abO (vs:= #[.pointer (some ⟨g,0,none⟩), .int .i64 ((s:Int)-((xs:Int)+(z:Int)))]) Tryz.call65 rfl rfl rfl (R:=fun r w'=>r= .iface 130 (.int .i64 5)/\∃k,w'=w2.drew.drewN k) ((HG.out w2.drew c A HA2.out.drew).mono ?_) ?_
 · rintro e w' ⟨rfl,k,rfl⟩;exact⟨_,rfl,Tch.of_below (S:=foot g A) ⟨rfl,rfl,rfl,Nat.le_refl _,fun _ _=>rfl⟩,rfl,k,rfl⟩
 rintro r w4 _ ⟨rfl,k,rfl⟩;refine⟨foot g A,fun _ _ h=>h,?_⟩;clear k1;refine acX (l:= ?la4) (t:= []) ?hla4 ?htl4 ?_
 case hla4=>simp only[pick,lE1,lE2,lE3];rfl
 case htl4=>rfl
 simp only[Act.put,lE4,lE5,lE6];repeat (go_big_quiet_step (fail))
 refine wpQuiet_nil ?_;obtain⟨w3,hw3⟩:=nmE (w2.drew.drewN k);have hb3:Below w.heap.size w w3:=by
  rw[<-hw3];have hd:=HB2.out.drew;exact⟨hd.os,hd.tape,hd.output,hd.size,hd.block⟩
 have n3:w3.heap[w.heap.size]?=some (.cells #[.int .i64 (xo:Int), .int .i64 (xs:Int), .bool true] 112 (0,0)):=by rw[<-hw3];exact HN2.out
 rw[hw3];have HMV3:=hE0 (HMV.out w3 hb3);have HB3:=hE0 hb3;obtain⟨⟨d0,d1,d2⟩,_⟩:=aad n3;have hlt2:=aac n3;clear n3 hb3 HMV HN2 HM2 HB2 HA2 hw3 HW2 HG;go_wp2_with fail
 refine HMV3.out.mono ?_;clear d0 d1 d2 hlt2;rintro e w4 hT;obtain⟨v,x,rfl⟩:=hT.shape;have HT:=hE0 (hT.after HB3.out);clear hT HMV3 HB3;go_wp2
 go_ret2
 exact HT.out
end
end Go.Proofs.YtncadccbepjekaaGreatDoor
