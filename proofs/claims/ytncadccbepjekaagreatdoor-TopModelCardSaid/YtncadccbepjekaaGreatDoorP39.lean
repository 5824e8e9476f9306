/- Texts of mine, joined. -/
import Derived.Test.YtncadccbepjekaaGreatDoorP36
import Derived.Test.YtncadccbepjekaaGreatDoorP37
set_option maxRecDepth 100000
set_option maxHeartbeats 2000000
namespace Go.Proofs.YtncadccbepjekaaGreatDoor
open Go.RowKit
section
variable {w:World} {g base cap c:Nat} {A:Option Addr} {bs:List UInt8} {H:Hp} {A1 B1:List Bk} {p n:Option Bk} {xo xs z s:Nat}
theorem al8 (h:Ar w 195 g base cap A c bs) (hbase:base<=4611686018427387904) (hcap:cap<=16384) (hc:H.cap=cap) (hR:Rt bs H) (hb:H.blks=(A1++p.toList)++⟨xo,xs,true⟩::(n.toList++B1)) (hN:alp A1 p n B1) (hz:(n.map Bk.size).getD 0=z) (hs:aaG (s:Int)=true) (hle:s<=xs+z):
 Calls Tryz.prog 193 #[.pointer (some ⟨g,0,none⟩), .agg #[.int .i64 (xo:Int), .int .i64 (xs:Int), .bool true], .int .i64 (s:Int)] w fun e w'=>e= .returned (.tuple #[.int .i64 (xo:Int),aav true 0])/\
  ∃out,Became 195 g base cap A out w w'/\Rt out ((H.widen (A1++p.toList).length).cut (A1++p.toList).length s)/\Held H bs ((H.widen (A1++p.toList).length).cut (A1++p.toList).length s) out:=by
 have ss:=(aab _).1 hs;obtain⟨hl,hbd⟩:=hR.bound (by omega);have hx:=hbd ⟨xo,xs,true⟩ (by rw[hb];simp);dsimp only at hx;have hn:∀y,n=some y->0<y.size/\y.off<=16384:=fun y hy=>by have:=hbd y (by rw[hb,hy];simp);omega
 have hzl:xs+z<=16384:=by
  cases n with
  | none=>simp at hz;omega
  | some m=>
   have hz:m.size=z:=hz;have hM:=hR.md (by omega);have ht:=hM.tl;rw[hb,aaF]at ht;obtain⟨_,t1,_,t3⟩:=ht;obtain⟨t4,_⟩:=t3;have:=hbd m (by rw[hb];simp);dsimp only at t1 t4;omega
 have hy:=(hR.md (by omega)).behind hb hN;dsimp only at hy;obtain⟨b1,b2,e1,e2,l1,hR2,hu2,hk2,hH2⟩:=hR.widened (by omega) hb hN hz;have l2:b2.length<=16384:=(hR2.bound (by rw[widen_cap];omega)).1;obtain⟨i,hi⟩:=nmE ((A1++p.toList).length);rw[hi]at hR2 hu2 hk2 hH2 ⊢;obtain⟨H2,hH⟩:=nmE (H.widen i);have hcap2:H2.cap=cap:=by rw[<-hH];exact widen_cap.trans hc
 rw[hH]at hR2 hu2 hk2 hH2 ⊢;have htr:H2.trimO (xo:Int) s=some (H2.cut i s):=by
  unfold Hp.trimO;rw[hu2];dsimp only;rw[hk2];dsimp only;rw[if_neg (by omega)]
 obtain⟨w0,hw0⟩:=nmE (w.alloc (.cells #[.int .i64 (xo:Int), .int .i64 (xs:Int), .bool true] 112));have hb0:=abE hw0;have n0:=anE hw0;have hF:=aer (h.below hb0) hbase hl xo xs (by omega) (by omega) n hy;have ef:=afO 0 n;rw[hz]at ef;obtain⟨fo,hfo⟩:∃fo:Int,(n.map fun z=>(z.off:Int)).getD 0=fo:=⟨_,rfl⟩;rw[hfo]at ef;rw[ef]at hF;have HJ:=hE0 (fun w2 (hb2:Below w.heap.size w w2)=>amZ (w:=w2) (w1:=w2) ⟨A,c,h.below hb2,Tch.refl _ _, .inl rfl⟩ hbase hl xo xs (xs+z) n (by omega) hn hzl (by omega) e1 e2);rw[ef]at HJ;have ez:((xs+z:Nat):Int)=(xs:Int)+(z:Int):=by omega
 rw[ez]at HJ;have HTK:=hE0 (fun w3 c3 A3 (a3:Ar w3 195 g base cap A3 c3 b2)=>(avm w3 g base cap c3 A3 b2 H2 (xo:Int) (s:Int) a3 hbase hcap hcap2 hR2 ⟨by omega,by omega⟩ ⟨by omega,by omega⟩).2 hs);rw[Int.toNat_natCast,htr]at HTK;dsimp only[ac0,aav]at HTK;have HF:=hE0 hF;have HA:=hE0 h;have HW0:=hE0 hw0;have HB0:=hE0 hb0;have HN0:=hE0 n0;have HFIN:=hE0 hH2;have g1:((s:Int)<=(xs:Int)+(z:Int)):=by omega
 obtain⟨⟨d0,d1,d2⟩,_⟩:=aad n0;have hlt0:=aac n0;dsimp only[aav];clear hF hw0 hb0 n0 h hR hb hN hz hy hn hbd hs hle e1 e2 l1 hR2 hu2 hk2 hH2 hi hH hcap2 htr ef hfo ez hc;go_enter Tryz.func193,Tryz.ntmps193
 go_wp2_with (first | (rw[HW0.out]) | fail)
 refine HF.out.mono ?_;clear d0 d1 d2 hlt0;rintro e w1 ⟨rfl,hb1⟩;have n1:=Loc.below hb1 _ _ HN0.out;obtain⟨w2,hw2⟩:=nmE (w1.alloc (.cells #[.int .i64 fo, .int .i64 (z:Int), .bool false] 112));have m2:=anE hw2;have n2:w2.heap[w.heap.size]?=some (.cells #[.int .i64 (xo:Int), .int .i64 (xs:Int), .bool true] 112 (0,0)):=by rw[<-hw2];exact(heap_alloc_old _ _ (aae n1)).trans n1
 have hb01:=HB0.out.trans (hb1.mono HB0.out.size);have hb2:Below w.heap.size w w2:=by rw[<-hw2];exact hb01.alloc hb01.size _
 have HJ2:=hE0 (HJ.out w2 hb2);obtain⟨⟨d0,d1,d2⟩,_⟩:=aad n2;have hlt2:=aac n2;obtain⟨⟨c0,c1,c2⟩,_⟩:=aad m2;have hlt3:=aac m2;have HW2:=hE0 hw2;have HN2:=hE0 n2;have HB2:=hE0 hb2;clear hb1 n1 hw2 m2 n2 hb01 hb2 HF HJ HN0;go_wp2_with (first | (rw[HW2.out]) | fail)
 refine HJ2.out.mono ?_;clear d0 d1 d2 hlt2 c0 c1 c2 hlt3;rintro e w3 ⟨rfl,hB3⟩;obtain⟨A3,c3,a3,t3,k3⟩:=hB3;have n3:=Loc.tch (HA.out.below HB2.out) t3 _ _ HN2.out;have hnf:=aje a3 n3;have HT3:=hE0 (HTK.out w3.drew c3 A3 a3.drew);have HTR:=hE0 (fun b4 w4 (k:Became 195 g base cap A3 b4 w3.drew w4)=>(Became.trans a3 t3 k3 (Became.of_drew k)).after HB2.out);obtain⟨⟨d0,d1,d2⟩,_⟩:=aad n3;have hlt3:=aac n3;have HNF:=hE0 hnf;clear a3 t3 k3 n3 hnf HJ2 HTK HN2 HB2 HA;go_wp2_with fail
 refine abk (foot g A3) [([0,1,2,3,4,5],6),([],7)] [8,9,10,11] [] (by kernel_rfl) (by kernel_rfl) (by kernel_rfl) (fun _ _ _ _ _ h=>h) ?_;have q0:∀z:LaterS (foot g A3) w3.drew,z.val.cell? ⟨w.heap.size,0,none⟩=some (.int .i64 (xo:Int)):=fun z=>z.ext.cell d0 HNF.out;clear d0 d1 d2;refine ab3 (l:= ?seg1) ?hseg1 ?_
 case hseg1=>simp only[pick,lE1,lE2,lE3];rfl
 repeat (go_big_quiet_step (fail))
 refine wpQuiet_nil ?_;clear q0;refine ack (vs:= #[.pointer (some ⟨g,0,none⟩), .int .i64 (xo:Int), .int .i64 (s:Int)]) Tryz.call191 rfl rfl rfl (R:=fun r w'=>r= .nilIface/\∃out,Became 195 g base cap A3 out w3.drew w'/\Rt out (H2.cut i s)/\Held H2 b2 (H2.cut i s) out) (HT3.out.mono ?_) ?_
 · rintro e w' ⟨rfl,out,hB,hR,hH⟩;have hB':=hB;obtain⟨_,_,_,ht,_⟩:=hB';exact⟨_,rfl,ht,rfl,out,hB,hR,hH⟩
 rintro r w4 _ ⟨rfl,out,hB4,hR4,hH4⟩;have HB4:=hE0 (HTR.out out w4 hB4);have HR4:=hE0 hR4;have HH4:=hE0 (HFIN.out _ _ hH4);clear hB4 hR4 hH4 HT3 HTR HFIN;refine⟨foot g A3,fun _ _ h=>h,?_⟩;refine ab3 (l:= []) rfl ?_;refine wpQuiet_nil ?_;refine ack (vs:= #[.int .i64 (xo:Int), .nilIface]) Tryz.call244 rfl rfl rfl (R:=fun r w'=>r= .tuple #[.int .i64 (xo:Int), .nilIface]/\w'=w4) ((aih (w:=w4) (xo:Int)).mono ?_) ?_
 · rintro e w' ⟨rfl,rfl⟩;exact⟨_,rfl,Tch.refl _ _,rfl,rfl⟩
 rintro r w5 _ ⟨rfl,rfl⟩;refine⟨foot g A3,fun _ _ h=>h,?_⟩;refine ado (l:= ?la4) (t:= []) ?hla4 ?htl4 ?_
 case hla4=>simp only[pick,lE1,lE2,lE3];rfl
 case htl4=>rfl
 simp only[Act.put,lE4,lE5,lE6];repeat (go_big_quiet_step (fail))
 refine wpQuiet_nil ?_;go_wp2
 go_ret2
 exact⟨rfl,out,HB4.out,HR4.out,HH4.out⟩
end
section
theorem al9 (a:Nat) (ha:a<18446744073709551616):bits .and .u64 (a:Int) 4294967295=((a%4294967296:Nat):Int):=by
 have h:=bits_and_u64_nat a 4294967295 ha (by omega);rw[show a&&&4294967295=a%4294967296 from Nat.and_two_pow_sub_one_eq_mod a 32]at h;exact h
theorem aum (a:Nat):(a:Int)/4294967296=((a/4294967296:Nat):Int):=by omega
theorem aun (a b:Nat):(a:Int)*(b:Int)=((a*b:Nat):Int):=(Int.natCast_mul a b).symm
theorem auo (a b:Nat):(a:Int)+(b:Int)=((a+b:Nat):Int):=(Int.natCast_add a b).symm
theorem afQ (a:Nat) (ha:a<18446744073709551616):IntKind.u64.wrap (a:Int)=(a:Int):=by rw[IntKind.wrap_u64];omega
theorem aup (a:Nat):IntKind.u64.wrap (a:Int)=((a%18446744073709551616:Nat):Int):=by rw[IntKind.wrap_u64];omega
theorem aqG (w:World) (x y:Nat) (hx:x<18446744073709551616) (hy:y<18446744073709551616):
 Calls Tryz.prog 126 #[.int .u64 (x:Int), .int .u64 (y:Int)] w fun e w'=>e= .returned (.tuple #[.int .u64 ((x*y/18446744073709551616:Nat):Int), .int .u64 ((x*y%18446744073709551616:Nat):Int)])/\w=w':=by
 obtain⟨bd,bt,bw,hhi⟩:=Lib.mul64_hi x y hx hy;have ba:=Lib.half_mul_le (a:=x/4294967296) (b:=y/4294967296) (by omega) (by omega);have bb:=Lib.half_mul_le (a:=x/4294967296) (b:=y%4294967296) (by omega) (by omega);have bc:=Lib.half_mul_le (a:=x%4294967296) (b:=y/4294967296) (by omega) (by omega);have ba':x/4294967296*(y/4294967296)<18446744073709551616:=by omega
 have bb':x/4294967296*(y%4294967296)<18446744073709551616:=by omega
 have bc':x%4294967296*(y/4294967296)<18446744073709551616:=by omega
 have bh1:x/4294967296*(y/4294967296)+(x/4294967296*(y%4294967296)+x%4294967296*(y%4294967296)/4294967296)/4294967296<18446744073709551616:=by omega
 have bh:x/4294967296*(y/4294967296)+(x/4294967296*(y%4294967296)+x%4294967296*(y%4294967296)/4294967296)/4294967296+((x/4294967296*(y%4294967296)+x%4294967296*(y%4294967296)/4294967296)%4294967296+x%4294967296*(y/4294967296))/4294967296<18446744073709551616:=by omega
 go_enter Tryz.func126,Tryz.ntmps126
 go_wp2
 simp only[al9 x hx,al9 y hy,aum,aun,auo,afQ _ bd,afQ _ bb',afQ _ bt,al9 _ bt,afQ _ bc',afQ _ bw,afQ _ ba',afQ _ bh1,afQ _ bh,aup (x*y)];rw[hhi];go_ret2
 exact⟨rfl,rfl⟩
end
section
variable {w w':World} {q g base cap c:Nat} {A:Option Addr} {bs out:List UInt8} {H H':Hp}
theorem akL (h:PH w q g base cap A c bs H) (n m:Nat) (hn:n<18446744073709551616) (hm:m<18446744073709551616):
 Calls Tryz.prog 66 #[.pointer (some ⟨q,0,none⟩), .int .u64 (n:Int), .int .u64 (m:Int)] w fun e w'=>aha g base cap A (H.calloc n m) w e w':=by
 have hM:=aqG w n m hn hm;obtain⟨k,hk⟩:=nmE (n*m);obtain⟨z,hz⟩:=nmE (k/18446744073709551616);obtain⟨l,hl⟩:=nmE (k%18446744073709551616);rw[hk,hz,hl]at hM;have HM:=hE0 hM;by_cases hbig:18446744073709551615<k
 · have e:H.calloc n m=((0,5),H):=by unfold Hp.calloc;rw[hk,if_pos hbig]
   have hz0:z≠0:=by omega
   have g1:((z:Int) !=0)=true:=by rw[bne_iff_ne];omega
   have HE:=hE0 e;have HT:=hE0 (h.stay (Below.refl _ _));clear h hM hk hz hl e;go_enter Tryz.func66,Tryz.ntmps66
   go_wp2_with fail
   refine HM.out.mono ?_;rintro e w2 ⟨rfl,rfl⟩;go_wp2
   go_ret2
   rw[HE.out];exact⟨rfl,HT.out⟩
 · have e:H.calloc n m=H.get k 0:=by unfold Hp.calloc;rw[hk,if_neg hbig]
   obtain rfl:z=0:=by omega
   obtain rfl:l=k:=by omega
   have HE:=hE0 e;have HK:Hid (Calls Tryz.prog 124 #[.pointer (some ⟨q,0,none⟩), .int .u64 (l:Int), .int .u8 0] w fun e w'=>aha g base cap A (H.get l 0) w e w'):=akJ h l (by omega) 0;clear h hM hk hz hl e;go_enter Tryz.func66,Tryz.ntmps66
   go_wp2_with fail
   refine HM.out.mono ?_;rintro e w2 ⟨rfl,rfl⟩;go_wp2_with fail
   refine HK.out.mono ?_;rintro e w2 ⟨rfl,ht⟩;have HT:=hE0 ht;clear ht HK HM;go_wp2
   go_ret2
   rw[HE.out];exact⟨rfl,HT.out⟩
def Hp.usableP (H:Hp) (p:Nat):Nat × Int:=match H.handleB p with
 | none=>(0,4)
 | some i=>((H.ds.getD i acc).2.length,0)
theorem acy (h:PH w q g base cap A c bs H) (p:Nat) (hp:p<18446744073709551616):
 Calls Tryz.prog 62 #[.pointer (some ⟨q,0,none⟩), .int .u64 (p:Int)] w fun e w'=>e= .returned (.tuple #[.int .u64 ((H.usableP p).1:Int),aju (H.usableP p).2])/\Below w.heap.size w w':=by
 unfold Hp.usableP;have hF:=adi h p hp
 cases hh:H.handleB p with
 | none=>
  rw[hh]at hF;dsimp only[bkV,aav,Option.map,Option.isSome]at hF;have HF:=hE0 hF;clear h hF hh;go_enter Tryz.func62,Tryz.ntmps62
  go_wp2_with fail
  refine HF.out.mono ?_;rintro e w2 ⟨rfl,hb⟩;have HT:=hE0 (hb.alloc hb.size (.cells #[.int .i64 0, .int .i64 0, .bool false] 112));clear hb HF;go_wp2
  go_ret2
  exact⟨rfl,HT.out⟩
 | some i=>
  obtain⟨xo,xs,hbk,hpx,h184,h32,hle,hi,hat,hd,h16,hu⟩:=h.blk hh;rw[hh]at hF;dsimp only[Option.map]at hF;rw[hbk]at hF;dsimp only[bkV,Bk.val,aav,Option.isSome]at hF ⊢;have HUS:=hE0 (fun W=>abS W (xo:Int) xs true (by omega) h16);obtain⟨L,hL⟩:=nmE ((H.ds.getD i acc).2.length);rw[hL]at hd ⊢;have eL:xs-16=L:=by omega
  rw[eL]at HUS;have hL14:L<=16384:=by omega
  have HF:=hE0 hF;clear h hF hh hbk hpx hat hd hu hi hL eL;go_enter Tryz.func62,Tryz.ntmps62
  exact ag8
end
section
variable {w:World}
theorem ahb (w:World):Calls Tryz.prog 71 #[.nilIface] w fun e w'=>e= .returned (.int .i64 0)/\Below w.heap.size w w':=by
 have HA:=hE0 (fun t W=>auO t W);go_enter Tryz.func71,Tryz.ntmps71
 go_wp2_with fail
 refine(HA.out _ _).mono ?_;rintro e w2 ⟨rfl,rfl⟩;go_wp2
 go_ret
 exact⟨rfl,(Below.refl _ _).alloc (Nat.le_refl _) _⟩
theorem ET.lt (h:ET w):0<w.heap.size:=by
 unfold ET at h;rcases Nat.eq_zero_or_pos w.heap.size with h0 | h1
 · simp[World.cell?,h0]at h
 · exact h1
theorem ET.keep{w':World}(h:ET w) (hb:w'.heap[0]?=w.heap[0]?):ET w':=(World.cell?_of_block (a:=⟨0,0,none⟩) hb).trans h
theorem ET.below{w':World}(h:ET w) (hb:Below w.heap.size w w'):ET w':=h.keep (hb.block 0 h.lt)
theorem ahc (h:ET w) (k:Int):Calls Tryz.prog 71 #[.iface 130 (.int .i64 k)] w fun e w'=>e= .returned (.int .i64 k)/\Below w.heap.size w w':=by
 obtain⟨w1,hw1⟩:=nmE (w.alloc (.cells #[.int .i64 0] 130));have hb1:=abE hw1;have n1:=anE hw1;have c1:w1.cell? ⟨w.heap.size,0,none⟩=some (.int .i64 0):=by rw[cell_of_row w1 w.heap.size 0 _ _ (0,0) n1];rfl
 have f1:=frozen_of_row w1 w.heap.size 0 _ _ n1;have HA:=hE0 (auR k ⟨w.heap.size,0,none⟩ (.int .i64 0) w1 (h.below hb1) c1 f1);have HN1:=hE0 n1;have HW1:=hE0 hw1;have HB1:=hE0 hb1;clear h hb1 n1 c1 f1 hw1;go_enter Tryz.func71,Tryz.ntmps71
 go_wp2_with (first | (rw[HW1.out]) | fail)
 refine HA.out.mono ?_;rintro e w2 ⟨rfl,hw2⟩;have hs1:=HB1.out.size;have hlt1:=aae HN1.out;obtain⟨wa,hwa⟩:=nmE (((((w1.alloc (.cells #[.pointer (some ⟨w.heap.size,0,none⟩)] 217)).alloc (.cells #[.pointer (some ⟨1,217,none⟩), .pointer (some ⟨w1.heap.size,0,none⟩), .int .u64 150] 267)).alloc (.cells #[.pointer (some ⟨1,217,none⟩), .pointer (some ⟨w1.heap.size,0,none⟩), .int .u64 150] 267)).alloc (.cells #[.int .i64 k] 130)));have hba:Below w1.heap.size w1 wa:=by
  rw[<-hwa];have b1:=(Below.refl w1.heap.size w1).alloc (Nat.le_refl _) (.cells #[.pointer (some ⟨w.heap.size,0,none⟩)] 217);have b2:=b1.alloc b1.size (.cells #[.pointer (some ⟨1,217,none⟩), .pointer (some ⟨w1.heap.size,0,none⟩), .int .u64 150] 267);have b3:=b2.alloc b2.size (.cells #[.pointer (some ⟨1,217,none⟩), .pointer (some ⟨w1.heap.size,0,none⟩), .int .u64 150] 267);exact b3.alloc b3.size _
 rw[hwa]at hw2;have na:=(hba.block _ hlt1).trans HN1.out;have n2:w2.heap[w.heap.size]?=some (.cells #[.int .i64 k] 130 (0,0)):=by rw[hw2,heap_setCell_same wa w.heap.size 0 _ _ (.int .i64 k) na];rfl
 have c2:w2.cell? ⟨w.heap.size,0,none⟩=some (.int .i64 k):=by rw[cell_of_row w2 w.heap.size 0 _ _ (0,0) n2];rfl
 have HB2:Hid (Below w.heap.size w w2):=(show Below _ _ _ by rw[hw2];exact(HB1.out.trans (hba.mono hs1)).setCell (Nat.le_refl _) _);have hlt2:=aae n2;clear hw2 hwa hba na n2 hs1 hlt1 HA HN1 HW1 HB1;go_wp2
 go_ret
 exact⟨rfl,HB2.out⟩
theorem acV (h:ET w) (k:Int):Calls Tryz.prog 71 #[aju k] w fun e w'=>e= .returned (.int .i64 k)/\Below w.heap.size w w':=by
 unfold aju;split
 · rename_i h0;subst h0;exact ahb w
 · exact ahc h k
end
end Go.Proofs.YtncadccbepjekaaGreatDoor
