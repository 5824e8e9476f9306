/- Texts of mine, joined. -/
import Derived.Great.BuildSlice
import Derived.Maps.OwnSet
import Derived.DeepKeys4
import Derived.Test.YthnfclimjmmckaaGreatDoorM7
set_option maxRecDepth 100000
set_option maxHeartbeats 4000000
namespace Go.Proofs.YthnfclimjmmckaaGreatDoor
open Go.RowKit
section
variable {w:World} {g base cap c:Nat} {A:Option Addr} {bs:List UInt8}
theorem arU (h:Ar w 160 g base cap A c bs) (hb:base<=4611686018427387904) (hl:bs.length<=16384) (o:Int) (ho: -9223372036854775808<=o/\o<=9223372036854775807) (v:Nat) (hvl:v<18446744073709551616) (hv:word? bs (o-8)=some v) (hu:adT v=none):
 Calls Tryz.prog 238 #[.pointer (some ⟨g,0,none⟩), .int .i64 o] w fun e w'=>e= .returned (.tuple #[bkV none,abm false 3])/\Below w.heap.size w w':=by
 obtain⟨w1,hw1⟩:=nmE (w.alloc (.cells #[.int .i64 0, .int .i64 0, .bool false] 132));have hb1:=abE hw1;have hn1:=anE hw1;have h1:=h.below hb1;have HA:=hE0 (aa1 h1 o);have hs8:IntKind.u64.wrap ((adr base o:Int)-8)=(adr base (o-8):Int):=by rw[IntKind.wrap_u64];unfold adr;omega
 have HS8:=hE0 hs8;have hwd:=ac5 h1 hb hl (o-8) (by omega) _ hv;dsimp only[wdV]at hwd;have HW:=hE0 hwd;have hup:=ack w1 v hvl;rw[hu]at hup;dsimp only[ann]at hup;have HU:=hE0 hup;have HW1:=hE0 hw1;have HB1:=hE0 hb1;have HN1:=hE0 hn1;clear hv hwd hu hup hs8 hw1 hb1 hn1 h1 h;go_enter Tryz.func238,Tryz.ntmps238
 go_wp2_with fail
 rw[HW1.out]
 with_reducible refine HA.out.mono ?_
 rintro e w2 ⟨rfl,rfl⟩;go_wp2_with fail
 rw[HS8.out]
 with_reducible refine HW.out.mono ?_
 rintro e w2 ⟨rfl,rfl⟩;go_wp2_with fail
 with_reducible refine HU.out.mono ?_
 rintro e w2 ⟨rfl,rfl⟩;have hlt:=aav HN1.out;obtain⟨⟨c0,c1,c2⟩,f0,f1,f2⟩:=aar HN1.out;go_wp2
 (try simp only[Exit.inBlock,Exit.then])
 refine acn (x:=abm false 3) (g:=w.heap.size) (o:=0) (s:=0) (b:=false) Tryz.results238 ?_ ?_ ?_ ?_ ?_
 · rfl
 · rfl
 · rfl
 · exact ab2 HN1.out _ _ _
 · exact⟨rfl,((HB1.out.setCell (Nat.le_refl _) _).setCell (Nat.le_refl _) _).setCell (Nat.le_refl _) _⟩
end
theorem aol (bs:List UInt8) (o v e k:Nat) (h1:o+8<=e) (h2:e+8<=bs.length):aka (aka bs e k) o v=aka (aka bs o v) e k:=by
 have hv:=aab 8 v;have hk:=aab 8 k;unfold aka lay;rw[hv,hk];refine List.ext_getElem? fun i=> ?_;simp only[List.getElem?_append,List.length_append,List.length_take,List.length_drop,List.getElem?_take,List.getElem?_drop,hv,hk];repeat' split
 all_goals first | rfl | omega | (congr 1;omega) | skip
theorem Became.trans{t:TypeId}{g base cap c':Nat}{A A':Option Addr}{b1 b2:List UInt8}{w w1 w2:World}(h:Ar w1 t g base cap A' c' b1) (ht:Tch (foot g A) w w1) (hA:A'=A\/∀a,A'=some a->w.heap.size<=a.block) (k:Became t g base cap A' b2 w1 w2):Became t g base cap A b2 w w2:=by
 obtain⟨A2,c2,k1,k2,k3⟩:=k;refine⟨A2,c2,k1,ht.trans k2 (fun i hi hf=> ?_),?_⟩
 · rcases hf with rfl | ⟨a,e,rfl⟩
   · exact .inl rfl
   · rcases hA with hA | hA
     · exact .inr ⟨a,hA▸e,rfl⟩
     · exact absurd (hA a e) (by omega)
 · rcases k3 with k3 | k3
   · rcases hA with hA | hA
     · exact .inl (k3.trans hA)
     · exact .inr fun a ha=>hA a (k3▸ha)
   · exact .inr fun a ha=>Nat.le_trans ht.size (k3 a ha)
section
variable {w:World} {g base cap c:Nat} {A:Option Addr} {bs:List UInt8}
theorem ath (w:World) (g:Nat) (o s:Int) (hs: -9223372036854775808<=s/\s<=9223372036854775807) (u:Bool) (m:Nat) (hm:ab0 s u=m) (h0:m=0):
 Calls Tryz.prog 184 #[.pointer (some ⟨g,0,none⟩), .agg #[.int .i64 o, .int .i64 s, .bool u]] w fun e w'=>e= .returned (abm false 1)/\Below w.heap.size w w':=by
 obtain⟨w1,hw1⟩:=nmE (w.alloc (.cells #[.int .i64 o, .int .i64 s, .bool u] 132));have hb1:=abE hw1;have hn1:=anE hw1;have HP:=hE0 (adk w1 s u (by omega) m hm);have HW1:=hE0 hw1;have HB1:=hE0 hb1;have HN1:=hE0 hn1;subst h0;clear hm hw1 hb1 hn1;go_enter Tryz.func184,Tryz.ntmps184
 obtain⟨⟨c0,c1,c2⟩,f0,f1,f2⟩:=aar HN1.out;go_wp2_with fail
 rw[HW1.out];go_wp2_with fail
 with_reducible refine HP.out.mono ?_
 rintro e w2 ⟨rfl,rfl⟩;go_wp2
 go_ret
 exact⟨rfl,HB1.out⟩
theorem ati (w:World) (g:Nat) (o:Int) (ho: -9223372036854775808<=o/\o<=9223372036854775807) (s:Int) (hs: -9223372036854775808<=s/\s<=9223372036854775807) (u:Bool) (m:Nat) (hm:ab0 s u=m) (h0:m≠0) (hc:plc o=false):
 Calls Tryz.prog 184 #[.pointer (some ⟨g,0,none⟩), .agg #[.int .i64 o, .int .i64 s, .bool u]] w fun e w'=>e= .returned (abm false 1)/\Below w.heap.size w w':=by
 obtain⟨w1,hw1⟩:=nmE (w.alloc (.cells #[.int .i64 o, .int .i64 s, .bool u] 132));have hb1:=abE hw1;have hn1:=anE hw1;have HP:=hE0 (adk w1 s u (by omega) m hm);have HC:=hE0 (abr w1 o ho false hc);have hm0:((m:Int)==0)=false:=by rw[beq_eq_false_iff_ne];omega
 have HW1:=hE0 hw1;have HB1:=hE0 hb1;have HN1:=hE0 hn1;clear hm hw1 hb1 hn1 h0 hc;go_enter Tryz.func184,Tryz.ntmps184
 obtain⟨⟨c0,c1,c2⟩,f0,f1,f2⟩:=aar HN1.out;go_wp2_with fail
 rw[HW1.out];go_wp2_with fail
 with_reducible refine HP.out.mono ?_
 rintro e w2 ⟨rfl,rfl⟩;go_wp2_with fail
 with_reducible refine HC.out.mono ?_
 rintro e w2 ⟨rfl,rfl⟩;go_wp2
 go_ret
 exact⟨rfl,HB1.out⟩
theorem atj (h:Ar w 160 g base cap A c bs) (hb:base<=4611686018427387904) (hl:bs.length<=16384) (o:Int) (ho: -9223372036854775808<=o/\o<=9223372036854775807) (s:Int) (hs: -9223372036854775808<=s/\s<=9223372036854775807) (u:Bool) (m:Nat) (hm:ab0 s u=m) (hm2:m<18446744073709551616) (h0:m≠0) (hc:plc o=true) (hss:32<=s/\s<=16384) (hlt:(bs.length:Int)<o+s):
 Calls Tryz.prog 184 #[.pointer (some ⟨g,0,none⟩), .agg #[.int .i64 o, .int .i64 s, .bool u]] w fun e w'=>e= .returned (abm false 1)/\Below w.heap.size w w':=by
 obtain⟨w1,hw1⟩:=nmE (w.alloc (.cells #[.int .i64 o, .int .i64 s, .bool u] 132));have hb1:=abE hw1;have hn1:=anE hw1;have h1:=h.below hb1;have HP:=hE0 (adk w1 s u (by omega) m hm);have HC:=hE0 (abr w1 o ho true hc);have hm0:((m:Int)==0)=false:=by rw[beq_eq_false_iff_ne];omega
 have hpl:=(agL o).1 hc;obtain⟨z,hz⟩:=nmE (wrap64 (wrap64 (o+s)-8));have hzb: -9223372036854775808<=z/\z<=9223372036854775807/\(z<0\/(bs.length:Int)<z+8):=by rw[<-hz];unfold wrap64;omega
 have HZ:=hE0 hz;have HA:=hE0 (aa1 h1 z);have HS:=hE0 (al0 h1 (by omega) (adr base z) m (aq4 _ _) hm2 (aok base hb z (by omega) bs.length 8 (by omega) (by omega) hzb.2.2));have HW1:=hE0 hw1;have HB1:=hE0 hb1;have HN1:=hE0 hn1;clear hm hw1 hb1 hn1 h0 hc h1 h hz hpl;go_enter Tryz.func184,Tryz.ntmps184
 obtain⟨⟨c0,c1,c2⟩,f0,f1,f2⟩:=aar HN1.out;go_wp2_with fail
 rw[HW1.out];go_wp2_with fail
 with_reducible refine HP.out.mono ?_
 rintro e w2 ⟨rfl,rfl⟩;go_wp2_with fail
 with_reducible refine HC.out.mono ?_
 rintro e w2 ⟨rfl,rfl⟩;go_wp2_with fail
 rw[HZ.out]
 with_reducible refine HA.out.mono ?_
 rintro e w2 ⟨rfl,rfl⟩;go_wp2_with fail
 with_reducible refine HS.out.mono ?_
 rintro e w2 ⟨rfl,hb2⟩;have HB2:=hE0 (HB1.out.trans (hb2.mono HB1.out.size));clear hb2;go_wp2
 go_ret
 exact⟨rfl,HB2.out⟩
theorem atk (h:Ar w 160 g base cap A c bs) (hb:base<=4611686018427387904) (hl:bs.length<=16384) (o s:Nat) (u:Bool) (m:Nat) (hm:ab0 (s:Int) u=m) (hm2:m<18446744073709551616) (h0:m≠0) (hc:plc (o:Int)=true) (hss:32<=s/\s<=16384) (hle:o+s<=bs.length):
 Calls Tryz.prog 184 #[.pointer (some ⟨g,0,none⟩), .agg #[.int .i64 (o:Int), .int .i64 (s:Int), .bool u]] w fun e w'=>e= .returned (abm true 1)/\Became 160 g base cap A (aka (aka bs o m) (o+s-8) m) w w':=by
 obtain⟨w1,hw1⟩:=nmE (w.alloc (.cells #[.int .i64 (o:Int), .int .i64 (s:Int), .bool u] 132));have hb1:=abE hw1;have hn1:=anE hw1;have h1:=h.below hb1;have HP:=hE0 (adk w1 (s:Int) u (by omega) m hm);have HC:=hE0 (abr w1 (o:Int) (by omega) true hc);have hm0:((m:Int)==0)=false:=by rw[beq_eq_false_iff_ne];omega
 have hgl:∀k,foot g A k->k<w.heap.size:=fun k hk=>h.foot_lt hk;have HA:=hE0 (aa1 h1 ((o:Int)+(s:Int)-8));have e1:adr base ((o:Int)+(s:Int)-8)=base+(o+s-8):=by rw[show(o:Int)+(s:Int)-8=((o+s-8:Nat):Int) by omega];exact aiq base hb _ (by omega)
 obtain⟨x1,hx1⟩:∃x1:Nat,base+(o+s-8)=x1:=⟨_,rfl⟩;obtain⟨x2,hx2⟩:∃x2:Nat,base+o=x2:=⟨_,rfl⟩;rw[e1,hx1]at HA;have HS:=hE0 (afo h1 (by omega) x1 (o+s-8) m (by omega) hm2 (by omega) (by omega) (by omega));have HW1:=hE0 hw1;have HB1:=hE0 hb1;have HN1:=hE0 hn1;have HSW:=hE0 (aol bs o m (o+s-8) m (by omega) (by omega));have HGL:=hE0 hgl;have HX2:=hE0 hx2;have HBB:=hE0 hb;clear hm hw1 hb1 hn1 h0 hc h1 h e1 hgl hx1;go_enter Tryz.func184,Tryz.ntmps184
 obtain⟨⟨c0,c1,c2⟩,f0,f1,f2⟩:=aar HN1.out;go_wp2_with fail
 rw[HW1.out];go_wp2_with fail
 with_reducible refine HP.out.mono ?_
 rintro e w2 ⟨rfl,rfl⟩;go_wp2_with fail
 with_reducible refine HC.out.mono ?_
 rintro e w2 ⟨rfl,rfl⟩;go_wp2_with fail
 with_reducible refine HA.out.mono ?_
 rintro e w2 ⟨rfl,rfl⟩;go_wp2_with fail
 with_reducible refine HS.out.mono ?_
 rintro e w2 ⟨rfl,A2,c2,a2,t2,k2⟩;have hn2:=(t2.block _ (aan HN1.out) (fun hf=>absurd (HGL.out _ hf) (by omega))).trans HN1.out;obtain⟨⟨d0,d1,d2⟩,_⟩:=aar hn2;have HA2:=hE0 (aa1 a2 (o:Int));rw[aiq base HBB.out o (by omega),HX2.out]at HA2;have HS2:=hE0 (afo a2 (by rw[acj _ _ _ (by rw[aab];omega)];omega) x2 o m (by omega) hm2 (by omega) (by omega) (by rw[acj _ _ _ (by rw[aab];omega)];omega));have HAR:=hE0 a2;have HT:=hE0 t2;have HK:=hE0 k2;clear a2 t2 k2 hn2;go_wp2_with fail
 with_reducible refine HA2.out.mono ?_
 rintro e w3 ⟨rfl,rfl⟩;go_wp2_with fail
 with_reducible refine HS2.out.mono ?_
 rintro e w3 ⟨rfl,hbe⟩;have hbe2:=(Became.trans HAR.out HT.out HK.out hbe).after HB1.out;have hbe3:Became 160 g base cap A (aka (aka bs o m) (o+s-8) m) w w3:=by rw[<-HSW.out];exact hbe2
 have HE:=hE0 hbe3;clear hbe hbe2 hbe3;go_wp2
 go_ret
 exact⟨rfl,HE.out⟩
end
theorem atG:atM:=by
 intro w g base cap c A bs o s u y h hb hl ho hs hy;subst hy
 cases hz:aa3 s with
 | false=>
  have e:setB bs o s u=none:=by unfold setB;rw[if_neg (fun h=>by rw[hz]at h;cases h.1)]
  rw[e];exact ath w g o s hs u _ rfl (by simp[ab0,hz])
 | true=>
  have hss:=(aae _).1 hz;have hm0:ab0 s u≠0:=by
   simp only[ab0,hz,if_true];omega
  have hm2:ab0 s u<18446744073709551616:=by have:=aeQ s u;omega
  cases hc:plc o with
  | false=>
   have e:setB bs o s u=none:=by
    unfold setB;rw[if_neg];rintro⟨_,h2⟩;have:=(abk _ _ _).1 h2;rw[(agL o).2 (by omega)]at hc
    cases hc
   rw[e];exact ati w g o ho s hs u _ rfl hm0 hc
  | true=>
   have hp:=(agL o).1 hc;by_cases hle:o+s<=bs.length
   · obtain⟨p,rfl⟩:∃p:Nat,o=(p:Int):=⟨o.toNat,by omega⟩;obtain⟨q,rfl⟩:∃q:Nat,s=(q:Int):=⟨s.toNat,by omega⟩;have e:setB bs (p:Int) (q:Int) u=some (aka (aka bs p (ab0 (q:Int) u)) (p+q-8) (ab0 (q:Int) u)):=by
      unfold setB;rw[if_pos ⟨hz,(abk _ _ _).2 (by omega)⟩,Int.toNat_natCast,show((p:Int)+(q:Int)-8).toNat=p+q-8 by omega]
     rw[e];exact atk h hb hl p q u _ rfl hm2 hm0 hc (by omega) (by omega)
   · have e:setB bs o s u=none:=by
      unfold setB;rw[if_neg];rintro⟨_,h2⟩;have:=(abk _ _ _).1 h2;omega
     rw[e];exact atj h hb hl o ho s hs u _ rfl hm2 hm0 hc (by omega) (by omega)
theorem akz:asB:=by
 intro w g base cap c A bs x h hb hl hx;by_cases h0:bs.length<184
 · obtain rfl:none=x:=by rw[<-hx];unfold abJ;rw[if_pos h0]
   have HL:=hE0 (adz h);clear hx;go_enter Tryz.func81,Tryz.ntmps81
   go_wp2_with fail
   with_reducible refine HL.out.mono ?_
   rintro e w2 ⟨rfl,rfl⟩;go_wp2
   go_ret2
   exact⟨none,0,rfl,World.ownsRow_nil _ _ _ _,Below.refl _ _⟩
 · have hx':adl bs (bs.length+1) 184=x:=by rw[<-hx];unfold abJ;rw[if_neg h0]
   obtain⟨i0,hi,hz0,hz1,hz2⟩:=info_parts ado;have HX:=hE0 hx';have HAR:=hE0 h;have HBASE:=hE0 hb;have HL:=hE0 (adz h);obtain⟨B0,hB0⟩:=nmE w.heap.size;have HB0:=hE0 hB0;clear hx hx' h hB0 hb;go_enter Tryz.func81,Tryz.ntmps81
   go_wp2_with fail
   with_reducible refine HL.out.mono ?_
   rintro e w2 ⟨rfl,rfl⟩;go_wp2
   go_loopw [4,5] (fun q t wr=>∃(l:List Bk) (o k:Nat),t= .int .i64 (o:Int)/\184<=o/\o<=bs.length/\bs.length<o+k/\l.length*32<=o/\x=(adl bs k o).map (l++ ·)/\wr.ownsRow B0 132 3 q l.length (aaD l)/\Below B0 w wr) (fun _ t _=>bs.length-(intOf t).toNat)
   case atStart=>exact⟨[],184,bs.length+1,rfl,Nat.le_refl _,by omega,by omega,by simp,by rw[HX.out];simp,World.ownsRow_nil _ _ _ _,Below.refl _ _⟩
   case round=>
    obtain⟨l,o,k,rfl,ho1,ho2,hk,hll,hxl,hown,hb⟩:=hrel;obtain⟨A7,c7,rfl⟩:=aa4 hown;obtain⟨k,rfl⟩:∃k',k=k'+1:=⟨k-1,by omega⟩;have hBw:B0<=wr.heap.size:=by have:=hb.size;have:=HB0.out;omega
    have har:=HAR.out.below (by rw[HB0.out];exact hb);have HLR:=hE0 (adz har);by_cases hlt:o<bs.length
    · cases hg:abV bs (o:Int)with
      | none=>
       have hG:=aq5 wr g base cap c A bs (o:Int) _ har HBASE.out hl (by omega) hg;dsimp only[ab4,bkV,Option.isSome,abm]at hG;obtain rfl:x=none:=by rw[hxl];simp[adl,hlt,hg]
       have HG:=hE0 hG;have HB:=hE0 hb;clear hG hown hb hg hxl har HX HAR;go_wp2_with fail
       with_reducible refine HLR.out.mono ?_
       rintro e w2 ⟨rfl,rfl⟩;go_wp2_with fail
       with_reducible refine HG.out.mono ?_
       rintro e w2 ⟨rfl,hb2⟩;have HB2:=hE0 (HB.out.trans (hb2.mono hBw));clear hb2;go_wp2
       go_ret2
       exact⟨none,0,rfl,World.ownsRow_nil _ _ _ _,by rw[HB0.out];exact HB2.out.alloc (by have:=HB2.out.size;have:=HB0.out;omega) _⟩
      | some y=>
       obtain⟨yo,ys,yu⟩:=y;obtain⟨q1,_,_,q2,q3,_⟩:=aa2 hg;dsimp only at q1 q2 q3;obtain rfl:o=yo:=by omega
       have q4:=(aae _).1 q3;have hG:=aq5 wr g base cap c A bs (o:Int) _ har HBASE.out hl (by omega) hg;dsimp only[ab4,bkV,Bk.val,Option.isSome,abm]at hG;have hxl':x=(adl bs k (o+ys)).map ((l++ [⟨o,ys,yu⟩])++ ·):=by
        rw[hxl];simp[adl,hlt,hg,Option.map_map,Function.comp_def]
       have HG:=hE0 hG;have HB:=hE0 hb;have HXL:=hE0 hxl';have HOWN:=hE0 hown;have HALT:Hid (∀k,(Value.slice A7 l.length c7).ownBlock=some k->B0<=k/\k<wr.heap.size):=hown.lt;clear hG hown hb hg hxl hxl' har q1 q3 HX HAR;go_wp2_with fail
       with_reducible refine HLR.out.mono ?_
       rintro e w2 ⟨rfl,rfl⟩;go_wp2_with fail
       with_reducible refine HG.out.mono ?_
       rintro e w2 ⟨rfl,hb2⟩;have own2:=aa6 HOWN.out hb2;have HB2:=hE0 (HB.out.trans (hb2.mono hBw));have hw2:B0<=w2.heap.size:=Nat.le_trans hBw hb2.size;have hwr:=hb2.size;obtain⟨w3,hw3⟩:=nmE (w2.alloc (.cells #[.int .i64 (o:Int), .int .i64 (ys:Int), .bool yu] 132));obtain⟨w4,hw4⟩:=nmE (w3.alloc (.cells #[.int .i64 (o:Int), .int .i64 (ys:Int), .bool yu] 132));have b3:=abE hw3;have b4:=abE hw4;have own4:=aa6 (aa6 own2 b3) b4;have n4:=anE hw4;have s3:w3.heap.size=w2.heap.size+1:=by rw[<-hw3];simp
       have n3:=anE hw3;obtain⟨⟨d0,d1,d2⟩,_⟩:=aar n3;have n4':=(b4.block _ (aav n3)).trans n3;have HNEW:Hid (∀j u,[Value.int .i64 (o:Int), .int .i64 (ys:Int), .bool yu][j]?=some u->w4.cell? ((⟨w3.heap.size,0,none⟩:Addr).add j)=some u):=fun j u hu=>by
        have e:(⟨w3.heap.size,0,none⟩:Addr).add j=⟨w3.heap.size,j,none⟩:=by unfold Addr.add;split<;>simp_all
        rw[e,cell_of_row w4 _ j _ _ (0,0) n4];simpa using hu
       have HONE:Hid (∀u∈ [Value.int .i64 (o:Int), .int .i64 (ys:Int), .bool yu],u.oneCell'=true):=fun u hu=>by
        simp at hu;rcases hu with rfl | rfl | rfl<;>rfl
       have hB4:B0<=w4.heap.size:=by have:=b4.size;omega
       have HB4:=hE0 (HB2.out.trans ((b3.trans (b4.mono b3.size)).mono hw2));have OWN4:=hE0 own4;have HN4:=hE0 n4';have hs4:w3.heap.size<w4.heap.size:=aav n4;have HS3:=hE0 s3;have HFL:Hid (aaD (l++ [⟨o,ys,yu⟩])=aaD l++ [.int .i64 (o:Int), .int .i64 (ys:Int), .bool yu]):=adb _ _;have hg2:w2.heap.size<w4.heap.size:=aav n4';clear own2 own4 n3 n4 n4' b3 b4 hb2 HOWN HG s3;go_wp2_with (first
        | (at_builtin;go_must (refine wpList_append_own _ rfl _ _ 56 rfl B0 132 i0 _ 3 24 Tryz.underlying56 hi hz0 hz1 hz2 rfl (by decide) _ l.length (aaD l) rfl OWN4.out ⟨w3.heap.size,0,none⟩ 1 1 [.int .i64 (o:Int), .int .i64 (ys:Int), .bool yu] rfl rfl HNEW.out HONE.out (by unfold maxLen;omega) (by omega) hB4 ?_);intro x5 w5 own5 gr5 at5
           have gr5':w4.grownBy w5 (Value.slice A7 l.length c7).ownBlock:=gr5;have e5:=(gr5'.block _ hg2 (fun e=>by have:=(HALT.out _ e.symm).2;omega)).trans HN4.out;obtain⟨⟨c0,c1,c2⟩,_⟩:=aar e5;have HB5:Hid (Below B0 w w5):=HB4.out.grown gr5' hB4 (fun k hk=>(HALT.out k hk).1);have OWN5:Hid (w5.ownsRow B0 132 3 x5 (l.length+1) (aaD (l++ [⟨o,ys,yu⟩]))):=(show World.ownsRow _ _ _ _ _ _ _ by rw[HFL.out];exact own5);clear own5 gr5 gr5' at5 e5)
        | fail)
       go_roundw
       case rel=>exact⟨l++ [⟨o,ys,yu⟩],o+ys,k,by go_num,by omega,by omega,by omega,by rw[List.length_append,List.length_singleton];omega,HXL.out,by rw[List.length_append,List.length_singleton];exact OWN5.out,HB5.out⟩
       case measure=>simp[intOf];omega
    · obtain rfl:o=bs.length:=by omega
      obtain rfl:x=some l:=by rw[hxl];simp[adl]
      have HB:=hE0 hb;have HO:=hE0 hown;clear hxl hown hb HX har HAR;go_wp2_with fail
      with_reducible refine HLR.out.mono ?_
      rintro e w2 ⟨rfl,rfl⟩;go_wp2
      go_ret2
      exact⟨A7,c7,rfl,by rw[HB0.out];exact HO.out,by rw[HB0.out];exact HB.out⟩
structure St (wB W:World) (g base cap:Nat) (A:Option Addr) (c:Nat) (bs:List UInt8) (L:List (Nat × Obj)):Prop where
 bel:Below wB.heap.size wB W
 ar:Ar W 160 g base cap A c bs
 gB:wB.heap.size<=g
 aB:∀a,A=some a->wB.heap.size<=a.block
 has:∀p∈L,W.heap[p.1]?=some p.2
section
variable {wB W W':World} {g base cap c:Nat} {A:Option Addr} {bs:List UInt8} {L:List (Nat × Obj)}
theorem St.size (h:St wB W g base cap A c bs L):wB.heap.size<=W.heap.size:=h.bel.size
theorem St.below (h:St wB W g base cap A c bs L) (hb:Below W.heap.size W W'):St wB W' g base cap A c bs L:=
 ⟨h.bel.trans (hb.mono h.size),h.ar.below hb,h.gB,h.aB,fun p hp=>(hb.block p.1 (aan (h.has p hp))).trans (h.has p hp)⟩
theorem St.became{out:List UInt8}(h:St wB W g base cap A c bs L) (hb:Became 160 g base cap A out W W'):∃A' c',St wB W' g base cap A' c' out []:=by
 obtain⟨A',c',har,hbl,hA⟩:=hb.below (B:=wB.heap.size) h.gB h.aB h.size;exact⟨A',c',h.bel.trans hbl,har,h.gB,hA,fun p hp=>by cases hp⟩
end
def afa (x:Option (List Nat)) (k:Int) (w:World) (e:Ending) (w':World):Prop:=
 ∃A' c',e= .returned (.tuple #[.slice A' (x.getD []).length c',abm x.isSome k])/\w'.ownsRow w.heap.size 3 1 (.slice A' (x.getD []).length c') (x.getD []).length ((x.getD []).map iV)/\Below w.heap.size w w'
def atN:Prop:=∀(w:World) (g base cap c:Nat) (A:Option Addr) (bs:List UInt8) (o:Int) (y:Option (List UInt8)),Ar w 160 g base cap A c bs->base<=4611686018427387904->bs.length<=16384->(-9223372036854775808<=o/\o<=9223372036854775807)->ai2 bs o=y->
 Calls Tryz.prog 186 #[.pointer (some ⟨g,0,none⟩), .int .i64 o] w fun e w'=>ap7 3 160 g base cap A y w e w'
def atH:Prop:=∀(w:World) (g base cap c:Nat) (A:Option Addr) (bs:List UInt8) (k:Nat) (x:Option (List Nat)),Ar w 160 g base cap A c bs->base<=4611686018427387904->bs.length<=16384->k<22->afL bs k=x->
 Calls Tryz.prog 85 #[.pointer (some ⟨g,0,none⟩), .int .i64 (k:Int)] w fun e w'=>afa x 3 w e w'
theorem arV{a b:Int}(h:a=b):Ending.returned (.int .u64 a)= .returned (.int .u64 b):=by rw[h]
theorem agM{t:TypeId}{g base cap:Nat}{A:Option Addr}{b1 b2:List UInt8}{w w1:World}{F:Nat}{args:Array Value}{r:Ending}(h:Became t g base cap A b1 w w1)
 (hc:∀A' c',Ar w1 t g base cap A' c' b1->Calls Tryz.prog F args w1 fun e w2=>e=r/\Became t g base cap A' b2 w1 w2):Calls Tryz.prog F args w1 fun e w2=>e=r/\Became t g base cap A b2 w w2:=by
 obtain⟨A',c',a,tc,k⟩:=h;refine(hc A' c' a).mono ?_;rintro e w2 ⟨h1,h2⟩;exact⟨h1,Became.trans a tc k h2⟩
section
variable {w:World} {g base cap c:Nat} {A:Option Addr} {bs:List UInt8}
theorem abs (h:Ar w 160 g base cap A c bs) (hb:base<=4611686018427387904) (hl:bs.length<=16384) (o:Int) (p:Nat) (hp:o=(p:Int)) (ho:p+8<=bs.length) (v:Nat) (hv:aai bs p=v):
 Calls Tryz.prog 143 #[.pointer (some ⟨g,0,none⟩), .int .i64 o] w fun e w'=>e= .returned (.int .u64 (v:Int))/\w=w':=by
 subst hp;have HA:=hE0 (ac7 h);have hwd:=ac5 h hb hl (p:Int) (by omega) (some v) (by unfold word?;rw[if_pos (by omega),Int.toNat_natCast,hv]);dsimp only[wdV]at hwd;rw[aiq base hb p (by omega),show((base+p:Nat):Int)=(base:Int)+(p:Int) by omega]at hwd;have HW:=hE0 hwd;have hp2:p<=16384:=by omega
 clear hwd h hv ho hl;go_enter Tryz.func143,Tryz.ntmps143
 go_wp2_with fail
 with_reducible refine HA.out.mono ?_
 rintro e w1 ⟨rfl,rfl⟩;go_wp2_with fail
 refine HW.out.mono ?_;rintro e w1 ⟨rfl,rfl⟩;go_wp2
 go_ret
 exact⟨rfl,rfl⟩
theorem air (h:Ar w 160 g base cap A c bs) (hb:base<=4611686018427387904) (hl:bs.length<=16384) (o:Int) (p:Nat) (hp:o=(p:Int)) (ho:p+8<=bs.length) (v:Nat) (hv:v<18446744073709551616):
 Calls Tryz.prog 229 #[.pointer (some ⟨g,0,none⟩), .int .i64 o, .int .u64 (v:Int)] w fun e w'=>e= .returned (.tuple #[])/\Became 160 g base cap A (lyN bs p v) w w':=by
 subst hp;have HA:=hE0 (ac7 h);have hwd:=afo h (by omega) (base+p) p v (by omega) hv (by omega) (by omega) ho;rw[show lay bs p (aat 8 v)=lyN bs p v from akd bs p v,show((base+p:Nat):Int)=(base:Int)+(p:Int) by omega]at hwd;have HW:=hE0 hwd;have hp2:p<=16384:=by omega
 clear hwd h ho hl;go_enter Tryz.func229,Tryz.ntmps229
 go_wp2_with fail
 with_reducible refine HA.out.mono ?_
 rintro e w1 ⟨rfl,rfl⟩;go_wp2_with fail
 refine HW.out.mono ?_;rintro e w1 ⟨rfl,hbe⟩;have HB:=hE0 hbe;clear hbe;go_wp2
 go_end0
 exact⟨rfl,HB.out⟩
theorem acp (w:World) (k:Nat) (hk:k<22):
 Calls Tryz.prog 144 #[.int .i64 (k:Int)] w fun e w'=>e= .returned (.int .i64 (8+8*(k:Int)))/\w=w':=by
 go_enter Tryz.func144,Tryz.ntmps144
 go_wp2
 go_ret
 exact⟨rfl,rfl⟩
theorem ais (w:World) (k:Nat) (hk:k<22):
 Calls Tryz.prog 197 #[.int .i64 (k:Int)] w fun e w'=>e= .returned (.int .u64 ((2^k:Nat):Int))/\w=w':=by
 have HP:=hE0 (aj9 k hk);go_enter Tryz.func197,Tryz.ntmps197
 go_wp2
 go_ret
 refine⟨arV ?_,rfl⟩;have hq:=HP.out;have e:(2:Int)^k=((2^k:Nat):Int):=by rw[Int.natCast_pow];rfl
 rw[IntKind.wrap_u64,e];clear e HP;generalize 2^k=q at hq;omega
end
section
variable {w:World} {g base cap c:Nat} {A:Option Addr} {bs:List UInt8}
theorem aly (h:Ar w 160 g base cap A c bs) (hb:base<=4611686018427387904) (hl:bs.length<=16384) (o:Int) (ho: -9223372036854775808<=o/\o<=9223372036854775807) (hk:acl bs o<0):
 Calls Tryz.prog 228 #[.pointer (some ⟨g,0,none⟩), .int .i64 o] w fun e w'=>e= .returned (.tuple #[.int .i64 0, .bool false])/\Below w.heap.size w w':=by
 cases hg:abV bs o with
 | none=>
  have hG:=aq5 w g base cap c A bs o _ h hb hl ho hg;dsimp only[ab4,bkV,Option.isSome,abm]at hG;have HG:=hE0 hG;clear hG h hk hg;go_enter Tryz.func228,Tryz.ntmps228
  go_wp2_with fail
  with_reducible refine HG.out.mono ?_
  rintro e w1 ⟨rfl,hb⟩;go_wp2
  go_ret2
  exact⟨rfl,hb.alloc hb.size _⟩
 | some x=>
  obtain⟨xo,xs,xu⟩:=x;have hG:=aq5 w g base cap c A bs o _ h hb hl ho hg;dsimp only[ab4,bkV,Bk.val,Option.isSome,abm]at hG;have q3:=(aa2 hg).2.2.2.2.1;dsimp only at q3;have q:=(aae _).1 q3
  cases xu with
  | true=>
   have HG:=hE0 hG;clear hG h hk hg q3;go_enter Tryz.func228,Tryz.ntmps228
   go_wp2_with fail
   with_reducible refine HG.out.mono ?_
   rintro e w1 ⟨rfl,hb⟩;go_wp2
   go_ret2
   exact⟨rfl,hb.alloc hb.size _⟩
  | false=>
   obtain⟨d,hd,_⟩:=acb (x:=⟨xo,xs,false⟩) q3;dsimp only at hd;unfold acl at hk;rw[hg]at hk;dsimp only at hk;rw[hd]at hk;simp at hk;omega
theorem aei (h:Ar w 160 g base cap A c bs) (hb:base<=4611686018427387904) (hl:bs.length<=16384) (o:Int) (ho: -9223372036854775808<=o/\o<=9223372036854775807) (k:Nat) (hk:acl bs o=(k:Int)):
 Calls Tryz.prog 228 #[.pointer (some ⟨g,0,none⟩), .int .i64 o] w fun e w'=>e= .returned (.tuple #[.int .i64 (k:Int), .bool true])/\Below w.heap.size w w':=by
 cases hg:abV bs o with
 | none=>unfold acl at hk;rw[hg]at hk;dsimp only at hk;omega
 | some x=>
  obtain⟨xo,xs,xu⟩:=x;have hG:=aq5 w g base cap c A bs o _ h hb hl ho hg;dsimp only[ab4,bkV,Bk.val,Option.isSome,abm]at hG;have q:=(aae _).1 (aa2 hg).2.2.2.2.1;dsimp only at q
  cases xu with
  | true=>unfold acl at hk;rw[hg]at hk;simp at hk
  | false=>
   have hk':aaw (xs:Int)=(k:Int):=by rw[<-hk];unfold acl;rw[hg];rfl
   have HC:=hE0 (fun w=>alh w (xs:Int) (by omega));rw[hk']at HC;have HG:=hE0 hG;clear hG h hk hg hk';go_enter Tryz.func228,Tryz.ntmps228
   go_wp2_with fail
   with_reducible refine HG.out.mono ?_
   rintro e w1 ⟨rfl,hb⟩;go_wp2_with fail
   with_reducible refine(HC.out _).mono ?_
   rintro e w2 ⟨rfl,hb2⟩;have hb3:=hb.alloc hb.size (.cells #[.int .i64 (xo:Int), .int .i64 (xs:Int), .bool false] 132);have HB:=hE0 (hb3.trans (hb2.mono hb3.size));clear hb hb2 hb3;go_wp2
   go_ret2
   exact⟨rfl,HB.out⟩
theorem adQ (h:Ar w 160 g base cap A c bs) (hb:base<=4611686018427387904) (hl:bs.length<=16384) (k p:Nat) (hk:k<22) (hp:p<18446744073709551616) (b:Bool) (hm:aaz bs p (k:Int)=b):
 Calls Tryz.prog 198 #[.pointer (some ⟨g,0,none⟩), .int .i64 (k:Int), .int .u64 (p:Int)] w fun e w'=>e= .returned (.bool b)/\Below w.heap.size w w':=by
 have HL:=hE0 (adz h);by_cases h0:bs.length<=p
 · obtain rfl:false=b:=by
    rw[<-hm]
    cases hq:aaz bs p (k:Int)with
    | true=>have:=adm hq;omega
    | false=>rfl
   clear hm h;go_enter Tryz.func198,Tryz.ntmps198
   go_wp2_with fail
   with_reducible refine HL.out.mono ?_
   rintro e w1 ⟨rfl,rfl⟩;go_wp2
   go_ret
   exact⟨rfl,Below.refl _ _⟩
 · have h1:p<bs.length:=by omega
   rw[ai4,decide_eq_true (by omega),Bool.true_and]at hm;rcases agk bs (p:Int)with hf | ⟨j,hf⟩
   · obtain rfl:false=b:=by rw[<-hm];exact(beq_eq_false_iff_ne.2 (by omega)).symm
     have HF:=hE0 (aly h hb hl (p:Int) (by omega) hf);clear hm h hf;go_enter Tryz.func198,Tryz.ntmps198
     go_wp2_with fail
     with_reducible refine HL.out.mono ?_
     rintro e w1 ⟨rfl,rfl⟩;go_wp2_with fail
     with_reducible refine HF.out.mono ?_
     rintro e w1 ⟨rfl,hb1⟩;have HB:=hE0 hb1;clear hb1;go_wp2
     go_ret
     exact⟨rfl,HB.out⟩
   · have HF:=hE0 (aei h hb hl (p:Int) (by omega) j hf);rw[hf]at hm;have HM:=hE0 hm;have hj:=(aer hf).2.2;clear hm h hf;go_enter Tryz.func198,Tryz.ntmps198
     go_wp2_with fail
     with_reducible refine HL.out.mono ?_
     rintro e w1 ⟨rfl,rfl⟩;go_wp2_with fail
     with_reducible refine HF.out.mono ?_
     rintro e w1 ⟨rfl,hb1⟩;have HB:=hE0 hb1;clear hb1;go_wp2
     go_ret
     exact⟨apu HM.out,HB.out⟩
theorem alz (h:Ar w 160 g base cap A c bs) (hb:base<=4611686018427387904) (hl:bs.length<=16384) (k p q u:Nat) (hk:k<22) (hp:p<18446744073709551616) (hq:q<=16) (b:Bool) (hm:ai5 bs k p q u=b):
 Calls Tryz.prog 146 #[.pointer (some ⟨g,0,none⟩), .int .i64 (k:Int), .int .u64 (p:Int), .int .i64 (q:Int), .int .u64 (u:Int)] w fun e w'=>e= .returned (.bool b)/\Below w.heap.size w w':=by
 unfold ai5 at hm
 cases hmb:aaz bs p (k:Int)with
 | false=>
  rw[hmb]at hm;obtain rfl:false=b:=hm;have HM:=hE0 (adQ h hb hl k p hk hp false hmb);clear hmb h;go_enter Tryz.func146,Tryz.ntmps146
  go_wp2_with fail
  with_reducible refine HM.out.mono ?_
  rintro e w1 ⟨rfl,hb1⟩;have HB:=hE0 hb1;clear hb1;go_wp2
  go_ret
  exact⟨rfl,HB.out⟩
 | true=>
  have hin:=adm hmb;obtain⟨v,hv⟩:=nmE (aai bs (p+q));have hvl:v<18446744073709551616:=by rw[<-hv];exact abd _ _
  rw[hmb,hv,Bool.true_and]at hm;have hm2:((v:Int)==(u:Int))=b:=by rw[<-hm,Bool.eq_iff_iff,beq_iff_eq,beq_iff_eq];omega
  have HM:=hE0 (adQ h hb hl k p hk hp true hmb);have HN:=hE0 (fun w1 (hb1:Below w.heap.size w w1)=>abs (h.below hb1) hb hl ((p:Int)+(q:Int)) (p+q) (by omega) (by omega) v hv);have HV:=hE0 hm2;clear hmb h hm hm2 hv;go_enter Tryz.func146,Tryz.ntmps146
  go_wp2_with fail
  with_reducible refine HM.out.mono ?_
  rintro e w1 ⟨rfl,hb1⟩;have HB:=hE0 hb1;clear hb1;go_wp2_with fail
  refine(HN.out _ HB.out).mono ?_;rintro e w2 ⟨rfl,rfl⟩;go_wp2
  go_ret
  exact⟨apu HV.out,HB.out⟩
theorem akA (h:Ar w 160 g base cap A c bs) (hb:base<=4611686018427387904) (hl:bs.length<=16384) (hl2:184<=bs.length) (k:Nat) (hk:k<22) (b:Bool) (hm:acF (aai bs 0) k=b):
 Calls Tryz.prog 145 #[.pointer (some ⟨g,0,none⟩), .int .i64 (k:Int)] w fun e w'=>e= .returned (.bool b)/\w=w':=by
 obtain⟨v,hv⟩:=nmE (aai bs 0);have hvl:v<18446744073709551616:=by rw[<-hv];exact abd _ _
 have HN:=hE0 (abs h hb hl 0 0 rfl (by omega) v hv);rw[hv]at hm;have HV:=hE0 ((arv v k hvl hk).trans hm);have HT:=hE0 (ais w k hk);obtain⟨m,hm2⟩:=nmE (2^k);have hml:m<=2097152:=by rw[<-hm2];exact aj9 k hk
 rw[hm2]at HV HT;clear hm hv h hm2;go_enter Tryz.func145,Tryz.ntmps145
 go_wp2_with fail
 with_reducible refine HN.out.mono ?_
 rintro e w1 ⟨rfl,rfl⟩;go_wp2_with fail
 with_reducible refine HT.out.mono ?_
 rintro e w1 ⟨rfl,rfl⟩;go_wp2
 go_ret
 exact⟨apu HV.out,rfl⟩
end
section
variable {w w1:World} {g base cap c:Nat} {A:Option Addr} {bs b1:List UInt8}
theorem aej (h:Ar w 160 g base cap A c bs) (hb:Below w.heap.size w w1):Became 160 g base cap A bs w w1:=⟨A,c,h.below hb,Tch.of_below hb, .inl rfl⟩
theorem acq (h:Became 160 g base cap A b1 w w1) (hb:base<=4611686018427387904) (hl:b1.length<=16384) (o:Int) (p:Nat) (hp:o=(p:Int)) (ho:p+8<=b1.length) (v:Nat) (hv:v<18446744073709551616):
 Calls Tryz.prog 229 #[.pointer (some ⟨g,0,none⟩), .int .i64 o, .int .u64 (v:Int)] w1 fun e w2=>e= .returned (.tuple #[])/\Became 160 g base cap A (lyN b1 p v) w w2:=
 agM h fun _ _ a=>air a hb hl o p hp ho v hv
theorem ahF (h:Became 160 g base cap A b1 w w1) (hb:base<=4611686018427387904) (hl:b1.length<=16384) (o:Int) (p:Nat) (hp:o=(p:Int)) (ho:p+8<=b1.length) (v:Nat) (hv:aai b1 p=v):
 Calls Tryz.prog 143 #[.pointer (some ⟨g,0,none⟩), .int .i64 o] w1 fun e w2=>e= .returned (.int .u64 (v:Int))/\w1=w2:=by
 obtain⟨_,_,a,_,_⟩:=h;exact abs a hb hl o p hp ho v hv
theorem aju (h:Ar w 160 g base cap A c bs) (hb:base<=4611686018427387904) (n:Nat) (hn:bs.length=n) (hl:n<=16384) (hl2:184<=n) (k:Nat) (hk:k<22):
 Calls Tryz.prog 230 #[.pointer (some ⟨g,0,none⟩), .int .i64 (k:Int), .int .u64 0] w fun e w'=>e= .returned (.tuple #[])/\Became 160 g base cap A (acV (lyN bs (8+8*k) 0) k) w w':=by
 obtain⟨b1,hb1⟩:=nmE (lyN bs (8+8*k) 0);have hbl:b1.length=n:=by rw[<-hb1,aap _ _ _ (by omega)];exact hn
 have hw1:aai b1 (8+8*k)=0:=by rw[<-hb1];exact abK _ _ _ (by omega) (by omega)
 obtain⟨v0,hv0⟩:=nmE (aai b1 0);have hvl:v0<18446744073709551616:=by rw[<-hv0];exact abd _ _
 obtain⟨m,hm⟩:=nmE (2^k);have hml:m<=2097152:=by rw[<-hm];exact aj9 k hk
 obtain⟨x,hx⟩:=nmE (aeU v0 k false);have hxl:x<18446744073709551616:=by rw[<-hx];exact ah4 v0 k hk hvl false
 have hand:bits .andNot .u64 (v0:Int) (m:Int)=(x:Int):=by rw[<-hm,<-hx];exact ahh v0 k hvl hk
 have hmk:acV b1 k=lyN b1 0 x:=by rw[ak6 b1 k (by omega),hw1,hv0];simpa using congrArg (lyN b1 0) hx
 have HS1:=air h hb (by omega) (8+8*(k:Int)) (8+8*k) (by omega) (by omega) 0 (by omega);rw[hb1]at HS1 ⊢;rw[hmk];have HS1:=hE0 HS1;have HF:=hE0 (acp w k hk);have HT:=fun W=>ais W k hk;rw[hm]at HT;have HT:=hE0 HT;have HN:=hE0 (fun W (hB:Became 160 g base cap A b1 w W)=>ahF hB hb (by omega) 0 0 rfl (by omega) v0 hv0);have HS2:=hE0 (fun W (hB:Became 160 g base cap A b1 w W)=>acq hB hb (by omega) 0 0 rfl (by omega) x hxl);clear h hb1 hw1 hv0 hm hx hmk hn hbl;go_enter Tryz.func230,Tryz.ntmps230
 go_wp2_with fail
 with_reducible refine HF.out.mono ?_
 rintro e w2 ⟨rfl,rfl⟩;go_wp2_with fail
 refine HS1.out.mono ?_;rintro e w2 ⟨rfl,be1⟩;have B1:=hE0 be1;clear be1;go_wp2_with fail
 refine(HN.out _ B1.out).mono ?_;rintro e w3 ⟨rfl,rfl⟩;go_wp2_with fail
 with_reducible refine(HT.out _).mono ?_
 rintro e w3 ⟨rfl,rfl⟩;go_wp2_with fail
 refine(HS2.out _ B1.out).mono ?_;rintro e w3 ⟨rfl,be2⟩;have B2:=hE0 be2;clear be2;go_wp2
 go_end0
 exact⟨rfl,B2.out⟩
theorem ait (h:Ar w 160 g base cap A c bs) (hb:base<=4611686018427387904) (n:Nat) (hn:bs.length=n) (hl:n<=16384) (hl2:184<=n) (k:Nat) (hk:k<22) (v:Nat) (hv:v<18446744073709551616) (hv0:v≠0):
 Calls Tryz.prog 230 #[.pointer (some ⟨g,0,none⟩), .int .i64 (k:Int), .int .u64 (v:Int)] w fun e w'=>e= .returned (.tuple #[])/\Became 160 g base cap A (acV (lyN bs (8+8*k) v) k) w w':=by
 obtain⟨b1,hb1⟩:=nmE (lyN bs (8+8*k) v);have hbl:b1.length=n:=by rw[<-hb1,aap _ _ _ (by omega)];exact hn
 have hw1:aai b1 (8+8*k)=v:=by rw[<-hb1];exact abK _ _ _ (by omega) (by omega)
 obtain⟨v1,hv1⟩:=nmE (aai b1 0);have hvl:v1<18446744073709551616:=by rw[<-hv1];exact abd _ _
 obtain⟨m,hm⟩:=nmE (2^k);have hml:m<=2097152:=by rw[<-hm];exact aj9 k hk
 obtain⟨x,hx⟩:=nmE (aeU v1 k false);obtain⟨y,hy⟩:=nmE (aeU v1 k true);have hxl:x<18446744073709551616:=by rw[<-hx];exact ah4 v1 k hk hvl false
 have hyl:y<18446744073709551616:=by rw[<-hy];exact ah4 v1 k hk hvl true
 have hand:bits .andNot .u64 (v1:Int) (m:Int)=(x:Int):=by rw[<-hm,<-hx];exact ahh v1 k hvl hk
 have hor:bits .or .u64 (x:Int) (m:Int)=(y:Int):=by
  rw[<-hy,apv,hx,<-hm];exact ass x k hxl hk (by rw[<-hx];exact anq v1 k)
 have hmk:acV b1 k=lyN b1 0 y:=by rw[ak6 b1 k (by omega),hw1,hv1,decide_eq_true hv0,hy]
 have hne:((v:Int) !=0)=true:=by rw[bne_iff_ne];omega
 have HS1:=air h hb (by omega) (8+8*(k:Int)) (8+8*k) (by omega) (by omega) v hv;rw[hb1]at HS1 ⊢;rw[hmk];have HS1:=hE0 HS1;have HF:=hE0 (acp w k hk);have HT:=fun W=>ais W k hk;rw[hm]at HT;have HT:=hE0 HT;have HN:=hE0 (fun W (hB:Became 160 g base cap A b1 w W)=>ahF hB hb (by omega) 0 0 rfl (by omega) v1 hv1);have HS2:=hE0 (fun W (hB:Became 160 g base cap A b1 w W)=>acq hB hb (by omega) 0 0 rfl (by omega) y hyl);clear h hb1 hw1 hv1 hm hx hy hmk hn hbl;go_enter Tryz.func230,Tryz.ntmps230
 go_wp2_with fail
 with_reducible refine HF.out.mono ?_
 rintro e w2 ⟨rfl,rfl⟩;go_wp2_with fail
 refine HS1.out.mono ?_;rintro e w2 ⟨rfl,be1⟩;have B1:=hE0 be1;clear be1;go_wp2_with fail
 refine(HN.out _ B1.out).mono ?_;rintro e w3 ⟨rfl,rfl⟩;go_wp2_with fail
 with_reducible refine(HT.out _).mono ?_
 rintro e w3 ⟨rfl,rfl⟩;go_wp2_with fail
 with_reducible refine(HT.out _).mono ?_
 rintro e w3 ⟨rfl,rfl⟩;go_wp2_with fail
 refine(HS2.out _ B1.out).mono ?_;rintro e w3 ⟨rfl,be2⟩;have B2:=hE0 be2;clear be2;go_wp2
 go_end0
 exact⟨rfl,B2.out⟩
theorem afR (h:Became 160 g base cap A b1 w w1) (hb:base<=4611686018427387904) (n:Nat) (hn:b1.length=n) (hl:n<=16384) (hl2:184<=n) (k:Nat) (hk:k<22) (v:Nat) (hv:v<18446744073709551616):
 Calls Tryz.prog 230 #[.pointer (some ⟨g,0,none⟩), .int .i64 (k:Int), .int .u64 (v:Int)] w1 fun e w2=>e= .returned (.tuple #[])/\Became 160 g base cap A (acV (lyN b1 (8+8*k) v) k) w w2:=by
 refine agM h fun _ _ a=> ?_;by_cases h0:v=0
 · subst h0;exact aju a hb n hn hl hl2 k hk
 · exact ait a hb n hn hl hl2 k hk v hv h0
end
section
variable {w:World} {g base cap c:Nat} {A:Option Addr} {bs:List UInt8}
theorem arW (h:Ar w 160 g base cap A c bs) (hb:base<=4611686018427387904) (n:Nat) (hn:bs.length=n) (hl:n<=16384) (o:Int) (ho: -9223372036854775808<=o/\o<=9223372036854775807) (hk:acl bs o<0):
 Calls Tryz.prog 186 #[.pointer (some ⟨g,0,none⟩), .int .i64 o] w fun e w'=>e= .returned (abm false 3)/\Below w.heap.size w w':=by
 have HF:=hE0 (aly h hb (by omega) o ho hk);clear h hk hn;go_enter Tryz.func186,Tryz.ntmps186
 go_wp2_with fail
 with_reducible refine HF.out.mono ?_
 rintro e w1 ⟨rfl,hb1⟩;have HB:=hE0 hb1;clear hb1;go_wp2
 go_ret
 exact⟨rfl,HB.out⟩
theorem aom (h:Ar w 160 g base cap A c bs) (hb:base<=4611686018427387904) (n:Nat) (hn:bs.length=n) (hl:n<=16384) (p k f:Nat) (hk:acl bs (p:Int)=(k:Int)) (hf:aai bs (8+8*k)=f) (hfp:f=p):
 Calls Tryz.prog 186 #[.pointer (some ⟨g,0,none⟩), .int .i64 (p:Int)] w fun e w'=>e= .returned (abm false 3)/\Below w.heap.size w w':=by
 obtain⟨p184,p32,k22⟩:=aer hk;have hfl:f<18446744073709551616:=by rw[<-hf];exact abd _ _
 have HF:=hE0 (aei h hb (by omega) (p:Int) (by omega) k hk);have HFA:=hE0 (fun W=>acp W k k22);have HNF:=hE0 (fun W (hB:Below w.heap.size w W)=>abs (h.below hB) hb (by omega) (8+8*(k:Int)) (8+8*k) (by omega) (by omega) f hf);have hp2:p+32<=n:=by omega
 have hp3:184<=p:=by omega
 have s1:((f:Int)==(p:Int))=true:=by rw[beq_iff_eq];omega
 clear h hk hf hn hfp;go_enter Tryz.func186,Tryz.ntmps186
 go_wp2_with fail
 with_reducible refine HF.out.mono ?_
 rintro e w1 ⟨rfl,hb1⟩;have HB:=hE0 hb1;clear hb1 HF;go_wp2_with fail
 refine(HFA.out _).mono ?_;rintro e w9 ⟨rfl,rfl⟩;go_wp2_with fail
 refine(HNF.out _ HB.out).mono ?_;rintro e w9 ⟨rfl,rfl⟩;clear HFA HNF;go_wp2
 go_ret
 exact⟨rfl,HB.out⟩
theorem amB (h:Ar w 160 g base cap A c bs) (hb:base<=4611686018427387904) (n:Nat) (hn:bs.length=n) (hl:n<=16384) (p k f:Nat) (hk:acl bs (p:Int)=(k:Int)) (hf:aai bs (8+8*k)=f) (hfp:f≠p) (hf0:f≠0) (hm:aaz bs f (k:Int)=false):
 Calls Tryz.prog 186 #[.pointer (some ⟨g,0,none⟩), .int .i64 (p:Int)] w fun e w'=>e= .returned (abm false 3)/\Below w.heap.size w w':=by
 obtain⟨p184,p32,k22⟩:=aer hk;have hfl:f<18446744073709551616:=by rw[<-hf];exact abd _ _
 have HF:=hE0 (aei h hb (by omega) (p:Int) (by omega) k hk);have HFA:=hE0 (fun W=>acp W k k22);have HNF:=hE0 (fun W (hB:Below w.heap.size w W)=>abs (h.below hB) hb (by omega) (8+8*(k:Int)) (8+8*k) (by omega) (by omega) f hf);have hp2:p+32<=n:=by omega
 have hp3:184<=p:=by omega
 have HM:=hE0 (fun W (hB:Below w.heap.size w W)=>adQ (h.below hB) hb (by omega) k f k22 hfl _ hm);have s1:((f:Int)==(p:Int))=false:=by rw[beq_eq_false_iff_ne];omega
 have s2:((f:Int) !=0)=true:=by rw[bne_iff_ne];omega
 clear h hk hf hn hm;go_enter Tryz.func186,Tryz.ntmps186
 go_wp2_with fail
 with_reducible refine HF.out.mono ?_
 rintro e w1 ⟨rfl,hb1⟩;have HB:=hE0 hb1;clear hb1 HF;go_wp2_with fail
 refine(HFA.out _).mono ?_;rintro e w9 ⟨rfl,rfl⟩;go_wp2_with fail
 refine(HNF.out _ HB.out).mono ?_;rintro e w9 ⟨rfl,rfl⟩;clear HFA HNF;go_wp2_with fail
 refine(HM.out _ HB.out).mono ?_;rintro e w2 ⟨rfl,hb2⟩;have HB2:=hE0 (HB.out.trans (hb2.mono HB.out.size));clear hb2 HM HB;go_wp2
 go_ret
 exact⟨rfl,HB2.out⟩
theorem amC (h:Ar w 160 g base cap A c bs) (hb:base<=4611686018427387904) (n:Nat) (hn:bs.length=n) (hl:n<=16384) (p k f:Nat) (hk:acl bs (p:Int)=(k:Int)) (hf:aai bs (8+8*k)=f) (hf0:f=0):
 Calls Tryz.prog 186 #[.pointer (some ⟨g,0,none⟩), .int .i64 (p:Int)] w fun e w'=>e= .returned (abm true 3)/\Became 160 g base cap A (acV (lyN (lyN (lyN bs (p+8) f) (p+16) 0) (8+8*k) p) k) w w':=by
 obtain⟨p184,p32,k22⟩:=aer hk;have hfl:f<18446744073709551616:=by rw[<-hf];exact abd _ _
 have HF:=hE0 (aei h hb (by omega) (p:Int) (by omega) k hk);have HFA:=hE0 (fun W=>acp W k k22);have HNF:=hE0 (fun W (hB:Below w.heap.size w W)=>abs (h.below hB) hb (by omega) (8+8*(k:Int)) (8+8*k) (by omega) (by omega) f hf);have hp2:p+32<=n:=by omega
 have hp3:184<=p:=by omega
 have s1:((f:Int)==(p:Int))=false:=by rw[beq_eq_false_iff_ne];omega
 have s2:((f:Int) !=0)=false:=by subst hf0;rfl
 have HBO:=hE0 (fun W (hB:Below w.heap.size w W)=>aej h hB);obtain⟨b1,hb1⟩:∃b,lyN bs (p+8) f=b:=⟨_,rfl⟩;have nb1:b1.length=n:=by rw[<-hb1,aap _ _ _ (by omega)];exact hn
 have HS1:=fun W (hB:Became 160 g base cap A bs w W)=>acq hB hb (by omega) ((p:Int)+8) (p+8) (by omega) (by omega) f hfl;rw[hb1]at HS1 ⊢;have HS1:=hE0 HS1;obtain⟨b2,hb2⟩:∃b,lyN b1 (p+16) 0=b:=⟨_,rfl⟩;have nb2:b2.length=n:=by rw[<-hb2,aap _ _ _ (by omega)];exact nb1
 have HS2:=fun W (hB:Became 160 g base cap A b1 w W)=>acq hB hb (by omega) ((p:Int)+16) (p+16) (by omega) (by omega) 0 (by omega);rw[hb2]at HS2 ⊢;have HS2:=hE0 HS2;have HSF:=hE0 (fun W (hB:Became 160 g base cap A b2 w W)=>afR hB hb n nb2 hl (by omega) k k22 p (by omega));clear hb1 nb1 hb2 nb2;clear h hk hf hn hf0;go_enter Tryz.func186,Tryz.ntmps186
 go_wp2_with fail
 with_reducible refine HF.out.mono ?_
 rintro e w1 ⟨rfl,hb1⟩;have HB:=hE0 hb1;clear hb1 HF;go_wp2_with fail
 refine(HFA.out _).mono ?_;rintro e w9 ⟨rfl,rfl⟩;go_wp2_with fail
 refine(HNF.out _ HB.out).mono ?_;rintro e w9 ⟨rfl,rfl⟩;clear HFA HNF;have G0:=hE0 (HBO.out _ HB.out);clear HBO HB;go_wp2_with fail
 refine(HS1.out _ G0.out).mono ?_;rintro e x1 ⟨rfl,bb⟩;have G1:=hE0 bb;clear bb HS1 G0;go_wp2_with fail
 refine(HS2.out _ G1.out).mono ?_;rintro e x2 ⟨rfl,bb⟩;have G2:=hE0 bb;clear bb HS2 G1;go_wp2_with fail
 refine(HSF.out _ G2.out).mono ?_;rintro e x9 ⟨rfl,bb⟩;have G9:=hE0 bb;clear bb HSF G2;go_wp2
 go_ret
 exact⟨rfl,G9.out⟩
theorem akB (h:Ar w 160 g base cap A c bs) (hb:base<=4611686018427387904) (n:Nat) (hn:bs.length=n) (hl:n<=16384) (p k f:Nat) (hk:acl bs (p:Int)=(k:Int)) (hf:aai bs (8+8*k)=f) (hfp:f≠p) (hf0:f≠0) (hm:aaz bs f (k:Int)=true):
 Calls Tryz.prog 186 #[.pointer (some ⟨g,0,none⟩), .int .i64 (p:Int)] w fun e w'=>e= .returned (abm true 3)/\Became 160 g base cap A (acV (lyN (lyN (lyN (lyN bs (p+8) f) (p+16) 0) (f+16) p) (8+8*k) p) k) w w':=by
 obtain⟨p184,p32,k22⟩:=aer hk;have hfl:f<18446744073709551616:=by rw[<-hf];exact abd _ _
 have HF:=hE0 (aei h hb (by omega) (p:Int) (by omega) k hk);have HFA:=hE0 (fun W=>acp W k k22);have HNF:=hE0 (fun W (hB:Below w.heap.size w W)=>abs (h.below hB) hb (by omega) (8+8*(k:Int)) (8+8*k) (by omega) (by omega) f hf);have hp2:p+32<=n:=by omega
 have hp3:184<=p:=by omega
 have HM:=hE0 (fun W (hB:Below w.heap.size w W)=>adQ (h.below hB) hb (by omega) k f k22 hfl _ hm);have s1:((f:Int)==(p:Int))=false:=by rw[beq_eq_false_iff_ne];omega
 have s2:((f:Int) !=0)=true:=by rw[bne_iff_ne];omega
 have hfin:=adm hm;have hf16:f+16+8<=n:=by omega
 have hf1:f<=16384:=by omega
 have HBO:=hE0 (fun W (hB:Below w.heap.size w W)=>aej h hB);obtain⟨b1,hb1⟩:∃b,lyN bs (p+8) f=b:=⟨_,rfl⟩;have nb1:b1.length=n:=by rw[<-hb1,aap _ _ _ (by omega)];exact hn
 have HS1:=fun W (hB:Became 160 g base cap A bs w W)=>acq hB hb (by omega) ((p:Int)+8) (p+8) (by omega) (by omega) f hfl;rw[hb1]at HS1 ⊢;have HS1:=hE0 HS1;obtain⟨b2,hb2⟩:∃b,lyN b1 (p+16) 0=b:=⟨_,rfl⟩;have nb2:b2.length=n:=by rw[<-hb2,aap _ _ _ (by omega)];exact nb1
 have HS2:=fun W (hB:Became 160 g base cap A b1 w W)=>acq hB hb (by omega) ((p:Int)+16) (p+16) (by omega) (by omega) 0 (by omega);rw[hb2]at HS2 ⊢;have HS2:=hE0 HS2;obtain⟨b3,hb3⟩:∃b,lyN b2 (f+16) p=b:=⟨_,rfl⟩;have nb3:b3.length=n:=by rw[<-hb3,aap _ _ _ (by omega)];exact nb2
 have HS3:=fun W (hB:Became 160 g base cap A b2 w W)=>acq hB hb (by omega) ((f:Int)+16) (f+16) (by omega) (by omega) p (by omega);rw[hb3]at HS3 ⊢;have HS3:=hE0 HS3;have HSF:=hE0 (fun W (hB:Became 160 g base cap A b3 w W)=>afR hB hb n nb3 hl (by omega) k k22 p (by omega));clear hb1 nb1 hb2 nb2 hb3 nb3;clear h hk hf hn hm;go_enter Tryz.func186,Tryz.ntmps186
 go_wp2_with fail
 with_reducible refine HF.out.mono ?_
 rintro e w1 ⟨rfl,hb1⟩;have HB:=hE0 hb1;clear hb1 HF;go_wp2_with fail
 refine(HFA.out _).mono ?_;rintro e w9 ⟨rfl,rfl⟩;go_wp2_with fail
 refine(HNF.out _ HB.out).mono ?_;rintro e w9 ⟨rfl,rfl⟩;clear HFA HNF;go_wp2_with fail
 refine(HM.out _ HB.out).mono ?_;rintro e w2 ⟨rfl,hb2⟩;have HB2:=hE0 (HB.out.trans (hb2.mono HB.out.size));clear hb2 HM HB;have G0:=hE0 (HBO.out _ HB2.out);clear HBO HB2;go_wp2_with fail
 refine(HS1.out _ G0.out).mono ?_;rintro e x1 ⟨rfl,bb⟩;have G1:=hE0 bb;clear bb HS1 G0;go_wp2_with fail
 refine(HS2.out _ G1.out).mono ?_;rintro e x2 ⟨rfl,bb⟩;have G2:=hE0 bb;clear bb HS2 G1;go_wp2_with fail
 refine(HS3.out _ G2.out).mono ?_;rintro e x3 ⟨rfl,bb⟩;have G3:=hE0 bb;clear bb HS3 G2;go_wp2_with fail
 refine(HSF.out _ G3.out).mono ?_;rintro e x9 ⟨rfl,bb⟩;have G9:=hE0 bb;clear bb HSF G3;go_wp2
 go_ret
 exact⟨rfl,G9.out⟩
end
theorem atO:atN:=by
 intro w g base cap c A bs o y h hb hl ho hy;subst hy;rcases agk bs o with hk | ⟨k,hk⟩
 · have e:ai2 bs o=none:=by unfold ai2;rw[if_pos hk]
   rw[e];exact arW h hb _ rfl hl o ho hk
 · obtain⟨p184,p32,k22⟩:=aer hk;obtain⟨p,rfl⟩:∃p:Nat,o=(p:Int):=⟨o.toNat,by omega⟩;obtain⟨f,hf⟩:=nmE (aai bs (8+8*k));have e:ai2 bs (p:Int)=if (f:Int)=(p:Int)\/(f≠0/\aaz bs f (k:Int)=false) then none else some (acV (lyN (if f≠0 then lyN (lyN (lyN bs (p+8) f) (p+16) 0) (f+16) p else lyN (lyN bs (p+8) f) (p+16) 0) (8+8*k) p) k):=by
    unfold ai2;rw[hk,if_neg (by omega)];simp only[Int.toNat_natCast,hf]
   rw[e];by_cases hfp:f=p
   · rw[if_pos (.inl (by omega))];exact aom h hb _ rfl hl p k f hk hf hfp
   · by_cases hf0:f=0
     · rw[if_neg (by omega),if_neg (by omega)];exact amC h hb _ rfl hl p k f hk hf hf0
     · cases hm:aaz bs f (k:Int)with
       | false=>
        rw[if_pos (.inr ⟨hf0,rfl⟩)];exact amB h hb _ rfl hl p k f hk hf hfp hf0 hm
       | true=>
        rw[if_neg (fun h1=>h1.elim (fun h2=>hfp (by omega)) (fun h2=>by cases h2.2)),if_pos hf0];exact akB h hb _ rfl hl p k f hk hf hfp hf0 hm
theorem asC:atH:=by
 intro w g base cap c A bs k x h hb hl hk hx;have hk1:¬(k:Int)<0:=by omega
 have hk2:¬22<=(k:Int):=by omega
 by_cases h0:bs.length<184
 · obtain rfl:none=x:=by rw[<-hx];unfold afL;rw[if_pos h0]
   have HL:=hE0 (adz h);clear hx h;go_enter Tryz.func85,Tryz.ntmps85
   go_wp2_with fail
   with_reducible refine HL.out.mono ?_
   rintro e w1 ⟨rfl,rfl⟩;go_wp2
   go_ret2
   exact⟨none,0,rfl,World.ownsRow_nil _ _ _ _,Below.refl _ _⟩
 · obtain⟨f,hf⟩:=nmE (aai bs (8+8*k));obtain⟨b,hbt⟩:=nmE (acF (aai bs 0) k);have hfl:f<18446744073709551616:=by rw[<-hf];exact abd _ _
   have hx':(if b≠decide (f≠0) then none else aeN bs k 1024 0 f)=x:=by rw[<-hx];unfold afL;rw[if_neg h0,hf,hbt]
   have HL:=hE0 (adz h);have HFA:=hE0 (acp w k hk);have HNF:=hE0 (abs h hb hl (8+8*(k:Int)) (8+8*k) (by omega) (by omega) f hf);have HBT:=hE0 (akA h hb hl (by omega) k hk b hbt);have HAR:=hE0 h;have HBASE:=hE0 hb;obtain⟨d,hd⟩:=nmE (decide (f≠0));have hd2:((f:Int) !=0)=d:=by
    rw[<-hd,Bool.eq_iff_iff,bne_iff_ne,decide_eq_true_eq];omega
   rw[hd]at hx';clear hf hbt hx h hb;by_cases hbd:b=d
   · subst hbd;rw[if_neg (by simp)]at hx';obtain⟨i0,hi,hz0,hz1,hz2⟩:=info_parts ake;have HX:=hE0 hx';obtain⟨B0,hB0⟩:=nmE w.heap.size;have HB0:=hE0 hB0;have hbb:(b !=b)=false:=by simp
     clear hx' hB0 hd;go_enter Tryz.func85,Tryz.ntmps85
     go_wp2_with fail
     with_reducible refine HL.out.mono ?_
     rintro e w1 ⟨rfl,rfl⟩;go_wp2_with fail
     with_reducible refine HFA.out.mono ?_
     rintro e w1 ⟨rfl,rfl⟩;go_wp2_with fail
     with_reducible refine HNF.out.mono ?_
     rintro e w1 ⟨rfl,rfl⟩;go_wp2_with fail
     with_reducible refine HBT.out.mono ?_
     rintro e w1 ⟨rfl,rfl⟩;clear HL HFA HNF HBT;go_wp2
     clear hd2;go_loopw [6,7,8] (fun q o t wr=>∃(p last n:Nat) (l:List Nat),q= .int .u64 (p:Int)/\t= .int .u64 (last:Int)/\p<18446744073709551616/\last<18446744073709551616/\n+l.length=1024/\x=(aeN bs k n last p).map (l++ ·)/\wr.ownsRow B0 3 1 o l.length (l.map iV)/\Below B0 w wr) (fun _ o _ _=>match o with | .slice _ n _=>1024-n | _=>0)
     case atStart=>exact⟨f,0,1024,[],rfl,rfl,hfl,by omega,rfl,by rw[HX.out];simp,World.ownsRow_nil _ _ _ _,Below.refl _ _⟩
     case round=>
      obtain⟨p,last,n,l,rfl,rfl,hp,hlast,hn,hxl,hown,hbw⟩:=hrel;obtain⟨A7,c7,rfl⟩:=aa4 hown;have hBw:B0<=wr.heap.size:=by have:=hbw.size;have:=HB0.out;omega
      by_cases hp0:p=0
      · subst hp0;obtain rfl:x=some l:=by rw[hxl];cases n<;>simp[aeN]
        have HB:=hE0 hbw;have HO:=hE0 hown;clear hxl hown hbw HX HAR HBASE;go_wp2
        go_ret2
        exact⟨A7,c7,rfl,by rw[HB0.out];exact HO.out,by rw[HB0.out];exact HB.out⟩
      · have hq0:((p:Int) !=0)=true:=by rw[bne_iff_ne];omega
        have har:=HAR.out.below (by rw[HB0.out];exact hbw);by_cases hn0:n=0
        · subst hn0;obtain rfl:x=none:=by rw[hxl];simp[aeN,hp0]
          have e1:((l.length:Int)==1024)=true:=by rw[beq_iff_eq];omega
          have HB:=hE0 hbw;clear hxl hown hbw HX HAR HBASE har;go_wp2
          go_ret2
          exact⟨none,0,rfl,World.ownsRow_nil _ _ _ _,by rw[HB0.out];exact HB.out⟩
        · obtain⟨n,rfl⟩:∃n',n=n'+1:=⟨n-1,by omega⟩;have e1:((l.length:Int)==1024)=false:=by rw[beq_eq_false_iff_ne];omega
          have hstep:x=(if aaz bs p (k:Int)=true/\aai bs (p+16)=last then (aeN bs k n p (aai bs (p+8))).map (p:: ·) else none).map (l++ ·):=by
           rw[hxl];conv=>lhs;unfold aeN
           rw[if_neg hp0]
          cases hm:ai5 bs k p 16 last with
          | false=>
           rw[if_neg (by
            rintro⟨h1,h2⟩;unfold ai5 at hm;rw[h1,h2]at hm;simp at hm)]at hstep
           obtain rfl:x=none:=hstep;have HM:=hE0 (alz har HBASE.out hl k p 16 last hk hp (by omega) false hm);have HB:=hE0 hbw;clear hxl hown hbw HX HAR HBASE har hm;go_wp2_with fail
           refine HM.out.mono ?_;rintro e w2 ⟨rfl,hb2⟩;have HB2:=hE0 (HB.out.trans (hb2.mono hBw));clear hb2;go_wp2
           go_ret2
           exact⟨none,0,rfl,World.ownsRow_nil _ _ _ _,by rw[HB0.out];exact HB2.out⟩
          | true=>
           obtain⟨hm1,hm2⟩:aaz bs p (k:Int)=true/\aai bs (p+16)=last:=by
            unfold ai5 at hm;rw[Bool.and_eq_true,beq_iff_eq]at hm;exact hm
           have hpf:=adm hm1;obtain⟨nx,hnx⟩:=nmE (aai bs (p+8));have hnl:nx<18446744073709551616:=by rw[<-hnx];exact abd _ _
           rw[if_pos ⟨hm1,hm2⟩,hnx]at hstep;have hstep':x=(aeN bs k n p nx).map ((l++ [p])++ ·):=by
            rw[hstep,Option.map_map];congr 1;funext r;simp
           have hp16:p<=16384:=by omega
           have hww:w.heap.size<=wr.heap.size:=by have:=HB0.out;omega
           have HN:=hE0 (fun W (hB:Below w.heap.size w W)=>abs (HAR.out.below hB) HBASE.out hl ((p:Int)+8) (p+8) (by omega) (by omega) nx hnx);have HM:=hE0 (alz har HBASE.out hl k p 16 last hk hp (by omega) true hm);have HB:=hE0 hbw;have HS:=hE0 hstep';have HOWN:=hE0 hown;have HALT:Hid (∀k,(Value.slice A7 l.length c7).ownBlock=some k->B0<=k/\k<wr.heap.size):=hown.lt;clear hxl hstep hstep' hown hbw HX hm hm1 hm2 hnx har HAR HBASE;go_wp2_with fail
           refine HM.out.mono ?_;rintro e w2 ⟨rfl,hb2⟩;have H2:=hE0 hb2;have own4:=aa6 (aa6 HOWN.out hb2) ((Below.refl w2.heap.size w2).alloc (Nat.le_refl _) (.cells #[.int .i64 (p:Int)] 3));have n4:(w2.alloc (.cells #[.int .i64 (p:Int)] 3)).heap[w2.heap.size]?=some (.cells #[.int .i64 (p:Int)] 3 (0,0)):=heap_alloc_new w2 _;have HNEW:Hid (∀j u,[Value.int .i64 (p:Int)][j]?=some u->(w2.alloc (.cells #[.int .i64 (p:Int)] 3)).cell? ((⟨w2.heap.size,0,none⟩:Addr).add j)=some u):=fun j u hu=>by
            have e:(⟨w2.heap.size,0,none⟩:Addr).add j=⟨w2.heap.size,j,none⟩:=by unfold Addr.add;split<;>simp_all
            rw[e,cell_of_row _ _ j _ _ (0,0) n4];simpa using hu
           have HONE:Hid (∀u∈ [Value.int .i64 (p:Int)],u.oneCell'=true):=fun u hu=>by
            simp at hu;subst hu;rfl
           have hB4:B0<=(w2.alloc (.cells #[.int .i64 (p:Int)] 3)).heap.size:=by simp;have:=hb2.size;omega
           have HB4:Hid (Below w2.heap.size w2 (w2.alloc (.cells #[.int .i64 (p:Int)] 3))):=(Below.refl w2.heap.size w2).alloc (Nat.le_refl _) _;have OWN4:=hE0 own4;have hsz2:=hb2.size;clear own4 n4 hb2 HOWN HM;go_wp2_with (first
            | (at_builtin;go_must (refine wpList_append_own _ rfl _ _ 23 rfl B0 3 i0 _ 1 8 Tryz.underlying23 hi hz0 hz1 hz2 rfl (by decide) _ l.length (l.map iV) rfl OWN4.out ⟨w2.heap.size,0,none⟩ 1 1 [.int .i64 (p:Int)] rfl rfl HNEW.out HONE.out (by unfold maxLen;omega) (by omega) hB4 ?_);intro x5 w5 own5 gr5 at5
               have gr5':(w2.alloc (.cells #[.int .i64 (p:Int)] 3)).grownBy w5 (Value.slice A7 l.length c7).ownBlock:=gr5;have HB5:Hid (Below B0 wr w5):=((H2.out.mono hBw).trans (HB4.out.mono (by omega))).grown gr5' hB4 (fun k hk=>(HALT.out k hk).1);have HW5:Hid (Below w.heap.size w w5):=(show Below w.heap.size w w5 by rw[HB0.out];exact HB.out.trans HB5.out);have OWN5:Hid (w5.ownsRow B0 3 1 x5 (l.length+1) ((l++ [p]).map iV)):=(show World.ownsRow _ _ _ _ _ _ _ by rw[List.map_append];exact own5);clear own5 gr5 gr5' at5)
            | fail)
           refine(HN.out w5 HW5.out).mono ?_;rintro e w6 ⟨rfl,rfl⟩;have HBE:=hE0 (HB.out.trans HB5.out);clear HN H2 HB4 OWN4 HNEW HONE;go_wp2
           go_roundw
           case rel=>exact⟨nx,p,n,l++ [p],rfl,rfl,hnl,hp,by rw[List.length_append,List.length_singleton];omega,HS.out,by rw[List.length_append,List.length_singleton];exact OWN5.out,HBE.out⟩
           case measure=>
            obtain⟨A8,c8,rfl⟩:=aa4 OWN5.out;simp;omega
   · rw[if_pos hbd]at hx';obtain rfl:none=x:=hx';have hcs:(b=true/\d=false)\/(b=false/\d=true):=by cases b<;>cases d<;>simp_all
     clear hd hbd HAR HBASE;rcases hcs with⟨rfl,rfl⟩ | ⟨rfl,rfl⟩;all_goals
      go_enter Tryz.func85,Tryz.ntmps85
      go_wp2_with fail
      with_reducible refine HL.out.mono ?_
      rintro e w1 ⟨rfl,rfl⟩;go_wp2_with fail
      with_reducible refine HFA.out.mono ?_
      rintro e w1 ⟨rfl,rfl⟩;go_wp2_with fail
      with_reducible refine HNF.out.mono ?_
      rintro e w1 ⟨rfl,rfl⟩;go_wp2_with fail
      with_reducible refine HBT.out.mono ?_
      rintro e w1 ⟨rfl,rfl⟩;clear HL HFA HNF HBT;go_wp2
      go_ret2
      exact⟨none,0,rfl,World.ownsRow_nil _ _ _ _,Below.refl _ _⟩
def Rw (S:Nat->Prop) (w:World) (A:Option Addr) (l:List Nat):Prop:=0<l.length->∃b o,A=some ⟨b,o,none⟩/\b<w.heap.size/\¬S b/\∀(j x:Nat),l[j]?=some x->w.cell? ⟨b,o+j,none⟩=some (.int .i64 (x:Int))
section
variable {S S':Nat->Prop} {w w':World} {gl:Nat} {L:Nat->List Nat} {cs:List Value} {A:Option Addr} {l:List Nat}
theorem Rw.keep (h:Rw S w A l) (hz:w.heap.size<=w'.heap.size) (hk:∀k,k<w.heap.size->¬S k->w'.heap[k]?=w.heap[k]?/\¬S' k):Rw S' w' A l:=fun h0=>by
 obtain⟨b,o,e,hb,hn,hc⟩:=h h0;obtain⟨k1,k2⟩:=hk b hb hn;exact⟨b,o,e,Nat.lt_of_lt_of_le hb hz,k2,fun j x hx=>(World.cell?_of_block (w:=w) (a:=⟨b,o+j,none⟩) k1).trans (hc j x hx)⟩
end
section
variable {wB W W':World} {g c gl gi:Nat} {A:Option Addr} {bs:List UInt8} {L:Nat->List Nat} {cs:List Value} {inn:List Bool}
end
theorem arX:(Tryz.prog.info? 23).map (fun i=>(i.zero,i.size,i.bytes))=some (some (.slice none 0 0),1,24):=by kernel_rfl
theorem ap8 (z:Value) (n:Nat):madeCells #[z] n=(List.replicate n z).toArray:=by
 apply Array.ext
 · simp[madeCells]
 · intro i h1 h2;simp[madeCells,Nat.mod_one]
theorem aon (W:World):(Instr.makeSlice 94 (.int .i64 22) (.int .i64 22)).run Tryz.prog W= .ok (.slice (some ⟨W.heap.size,0,none⟩) 22 22) (W.alloc (.cells (List.replicate 22 (Value.slice none 0 0)).toArray 23)):=by
 have h:=run_make_row' (P:=Tryz.prog) 94 23 (.slice none 0 0) 24 Tryz.underlying94 arX rfl .i64 .i64 22 (by omega) (by omega) W;rw[ap8]at h;exact h
theorem akC (w:World) (x:Int):(Instr.buildSlice 23 1 #[(0, .int .i64 x)]).run Tryz.prog w= .ok (.slice (some ⟨w.heap.size,0,none⟩) 1 1) (w.alloc (.cells #[.int .i64 x] 3)):=by
 obtain⟨i0,hi,hz0,hz1,hz2⟩:=info_parts ake;refine run_buildSlice w 23 3 1 _ _ i0 _ Tryz.underlying23 hi hz0 (by omega) (by omega) ?_;rw[hz1];have e:Array.range (1*1)= #[0]:=by decide
 rw[e];simp[Instr.fill,Value.cells]
theorem asD (l:List Nat):∀u∈l.map iV,u.oneCell'=true:=by
 intro u hu;obtain⟨x,_,rfl⟩:=List.mem_map.1 hu;rfl
theorem ap9{S:Nat->Prop}{w:World}{ad:Addr}{l:List Nat}(h:Rw S w (some ad) l):∀j u,(l.map iV)[j]?=some u->w.cell? (ad.add j)=some u:=by
 intro j u hu;rw[List.getElem?_map,Option.map_eq_some_iff]at hu;obtain⟨x,hx,rfl⟩:=hu;have hj:j<l.length:=by
  rcases Nat.lt_or_ge j l.length with h1 | h1
  · exact h1
  · rw[List.getElem?_eq_none h1]at hx;cases hx
 obtain⟨b,off,e,_,_,hc⟩:=h (by omega)
 cases e;have e:(⟨b,off,none⟩:Addr).add j=⟨b,off+j,none⟩:=by unfold Addr.add;split<;>simp_all
 rw[e];exact hc j x hx
theorem arY (w:World) (x:Nat):(w.alloc (.cells #[.int .i64 (x:Int)] 3)).ownsRow w.heap.size 3 1 (.slice (some ⟨w.heap.size,0,none⟩) 1 1) 1 ([x].map iV):=
 ⟨rfl, .inr ⟨w.heap.size,1,_,rfl,Nat.le_refl _,heap_alloc_new w _,Nat.le_refl _,by unfold maxLen;omega,rfl,rfl⟩⟩
theorem alA (l:List Nat):(apB l).length=l.length:=by simp[apB]
theorem asE{S:Nat->Prop}{w:World}{base n:Nat}{A:Option Addr}{c:Nat}{l:List Nat}(h:w.ownsRow base 3 1 (.slice A n c) n (l.map iV)) (hn:n=l.length) (hS:∀k,base<=k->¬S k):Rw S w A l/\(A=none->c=0):=by
 refine⟨fun h0=> ?_,fun e=> ?_⟩
 · rcases h.2 with⟨_,h0'⟩ | ⟨g,_,_,h',_⟩
   · omega
   · injection h' with e;subst e;refine⟨g,0,rfl,(h.lt g rfl).2,hS g (h.lt g rfl).1,fun j x hx=> ?_⟩;have hj:j<l.length:=by
      rcases Nat.lt_or_ge j l.length with h | h
      · exact h
      · rw[List.getElem?_eq_none h]at hx;cases hx
     rw[Nat.zero_add,h.cellAt j (by omega),List.getElem?_map,hx];rfl
 · subst e;rcases h.2 with⟨h',_⟩ | ⟨_,_,_,h',_⟩
   · injection h' with _ _ e
   · injection h' with e;cases e
def amD (bs:List UInt8) (s:Int):Value:=if aa3 s=true then .tuple #[.int .i64 (((anu bs s).getD 0:Nat):Int),abm (anu bs s).isSome 3] else .tuple #[.int .i64 0,abm false 1]
def atl:Prop:=∀(w:World) (g base cap c:Nat) (A:Option Addr) (bs:List UInt8) (s:Int),Ar w 160 g base cap A c bs->base<=4611686018427387904->bs.length<=16384->(-9223372036854775808<=s/\s<=9223372036854775807)->
 Calls Tryz.prog 199 #[.pointer (some ⟨g,0,none⟩), .int .i64 s] w fun e w'=>e= .returned (amD bs s)/\Below w.heap.size w w'
def aqa:Prop:=∀(w:World) (g base cap c:Nat) (A:Option Addr) (bs:List UInt8) (y:Option (List UInt8)),Ar w 160 g base cap A c bs->base<=4611686018427387904->bs.length<=16384->abW bs=y->
 Calls Tryz.prog 129 #[.pointer (some ⟨g,0,none⟩)] w fun e w'=>ap7 3 160 g base cap A y w e w'
section
variable {w:World} {g base cap c:Nat} {A:Option Addr} {bs:List UInt8}
theorem amE (h:Ar w 160 g base cap A c bs) (hb:base<=4611686018427387904) (hl:bs.length<=16384) (h184:184<=bs.length) (z:List UInt8) (hz:List.replicate 184 (0:UInt8)++bs.drop 184=z):
 Calls Tryz.prog 185 #[.pointer (some ⟨g,0,none⟩)] w fun e w'=>e= .returned .nilIface/\Became 160 g base cap A z w w':=by
 have HA:=hE0 (ac7 h);have hf:=anf h (by omega) base 184 0 0 (by omega) (by omega) (by omega) (by omega);have e:lay bs 0 (List.replicate 184 (0:UInt8))=z:=by
  have e1:(List.replicate 184 (0:UInt8)).length=184:=List.length_replicate;rw[<-hz];unfold lay;rw[e1,Nat.zero_add,List.take_zero,List.nil_append]
 rw[e]at hf;have HF:Hid (Calls Tryz.prog 154 #[.pointer (some ⟨g,0,none⟩), .int .u64 (base:Int), .int .u64 184, .int .u8 0] w fun e w'=>e= .returned .nilIface/\Became 160 g base cap A z w w'):=hf;clear hf e hz h;go_enter Tryz.func185,Tryz.ntmps185
 go_wp2_with fail
 with_reducible refine HA.out.mono ?_
 rintro e w1 ⟨rfl,rfl⟩;go_wp2_with fail
 refine HF.out.mono ?_;rintro e w1 ⟨rfl,hbe⟩;have HB:=hE0 hbe;clear hbe;go_wp2
 go_ret
 exact⟨rfl,HB.out⟩
end
section
variable {w w1 w2:World} {g base cap:Nat} {A:Option Addr} {out:List UInt8}
theorem adg (h:Became 160 g base cap A out w w1) (hb:Below w1.heap.size w1 w2):Became 160 g base cap A out w w2:=by
 obtain⟨A',c',a,tc,k⟩:=h;exact Became.trans a tc k (aej a hb)
theorem aqb (h:184<=out.length) (o:Int):((ai2 out o).getD out).length=out.length:=by
 cases hp:ai2 out o with
 | none=>rfl
 | some y=>exact(ajc h hp).1
theorem amF (h:Became 160 g base cap A out w w1) (hb:base<=4611686018427387904) (hl:out.length<=16384) (o:Int) (ho: -9223372036854775808<=o/\o<=9223372036854775807):
 Calls Tryz.prog 186 #[.pointer (some ⟨g,0,none⟩), .int .i64 o] w1 fun e w2=>(∃v,e= .returned v)/\Became 160 g base cap A ((ai2 out o).getD out) w w2:=by
 obtain⟨A',c',a,tc,k⟩:=h;refine(atO w1 g base cap c' A' out o _ a hb hl ho rfl).mono ?_;intro e w2 hd;unfold ap7 at hd
 cases hp:ai2 out o with
 | none=>
  rw[hp]at hd;exact⟨⟨_,hd.1⟩,Became.trans a tc k (aej a hd.2)⟩
 | some y=>
  rw[hp]at hd;exact⟨⟨_,hd.1⟩,Became.trans a tc k hd.2⟩
end
section
variable {w:World} {g base cap c:Nat} {A:Option Addr} {bs:List UInt8}
theorem amG (h:Ar w 160 g base cap A c bs) (hb:base<=4611686018427387904) (hl:bs.length<=16384) (A2:Option Addr) (c2 B1:Nat) (l:List Nat) (ho:w.ownsRow B1 3 1 (.slice A2 l.length c2) l.length (l.map iV)) (hm:∀o∈l,o<=20000/\∃x,abV bs (o:Int)=some x) (s:Int) (x:Nat) (hx:(l.find? fun o=>decide (s<=(szB bs o:Int))).getD 0=x):
 Calls Tryz.prog 237 #[.pointer (some ⟨g,0,none⟩), .slice A2 l.length c2, .int .i64 s] w fun e w'=>e= .returned (.int .i64 (x:Int))/\Below w.heap.size w w':=by
 have hcl:l.length<=c2/\c2<=9223372036854775807:=by
  rcases ho.2 with⟨h',h0⟩ | ⟨_,_,_,h',_,_,h1,h2,_⟩
  · injection h' with _ _ e;rw[h0,e];omega
  · injection h' with _ _ e;unfold maxLen at h2;omega
 have HX:=hE0 hx;have HAR:=hE0 h;have HO:=hE0 ho;have HMEM:=hE0 hm;have HBASE:=hE0 hb;obtain⟨B0,hB0⟩:=nmE w.heap.size;have HB0:=hE0 hB0;clear hx h ho hm hb hB0;go_enter Tryz.func237,Tryz.ntmps237
 go_wp2
 go_loopw [13] (fun i wr=>∃j:Nat,j<=l.length/\i= .int .i64 (j:Int)/\(∀q∈l.take j,decide (s<=(szB bs q:Int))=false)/\Below B0 w wr) (fun i _=>l.length-(intOf i).toNat)
 case atStart=>exact⟨0,Nat.zero_le _,rfl,by simp,Below.refl _ _⟩
 case round=>
  obtain⟨j,hj,rfl,hall,hb3⟩:=hrel;have hBw:B0<=wr.heap.size:=by have:=hb3.size;have:=HB0.out;omega
  by_cases hlt:j<l.length
  · obtain⟨o,ho⟩:∃o,l[j]?=some o:=⟨l[j],List.getElem?_eq_getElem hlt⟩;have hb4:Below w.heap.size w wr:=by rw[HB0.out];exact hb3
    have own3:=aa6 HO.out hb4;obtain⟨b2,rfl⟩:∃b2,A2=some ⟨b2,0,none⟩:=by
     rcases own3.2 with⟨_,h0⟩ | ⟨g,_,_,h',_⟩
     · omega
     · injection h' with e;exact⟨g,e⟩
    have hcell:wr.cell? ⟨b2,j,none⟩=some (.int .i64 (o:Int)):=by
     rw[own3.cellAt j (by omega),List.getElem?_map,ho];rfl
    have har:=HAR.out.below hb4;obtain⟨ho20,⟨xo,xs,xu⟩,hg⟩:=HMEM.out o (List.mem_of_getElem? ho);have hsz:=aqY hg;dsimp only at hsz;have hG:=aq5 wr g base cap c A bs (o:Int) _ har HBASE.out hl (by omega) hg;dsimp only[ab4,bkV,Bk.val,Option.isSome,abm]at hG;have q:=(aae _).1 (aa2 hg).2.2.2.2.1;dsimp only at q;have HG:=hE0 hG;have HALL:=hE0 hall;have HOO:=hE0 ho;have HB2R:=hE0 hb3;clear hG hg hb3 hb4 own3 hall har ho;by_cases hge:s<=(xs:Int)
    · have hx1:x=o:=by
       rw[<-HX.out,anG HALL.out HOO.out (by rw[hsz];simpa using hge)];rfl
      subst hx1;clear HX;go_wp2_with fail
      with_reducible refine HG.out.mono ?_
      rintro e w4 ⟨rfl,hb4⟩;have HB4:=hE0 (HB2R.out.trans (hb4.mono hBw));have HS4:=hE0 hb4.size;clear hb4;go_wp2
      go_ret
      exact⟨rfl,by rw[HB0.out];exact HB4.out.alloc (by have:=HS4.out;omega) _⟩
    · go_wp2_with fail
      with_reducible refine HG.out.mono ?_
      rintro e w4 ⟨rfl,hb4⟩;have HB4:=hE0 (HB2R.out.trans (hb4.mono hBw));have HS4:=hE0 hb4.size;clear hb4;go_wp2
      go_roundw
      case rel=>exact⟨j+1,by omega,rfl,by
       intro q hq;rw[List.take_add_one,HOO.out]at hq;rcases List.mem_append.1 hq with hq | hq
       · exact HALL.out q hq
       · simp at hq;rw[hq,hsz];simpa using hge,HB4.out.alloc (by have:=HS4.out;omega) _⟩
      case measure=>simp only[intOf];omega
  · obtain rfl:j=l.length:=by omega
    have hx2:x=0:=by
     rw[<-HX.out,al7 (by rw[List.take_length]at hall;exact hall)];rfl
    subst hx2;have HB4:=hE0 hb3;clear HX hall hb3;go_wp2
    go_ret
    exact⟨rfl,by rw[HB0.out];exact HB4.out⟩
end
theorem findC:atl:=by
 intro w g base cap c A bs s h hb hl hs
 cases hz:aa3 s
 · have hv:amD bs s= .tuple #[.int .i64 0,abm false 1]:=by unfold amD;rw[if_neg (by rw[hz];simp)]
   have hc:aaw s= -1:=by simp[aaw,hz]
   rw[hv];have hC:=alh w s hs;rw[hc]at hC;have HC:=hE0 hC;clear hz hv hc hC h hb;go_enter Tryz.func199,Tryz.ntmps199
   go_wp2_with fail
   with_reducible refine HC.out.mono ?_
   rintro e w1 ⟨rfl,hb1⟩;have HB:=hE0 hb1;clear hb1;go_wp2
   go_ret2
   exact⟨rfl,HB.out⟩
 · obtain⟨k0,hk0,hk22⟩:∃k0:Nat,aaw s=(k0:Int)/\k0<22:=by
    have h1:=ady s;have h2:¬aaw s<0:=by rw[aha];simp[hz]
    exact⟨(aaw s).toNat,by omega,by omega⟩
   obtain⟨x,hx⟩:=nmE (ag2 bs s (22-k0) k0);have hv:amD bs s= .tuple #[.int .i64 ((x.getD 0:Nat):Int),abm x.isSome 3]:=by
    unfold amD anu;rw[if_pos hz,hk0,Int.toNat_natCast,hx]
   rw[hv];have hC:=alh w s hs;rw[hk0]at hC;have HC:=hE0 hC;have HX:=hE0 hx;have HAR:=hE0 h;have HBASE:=hE0 hb;obtain⟨B0,hB0⟩:=nmE w.heap.size;have HB0:=hE0 hB0;clear hz hv hk0 hC h hx hB0 hb;go_enter Tryz.func199,Tryz.ntmps199
   go_wp2_with fail
   with_reducible refine HC.out.mono ?_
   rintro e w1 ⟨rfl,hb1⟩;have HB1:=hE0 hb1;clear hb1 HC;go_wp2
   go_loopw [7] (fun t wr=>∃d k:Nat,t= .int .i64 (d:Int)/\d+k=22/\x=ag2 bs s k d/\Below B0 w wr) (fun t _=>22-(intOf t).toNat)
   case atStart=>exact⟨k0,22-k0,rfl,by omega,HX.out.symm,by rw[<-HB0.out];exact HB1.out⟩
   case round=>
    obtain⟨d,k,rfl,hdk,hxf,hb2⟩:=hrel;have hBw:B0<=wr.heap.size:=by have:=hb2.size;have:=HB0.out;omega
    by_cases hd22:d<22
    · obtain⟨k,rfl⟩:∃k',k=k'+1:=⟨k-1,by omega⟩;have har:Ar wr 160 g base cap A c bs:=HAR.out.below (by rw[HB0.out];exact hb2)
      cases ha:afL bs d with
      | none=>
       obtain rfl:x=none:=by rw[hxf];simp[ag2,ha]
       have hA:=asC wr g base cap c A bs d _ har HBASE.out hl hd22 ha;dsimp only[afa,Option.isSome,Option.getD,abm]at hA;have HA:=hE0 hA;have HB:=hE0 hb2;clear hA hb2 hxf har HX ha HAR;go_wp2_with fail
       with_reducible refine HA.out.mono ?_
       rintro e w2 ⟨A',c',rfl,_,hb3⟩;have HB2:=hE0 (HB.out.trans (hb3.mono hBw));clear hb3;go_wp2
       go_ret2
       exact⟨rfl,by rw[HB0.out];exact HB2.out⟩
      | some l=>
       have hA:=asC wr g base cap c A bs d _ har HBASE.out hl hd22 ha;dsimp only[afa,Option.isSome,Option.getD,abm]at hA;have hxf':x=(match l.find? (fun o=>decide (s<=(szB bs o:Int)))with
        | some o=>some o
        | none=>ag2 bs s k (d+1)):=by
        rw[hxf];conv=>lhs;unfold ag2
        rw[ha]<;>rfl
       have hmem:∀o∈l,184<=o/\o<=20000/\∃x,abV bs (o:Int)=some x:=fun o ho=>by
        have hm:=acY ha o ho;obtain⟨h1,x,h2⟩:=aeF hm;have:=(adm hm);exact⟨by omega,h1,x,h2⟩
       have HF:=hE0 (fun(W:World) (hB:Below wr.heap.size wr W) (A2:Option Addr) (c2 B1:Nat) (ho:W.ownsRow B1 3 1 (.slice A2 l.length c2) l.length (l.map iV))=>amG (har.below hB) HBASE.out hl A2 c2 B1 l ho (fun o ho=>(hmem o ho).2) s);have HA:=hE0 hA;have HB:=hE0 hb2;have HXF:=hE0 hxf';have HMEM:=hE0 hmem;clear hA hb2 hxf hxf' har HX ha hmem HAR
       cases hfd:l.find? (fun o=>decide (s<=(szB bs o:Int)))with
       | some o=>
        obtain rfl:x=some o:=by rw[HXF.out,hfd]
        obtain⟨o184,o20,_⟩:=HMEM.out o (List.mem_of_find?_eq_some hfd);have ho0:((o:Int) !=0)=true:=by rw[bne_iff_ne];omega
        have HF2:=hE0 (fun W hB A2 c2 B1 ho=>HF.out W hB A2 c2 B1 ho o (by rw[hfd];rfl));clear HF HXF hfd HMEM;go_wp2_with fail
        with_reducible refine HA.out.mono ?_
        rintro e w2 ⟨A2,c2,rfl,ho2,hb3⟩;have HFF:=hE0 (HF2.out w2 hb3 A2 c2 _ ho2);have HB2:=hE0 (HB.out.trans (hb3.mono hBw));have hs2:=hb3.size;clear hb3 ho2 HA HF2;go_wp2_with fail
        with_reducible refine HFF.out.mono ?_
        rintro e w3 ⟨rfl,hb4⟩;have HB3:=hE0 (HB2.out.trans (hb4.mono (by omega)));clear hb4 HFF;go_wp2
        go_ret2
        exact⟨rfl,by rw[HB0.out];exact HB3.out⟩
       | none=>
        have hx2:x=ag2 bs s k (d+1):=by rw[HXF.out,hfd]
        have HF2:=hE0 (fun W hB A2 c2 B1 ho=>HF.out W hB A2 c2 B1 ho 0 (by rw[hfd];rfl));have HX2:=hE0 hx2;clear HF HXF hfd HMEM hx2;go_wp2_with fail
        with_reducible refine HA.out.mono ?_
        rintro e w2 ⟨A2,c2,rfl,ho2,hb3⟩;have HFF:Hid (Calls Tryz.prog 237 #[.pointer (some ⟨g,0,none⟩), .slice A2 l.length c2, .int .i64 s] w2 fun e w'=>e= .returned (.int .i64 0)/\Below w2.heap.size w2 w'):=HF2.out w2 hb3 A2 c2 _ ho2;have HB2:=hE0 (HB.out.trans (hb3.mono hBw));have hs2:=hb3.size;clear hb3 ho2 HA HF2;go_wp2_with fail
        with_reducible refine HFF.out.mono ?_
        rintro e w3 ⟨rfl,hb4⟩;have HB3:=hE0 (HB2.out.trans (hb4.mono (by omega)));clear hb4 HFF;go_wp2
        go_roundw
        case rel=>exact⟨d+1,k,by go_num,by omega,HX2.out,HB3.out⟩
        case measure=>simp only[intOf];omega
    · obtain⟨rfl,rfl⟩:d=22/\k=0:=by omega
      obtain rfl:x=some 0:=by rw[hxf];rfl
      have HB:=hE0 hb2;clear hxf hb2 HX;go_wp2
      go_ret2
      exact⟨rfl,by rw[HB0.out];exact HB.out⟩
theorem alB{out:List UInt8}(h:184<=out.length) (x:Bk):(afV out x).length=out.length:=by
 unfold afV;split
 · rfl
 · exact aqb h _
theorem alC:∀(l:List Bk){out:List UInt8},184<=out.length->(l.foldl afV out).length=out.length
 | [],_,_=>rfl
 | x::r,out,h=>by
  rw[List.foldl_cons,alC r (by rw[alB h];exact h),alB h]
theorem aiu{S:Nat->Prop}{w w':World}(h:Tch S w w'){b j:Nat}{v:Value}(hc:w.cell? ⟨b,j,none⟩=some v) (hb:b<w.heap.size) (hn:¬S b):w'.cell? ⟨b,j,none⟩=some v:=
 (World.cell?_of_block (w:=w) (a:=⟨b,j,none⟩) (h.block b hb hn)).trans hc
theorem aqc:aqa:=by
 intro w g base cap c A bs y h hb hl hy
 cases hw:abJ bs with
 | none=>
  obtain rfl:none=y:=by rw[<-hy];unfold abW;rw[hw];rfl
  have hW:=akz w g base cap c A bs _ h hb hl hw;dsimp only[adP,Option.isSome,Option.getD,abm]at hW;dsimp only[ap7,abm];have HW:=hE0 hW;clear hW hw hy h hb;go_enter Tryz.func129,Tryz.ntmps129
  go_wp2_with fail
  with_reducible refine HW.out.mono ?_
  rintro e w2 ⟨A',c',rfl,_,hb2⟩;have HB2:=hE0 hb2;clear hb2;go_wp2
  go_ret
  exact⟨rfl,HB2.out⟩
 | some l=>
  obtain⟨h184,hmem⟩:=anH hw;obtain⟨z,hz⟩:=nmE (List.replicate 184 (0:UInt8)++bs.drop 184);have hzl:z.length=bs.length:=by rw[<-hz,List.length_append,List.length_replicate,List.length_drop];omega
  obtain rfl:some (l.foldl afV z)=y:=by rw[<-hy,<-hz];unfold abW;rw[hw];rfl
  have hW:=akz w g base cap c A bs _ h hb hl hw;dsimp only[adP,Option.isSome,Option.getD,abm]at hW;dsimp only[ap7,abm];have HCL:=hE0 (fun(W:World) (hB:Below w.heap.size w W)=>amE (h.below hB) hb hl h184 z hz);have HW:=hE0 hW;have HMEM:=hE0 hmem;have HAR:=hE0 h;have HBASE:=hE0 hb;have HZL:=hE0 hzl;obtain⟨B0,hB0⟩:=nmE w.heap.size;have HB0:=hE0 hB0;clear hW hw hy h hb hz hmem hzl hB0;go_enter Tryz.func129,Tryz.ntmps129
  go_wp2_with fail
  with_reducible refine HW.out.mono ?_
  rintro e w2 ⟨A2,c2,rfl,ho2,hb2⟩;have hcl:l.length<=c2/\c2<=9223372036854775807:=by
   rcases ho2.2 with⟨h',h0⟩ | ⟨_,_,_,h',_,_,h1,h2,_⟩
   · injection h' with _ _ e;rw[h0,e];omega
   · injection h' with _ _ e;unfold maxLen at h2;omega
  have HO2:=hE0 ho2;have HB2:=hE0 hb2;have HAR2:=hE0 (HAR.out.below hb2);have HCL2:=hE0 (HCL.out w2 hb2);clear hb2 ho2 HW HCL;go_wp2_with fail
  refine HCL2.out.mono ?_;rintro e w3 ⟨rfl,hbe⟩;have HBE:=hE0 hbe;clear hbe HCL2;go_wp2
  go_loopw [19] (fun t wr=>∃j:Nat,t= .int .i64 (j:Int)/\j<=l.length/\Became 160 g base cap A ((l.take j).foldl afV z) w2 wr) (fun t _=>l.length-(intOf t).toNat)
  case atStart=>exact⟨0,rfl,Nat.zero_le _,HBE.out⟩
  case round=>
   obtain⟨j,rfl,hj,hbe⟩:=hrel;by_cases hlt:j<l.length
   · obtain⟨x,hx⟩:∃x,l[j]?=some x:=⟨l[j],List.getElem?_eq_getElem hlt⟩;obtain⟨b,o,rfl,hbb,hc⟩:=anI HO2.out rfl (by omega);have hbB:B0<=b:=by have:=(HO2.out.lt b rfl).1;have:=HB0.out;omega
     have hnf:¬foot g A b:=fun hf=>by
      have h1:b<w.heap.size:=HAR.out.foot_lt hf;have:=HB0.out;omega
     obtain⟨p0,p1,p2⟩:=hc j x hx;have hg:=HMEM.out x (List.mem_of_getElem? hx);obtain⟨_,_,_,q3,_⟩:=aa2 hg;obtain⟨out,hout⟩:=nmE ((l.take j).foldl afV z);have hol:out.length=bs.length:=by rw[<-hout,alC _ (by have:=HZL.out;omega)];exact HZL.out
     have hnext:(l.take (j+1)).foldl afV z=afV out x:=by
      rw[List.take_add_one,hx,List.foldl_append,hout];rfl
     rw[hout]at hbe;have htc:Tch (foot g A) w2 wr:=by obtain⟨_,_,_,t,_⟩:=hbe;exact t
     have r0:=aiu htc p0 hbb hnf;have r1:=aiu htc p1 hbb hnf;have r2:=aiu htc p2 hbb hnf;obtain⟨xo,xs,xu⟩:=x;dsimp only at p0 p1 p2 q3 r0 r1 r2;have hq:=(aae _).1 (aa2 hg).2.2.2.2.1;dsimp only at hq;obtain⟨w4,hw4⟩:=nmE (wr.alloc (.cells #[.int .i64 (xo:Int), .int .i64 (xs:Int), .bool xu] 132));have hb4:=abE hw4;have n4:=anE hw4;obtain⟨⟨d0,d1,d2⟩,_⟩:=aar n4;have HBE4:=hE0 (adg hbe hb4);have HW4:=hE0 hw4;have HP:=hE0 (amF HBE4.out HBASE.out (by rw[hol];exact hl) (xo:Int) (by omega))
     cases xu with
     | true=>
      have HN:Hid ((l.take (j+1)).foldl afV z=out):=hnext;clear hnext hx hc hbe hout htc hg p0 p1 p2 hb4 n4 HP hw4 HAR HAR2;go_wp2_with (first | (rw[HW4.out]) | fail)
      go_roundw
      case rel=>exact⟨j+1,by go_num,by omega,by rw[HN.out];exact HBE4.out⟩
      case measure=>simp only[intOf];omega
     | false=>
      have HN:Hid ((l.take (j+1)).foldl afV z=(ai2 out (xo:Int)).getD out):=hnext;clear hnext hx hc hbe hout htc hg p0 p1 p2 hb4 n4 hw4 HAR HAR2;go_wp2_with (first | (rw[HW4.out]) | fail)
      refine HP.out.mono ?_;rintro e w5 ⟨⟨v,rfl⟩,hbe5⟩;have HBE5:=hE0 hbe5;clear hbe5 HP;go_wp2
      go_roundw
      case rel=>exact⟨j+1,by go_num,by omega,by rw[HN.out];exact HBE5.out⟩
      case measure=>simp only[intOf];omega
   · obtain hjl:j=l.length:=by omega
     rw[hjl,List.take_length]at hbe;have HF:=hE0 (hbe.after HB2.out);clear hbe hjl;go_wp2
     go_ret
     exact⟨rfl,HF.out⟩
def aq6:Prop:=∀(w:World) (g base cap c:Nat) (A:Option Addr) (bs:List UInt8) (x:Bool),Ar w 160 g base cap A c bs->base<=4611686018427387904->bs.length<=16384->aci bs=x->
 Calls Tryz.prog 84 #[.pointer (some ⟨g,0,none⟩)] w fun e w'=>e= .returned (abm x 3)/\Below w.heap.size w w'
theorem aqd:laidOutB Tryz.prog=true:=by kernel_rfl
theorem plc_law:Maps.Keyed Tryz.prog 259:=
 Maps.Keyed.of_law (deep_law_laid aqd (m:=2) (by omega) (of_decide_eq_true (by kernel_rfl)) (by kernel_rfl) (by rw[Tryz.underlying259]))
def pk (o k:Nat):Lit:= .string (keyBytes [.int .i64 (o:Int), .int .i64 (k:Int)])
abbrev pv (o k:Nat):Value:= .agg #[.int .i64 (o:Int), .int .i64 (k:Int)]
theorem ahG{o k:Nat}(ho:o<=100000) (hk:k<=100):keyOf Tryz.prog 259 (pv o k)=some (pk o k):=by
 have w1:(Lit.int .i64 (o:Int)).wf=true:=WalkArith.wf_i64 (by omega);have w2:(Lit.int .i64 (k:Int)).wf=true:=WalkArith.wf_i64 (by omega);have hkt:Tryz.prog.keyType 259=true:=by kernel_rfl
 have hc:Tryz.prog.cellsOf 259=2:=by kernel_rfl
 have hi:Tryz.prog.cellsOf 3=1:=by kernel_rfl
 obtain⟨m,hm⟩:∃m,Tryz.prog.types.size=m+1:=⟨Tryz.prog.types.size-1,by have:0<Tryz.prog.types.size:=of_decide_eq_true (by kernel_rfl);omega⟩;unfold keyOf;simp only[Tryz.underlying259];rw[if_pos (by simp[hkt,Value.formed,Tryz.underlying259,hc]),hm];unfold Program.keyLits;simp only[Tryz.underlying259,Value.cells];rw[if_pos ⟨by rw[hc];rfl,by kernel_rfl⟩];simp[hi,Program.keyLits,Tryz.underlying3,w1,w2,pk]
theorem aq7{o k o' k':Nat}(ho:o<=100000) (hk:k<=100) (ho':o'<=100000) (hk':k'<=100) (h:pk o k=pk o' k'):o=o'/\k=k':=by
 have h1:=ahG ho hk;rw[h]at h1;have h2:=plc_law.inj h1 (ahG ho' hk');simp only[pv,Value.agg.injEq,Array.mk.injEq,List.cons.injEq,Value.int.injEq,and_true,true_and]at h2;omega
theorem asF{o k:Nat}(ho:o<=100000) (hk:k<=100):WideAt.IsKeyLit (pk o k):=plc_law.key (ahG ho hk)
def PSet (w:World) (B n:Nat) (f:Nat->Nat->Bool) (z:Nat):Prop:=∃D:DataW Unit,w.ownsMap Tryz.prog 259 (plainElem Tryz.prog 4) B n D/\
 (∀kl,Maps.has D kl=true->∀y,D.atKey kl y= .lit (.bool true))/\(∀o k,o<=100000->k<=100->Maps.has D (pk o k)=f o k)/\Maps.size D=z
theorem ajv (b:Bool):plainElem (H:=Unit) Tryz.prog 4 (.bool b)=some (.lit (.bool b),[]):=plainElem_bool Tryz.underlying4 b
theorem aoo (w:World):(zeroValue 4).run Tryz.prog w= .ok (.bool false) w:=by kernel_rfl
theorem aiv{P:Program}{e:TypeId}(he:P.underlying e=some .bool){v:Value}{d:DataW Unit}{ps:List MemPlace}(h:plainElem P e v=some (d,ps)):∃b,v= .bool b/\d= .lit (.bool b):=by
 unfold plainElem at h;rw[he]at h
 cases v<;>simp at h;exact⟨_,rfl,h.1.symm⟩
theorem aqe{v:Value}{d:DataW Unit}{ps:List MemPlace}(h:plainElem Tryz.prog 4 v=some (d,ps)):∃b,v= .bool b/\d= .lit (.bool b):=aiv Tryz.underlying4 h
section
variable {w w':World} {B n z:Nat} {f:Nat->Nat->Bool}
theorem PSet.made (w:World):PSet (w.alloc (.map #[] 0)) w.heap.size 0 (fun _ _=>false) 0:=
 ⟨.map [],World.ownsMap_made _ _ _ _,fun kl h=>absurd h (by simp[Maps.has]),fun _ _ _ _=>rfl,rfl⟩
theorem PSet.lt (h:PSet w B n f z):B<w.heap.size:=by
 obtain⟨D,ho,_⟩:=h;exact ho.lt
theorem PSet.keep (h:PSet w B n f z) (hb:w'.heap[B]?=w.heap[B]?):PSet w' B n f z:=by
 obtain⟨D,⟨es,clock,h1,h2⟩,h3⟩:=h;exact⟨D,⟨es,clock,hb.trans h1,h2⟩,h3⟩
theorem PSet.mono{n':Nat}(h:PSet w B n f z) (hn:n<=n'):PSet w B n' f z:=by
 obtain⟨D,h1,h2⟩:=h;exact⟨D,h1.mono hn,h2⟩
theorem PSet.below{B0:Nat}(h:PSet w B n f z) (hb:Below B0 w w') (hB:B<B0):PSet w' B n f z:=h.keep (hb.block B hB)
theorem PSet.same{f':Nat->Nat->Bool}(h:PSet w B n f z) (hf:∀o k,o<=100000->k<=100->f o k=f' o k):PSet w B n f' z:=by
 obtain⟨D,h1,h2,h3,h4⟩:=h;exact⟨D,h1,h2,fun o k ho hk=>(h3 o k ho hk).trans (hf o k ho hk),h4⟩
end
section
variable {w:World} {ops:Array Oper} {rest:List Oper} {o:Oper} {a:Act} {Q:Exit->Act->World->Prop} {B n z:Nat} {f:Nat->Nat->Bool}
theorem ahH (hg:o.guard=none) (m x:Operand) (hop:o.op=Op.lookup 206 m x false) (hm:a.eval m= .map (some B)) (h:PSet w B n f z) (p c:Nat) (hp:p<=100000) (hc:c<=100)
 (hx:a.eval x=pv p c) (b:Bool) (hb:f p c=b) (hK:wpList Tryz.prog ops Q rest (a.put o.dst (.bool b)) w):wpList Tryz.prog ops Q (o::rest) a w:=by
 refine wpList_plain hg fun K' hK'=> ?_;obtain⟨D,hown,hall,hf,hz⟩:=h;obtain⟨v,ps,hrun,hv⟩:=hown.lookup plc_law Tryz.underlying206 (aoo w) (ajv false) (ahG hp hc);obtain⟨b',rfl,hd⟩:=aqe hv;have e:b'=b:=by
  rw[<-hb,<-hf p c hp hc]
  cases hh:Maps.has D (pk p c)
  · rw[Maps.atKey_of_not_has hh]at hd;simpa using hd.symm
  · rw[hall _ hh]at hd;simpa using hd.symm
 subst e;unfold Oper.wp;simp[execOp,hop,hm,hx,hrun,Result.andThen];exact hK' _ _ hK
theorem aop (hg:o.guard=none) (m x v:Operand) (hop:o.op=Op.mapUpdate 206 m x v) (hm:a.eval m= .map (some B)) (h:PSet w B n f z) (hn:n<maxLen) (p c:Nat) (hp:p<=100000) (hc:c<=100)
 (hx:a.eval x=pv p c) (hv:a.eval v= .bool true) (hf0:f p c=false)
 (hK:∀w',PSet w' B (n+1) (fun p' c'=>f p' c' || (p'==p&&c'==c)) (z+1)->Tch (fun j=>j=B) w w'->wpList Tryz.prog ops Q rest (a.put o.dst undef) w'):wpList Tryz.prog ops Q (o::rest) a w:=by
 obtain⟨D,hown,hall,hf,hz⟩:=h;have hkl:=asF hp hc;have hno:Maps.has D (pk p c)=false:=(hf p c hp hc).trans hf0;refine wpList_mapUpdate_own w hg m x v _ hop _ _ plc_law Tryz.underlying206 _ B n D hm hown hn _ _ (pk p c) hx hv (ahG hp hc) _ _ (ajv true) (fun w' h1 h2=> ?_);have hI:=(hown.tidy plc_law).isMap;refine hK w' ⟨_,h1,fun kl hh y=> ?_,fun p' c' hp' hc'=> ?_,?_⟩ (Tch.grown h2 (fun k hk=>by injection hk with hk;exact hk.symm))
 · by_cases e:kl=pk p c
   · subst e;exact Maps.atKey_put_same hI hkl _ _
   · rw[Maps.has_put_other e]at hh;rw[Maps.atKey_put_other e];exact hall _ hh y
 · by_cases e:pk p' c'=pk p c
   · obtain⟨rfl,rfl⟩:=aq7 hp' hc' hp hc e;rw[Maps.has_put_same hI hkl];simp
   · rw[Maps.has_put_other e,hf p' c' hp' hc'];have:(p'==p&&c'==c)=false:=by
      rw[Bool.and_eq_false_iff,beq_eq_false_iff_ne,beq_eq_false_iff_ne];by_cases e1:p'=p
      · exact .inr fun e2=>e (by rw[e1,e2])
      · exact .inl e1
     show _=(f p' c' || (p'==p&&c'==c));rw[this,Bool.or_false]
 · rw[Maps.size_put (hown.tidy plc_law),hno,hz];rfl
theorem aoq (hg:o.guard=none) (m x:Operand) (hop:o.op=Op.call {callee:=Callee.builtin Builtin.delete,args:= #[m,x],argTypes:= #[206,259]}) (hm:a.eval m= .map (some B)) (h:PSet w B n f z) (p c:Nat) (hp:p<=100000) (hc:c<=100)
 (hx:a.eval x=pv p c) (hf1:f p c=true)
 (hK:∀w' z',z'+1=z->PSet w' B n (fun p' c'=>f p' c'&& !(p'==p&&c'==c)) z'->Tch (fun j=>j=B) w w'->wpList Tryz.prog ops Q rest (a.put o.dst (.tuple #[])) w'):wpList Tryz.prog ops Q (o::rest) a w:=by
 obtain⟨D,hown,hall,hf,hz⟩:=h;have hyes:Maps.has D (pk p c)=true:=(hf p c hp hc).trans hf1;refine wpList_delete_own w hg m x _ _ hop _ plc_law Tryz.underlying206 _ B n D hm hown _ (pk p c) hx (ahG hp hc) (fun w' h1 h2=> ?_);have hs:=Maps.size_del (k:=pk p c) (hown.tidy plc_law);rw[hyes,if_pos rfl,hz]at hs;refine hK w' _ hs ⟨_,h1,fun kl hh y=> ?_,fun p' c' hp' hc'=> ?_,rfl⟩ (Tch.grown h2.grown (fun k hk=>by injection hk with hk;exact hk.symm))
 · by_cases e:kl=pk p c
   · subst e;rw[Maps.has_del_same]at hh;cases hh
   · rw[Maps.has_del_other e]at hh;rw[Maps.atKey_del_other e];exact hall _ hh y
 · by_cases e:pk p' c'=pk p c
   · obtain⟨rfl,rfl⟩:=aq7 hp' hc' hp hc e;rw[Maps.has_del_same];simp
   · rw[Maps.has_del_other e,hf p' c' hp' hc'];have:(p'==p&&c'==c)=false:=by
      rw[Bool.and_eq_false_iff,beq_eq_false_iff_ne,beq_eq_false_iff_ne];by_cases e1:p'=p
      · exact .inr fun e2=>e (by rw[e1,e2])
      · exact .inl e1
     show _=(f p' c'&& !(p'==p&&c'==c));rw[this,Bool.not_false,Bool.and_true]
theorem aor (hg:o.guard=none) (m:Operand) (hop:o.op=Op.call {callee:=Callee.builtin Builtin.len,args:= #[m],argTypes:= #[206]}) (hm:a.eval m= .map (some B)) (h:PSet w B n f z)
 (hK:wpList Tryz.prog ops Q rest (a.put o.dst (.int .i64 (z:Int))) w):wpList Tryz.prog ops Q (o::rest) a w:=by
 obtain⟨D,hown,_,_,hz⟩:=h;refine wpList_len_own w hg m _ hop _ _ Tryz.underlying206 _ B n D hm hown ?_;rw[hz];exact hK
end
def asn (l:List Bk):Nat->Bool
 | 0=>false
 | j+1=> !ad4 l j
theorem ajw{l:List Bk}{j:Nat}{x:Bk}(h:l[j]?=some x):ad4 l j=x.used:=by unfold ad4;rw[h]
theorem amH (l:List Bk) (j:Nat):(List.range (j+1)).all (ad5 l)=((List.range j).all (ad5 l)&&ad5 l j):=by
 rw[List.range_succ,List.all_append];simp
theorem aos{l:List Bk}{j:Nat}(hj:j<l.length) (h:ad5 l j=false):aeX l=false:=by
 unfold aeX;rw[List.all_eq_false];exact⟨j,List.mem_range.2 hj,by rw[h];decide⟩
theorem aqf{l:List Bk}{j:Nat}{x:Bk}(h:l[j]?=some x):ad5 l j= !(asn l j&& !x.used):=by
 unfold ad5;rw[ajw h]
 cases j with
 | zero=>rfl
 | succ j=>
  simp only[asn,Nat.add_sub_cancel]
  cases x.used<;>cases ad4 l j<;>rfl
section
variable {w:World} {g base cap c:Nat} {A:Option Addr} {bs:List UInt8}
theorem abb{B:Nat}{w w':World}(h:Below B w w'){b j:Nat}{v:Value}(hc:w.cell? ⟨b,j,none⟩=some v) (hb:b<B):w'.cell? ⟨b,j,none⟩=some v:=
 (h.cell (p:=⟨b,j,none⟩) hb).trans hc
theorem aqg (w:World) (A2:Option Addr) (c2:Nat) (l:List Bk) (hr:BkRd w w.heap.size A2 l) (hc:l.length<=c2/\c2<=9223372036854775807) (y:Bool) (hy:aeX l=y):
 Calls Tryz.prog 139 #[.slice A2 l.length c2] w fun e w'=>e= .returned (.bool (!y))/\Below w.heap.size w w':=by
 have HR:=hE0 hr;have HY:=hE0 hy;clear hr hy;go_enter Tryz.func139,Tryz.ntmps139
 go_wp2
 go_loopw [3,8] (fun v t wr=>∃(j:Nat) (b:Bool),t= .int .i64 (j:Int)/\v= .bool b/\b=asn l j/\j<=l.length/\(List.range j).all (ad5 l)=true/\Below w.heap.size w wr) (fun _ t _=>l.length-(intOf t).toNat)
 case atStart=>exact⟨0,false,rfl,rfl,rfl,Nat.zero_le _,rfl,Below.refl _ _⟩
 case round=>
  obtain⟨j,b,rfl,rfl,hbw,hj,hall,hbe⟩:=hrel;by_cases hlt:j<l.length
  · obtain⟨x,hx⟩:∃x,l[j]?=some x:=⟨l[j],List.getElem?_eq_getElem hlt⟩;obtain⟨b2,o,rfl,hbb,hcl⟩:=HR.out (by omega);obtain⟨p0,p1,p2⟩:=hcl j x hx;have hp:=aqf hx;have hs:=amH l j;rw[hall,Bool.true_and]at hs;have hu:=ajw hx;have r0:=abb hbe p0 hbb;have r1:=abb hbe p1 hbb;have r2:=abb hbe p2 hbb;obtain⟨xo,xs,xu⟩:=x;dsimp only at p0 p1 p2 r0 r1 r2 hp hu;rw[<-hbw]at hp;obtain⟨w4,hw4⟩:=nmE (wr.alloc (.cells #[.int .i64 (xo:Int), .int .i64 (xs:Int), .bool xu] 132));have hb4:Below w.heap.size w w4:=by rw[<-hw4];exact hbe.alloc hbe.size _
    have n4:=anE hw4;obtain⟨⟨d0,d1,d2⟩,_⟩:=aar n4;have HW4:=hE0 hw4;have HB4:=hE0 hb4;have HP:=hE0 hp;have HS:=hE0 hs;have HU:=hE0 hu;clear hp hs hu hx hbe p0 p1 p2 hb4 n4 hw4 hcl hall hbw
    cases b<;>cases xu
    · go_wp2_with (first | (rw[HW4.out]) | fail)
      go_roundw
      case rel=>exact⟨j+1,true,by go_num,rfl,by simp[asn,HU.out],by omega,by rw[HS.out,HP.out];rfl,HB4.out⟩
      case measure=>simp only[intOf];omega
    · go_wp2_with (first | (rw[HW4.out]) | fail)
      go_roundw
      case rel=>exact⟨j+1,false,by go_num,rfl,by simp[asn,HU.out],by omega,by rw[HS.out,HP.out];rfl,HB4.out⟩
      case measure=>simp only[intOf];omega
    · obtain rfl:y=false:=by rw[<-HY.out];exact aos hlt HP.out
      go_wp2_with (first | (rw[HW4.out]) | fail)
      go_ret
      exact⟨rfl,HB4.out⟩
    · go_wp2_with (first | (rw[HW4.out]) | fail)
      go_roundw
      case rel=>exact⟨j+1,false,by go_num,rfl,by simp[asn,HU.out],by omega,by rw[HS.out,HP.out];rfl,HB4.out⟩
      case measure=>simp only[intOf];omega
  · obtain rfl:y=true:=by
     rw[<-HY.out];unfold aeX;rw[show l.length=j by omega];exact hall
    have HB:=hE0 hbe;clear hbe hall hbw;go_wp2
    go_ret
    exact⟨rfl,HB.out⟩
theorem aot (h:Ar w 160 g base cap A c bs) (hb:base<=4611686018427387904) (hl:bs.length<=16384) (h184:184<=bs.length) (y:Bool) (hy:decide (aai bs 0<4194304)=y):
 Calls Tryz.prog 140 #[.pointer (some ⟨g,0,none⟩)] w fun e w'=>e= .returned (.bool (!y))/\w=w':=by
 obtain⟨v,hv⟩:=nmE (aai bs 0);have hvl:v<18446744073709551616:=by rw[<-hv];exact abd _ _
 have hW:=ac5 h hb hl 0 (by omega) (some v) (by unfold word?;rw[if_pos (by omega)];simp[hv]);have e0:adr base 0=base:=by unfold adr;omega
 rw[e0]at hW;dsimp only[wdV]at hW;rw[hv]at hy;have HBS:=hE0 (ac7 h);have HW:=hE0 hW;have HY:=hE0 hy;clear hW hy hv h;go_enter Tryz.func140,Tryz.ntmps140
 go_wp2_with fail
 with_reducible refine HBS.out.mono ?_
 rintro e w1 ⟨rfl,rfl⟩;go_wp2_with fail
 with_reducible refine HW.out.mono ?_
 rintro e w1 ⟨rfl,rfl⟩;go_wp2
 go_ret
 exact⟨apu (by rw[<-HY.out,Bool.eq_iff_iff];simp;omega),rfl⟩
end
def acf (l:List Bk) (o k:Nat):Bool:=l.any fun x=>x.off==o&& !x.used&&aaw (x.size:Int)==(k:Int)
theorem ahI:∀(l:List Bk) (o e:Nat),ach o l e->l.Pairwise (fun a b=>a.off<b.off)
 | [],_,_,_=>List.Pairwise.nil
 | x::r,o,e,⟨a,b,c⟩=>by
  have q:=(aae _).1 b;refine List.pairwise_cons.2 ⟨fun y hy=> ?_,ahI r _ _ c⟩;have:=((aau r _ _ c).2 y hy).1;omega
theorem akD{l:List Bk}{j:Nat}{x:Bk}(h:l[j]?=some x) (o k:Nat):acf (l.take (j+1)) o k=(acf (l.take j) o k || (x.off==o&& !x.used&&aaw (x.size:Int)==(k:Int))):=apC h
theorem amI{l:List Bk}{j:Nat}{x:Bk}(hp:l.Pairwise (fun a b=>a.off<b.off)) (h:l[j]?=some x) (k:Nat):acf (l.take j) x.off k=false:=by
 unfold acf;rw[List.any_eq_false];intro y hy hc;obtain⟨i,hi,e⟩:=List.getElem_of_mem hy;rw[List.length_take]at hi;rw[List.getElem_take]at e;obtain⟨hj,e2⟩:=List.getElem?_eq_some_iff.1 h;have:=List.pairwise_iff_getElem.1 hp i j (by omega) hj (by omega);rw[e,e2]at this;simp at hc;omega
theorem aqh{l:List Bk}{j:Nat}{x:Bk}(h:l[j]?=some x):abq (l.take (j+1))=abq (l.take j)+if x.used=true then 0 else 1:=by
 unfold abq;rw[akf h]
 cases x.used<;>rfl
theorem akE (w:World) (A2:Option Addr) (c2:Nat) (l:List Bk) (hr:BkRd w w.heap.size A2 l) (hl:l.length<=100000) (hp:l.Pairwise (fun a b=>a.off<b.off))
 (hg:∀x∈l,aa3 (x.size:Int)=true/\x.off<=100000):
 Calls Tryz.prog 142 #[.slice A2 l.length c2] w fun e w'=>e= .returned (.map (some w.heap.size))/\PSet w' w.heap.size l.length (acf l) (abq l)/\Below w.heap.size w w':=by
 have HR:=hE0 hr;have HG:=hE0 hg;have HP:=hE0 hp;have hmm:= @run_makeMap Tryz.prog;obtain⟨B0,hB0⟩:=nmE w.heap.size;have HB0:=hE0 hB0;have hP0:=PSet.made w;rw[hB0]at hP0;obtain⟨w1,hw1⟩:=nmE (w.alloc (.map #[] 0));have hb1:=abE hw1;rw[hw1]at hP0;have HW1:=hE0 hw1;have HB1:=hE0 hb1;have HP0:=hE0 hP0;clear hr hg hp hP0 hw1 hb1;go_enter Tryz.func142,Tryz.ntmps142
 go_wp2_with (first | (rw[HW1.out]) | fail)
 clear hmm hB0;go_loopw [9] (fun t wr=>∃j:Nat,t= .int .i64 (j:Int)/\j<=l.length/\PSet wr B0 j (acf (l.take j)) (abq (l.take j))/\Below B0 w wr) (fun t _=>l.length-(intOf t).toNat)
 case atStart=>exact⟨0,rfl,Nat.zero_le _,HP0.out,by rw[<-HB0.out];exact HB1.out⟩
 case round=>
  obtain⟨j,rfl,hj,hps,hbe⟩:=hrel;by_cases hlt:j<l.length
  · obtain⟨x,hx⟩:∃x,l[j]?=some x:=⟨l[j],List.getElem?_eq_getElem hlt⟩;obtain⟨b2,o,rfl,hbb,hcl⟩:=HR.out (by omega);rw[HB0.out]at hbb;obtain⟨p0,p1,p2⟩:=hcl j x hx;have ht:=akD hx;have hn:=amI HP.out hx;have hct:=aqh hx;obtain⟨hsz,hoff⟩:=HG.out x (List.mem_of_getElem? hx);obtain⟨k,hk,hk22⟩:=acb hsz;have hq:=(aae _).1 hsz;have r0:=abb hbe p0 hbb;have r1:=abb hbe p1 hbb;have r2:=abb hbe p2 hbb;obtain⟨xo,xs,xu⟩:=x;dsimp only at p0 p1 p2 r0 r1 r2 ht hn hct hoff hk hq;have hBr:=hps.lt;obtain⟨w4,hw4⟩:=nmE (wr.alloc (.cells #[.int .i64 (xo:Int), .int .i64 (xs:Int), .bool xu] 132));have hb4:=abE hw4;have n4:=anE hw4;obtain⟨⟨d0,d1,d2⟩,_⟩:=aar n4;have hlt4:=aan n4;have ps4:=hps.below hb4 hBr;have HW4:=hE0 hw4;have HB4:=hE0 (hbe.trans (hb4.mono (by omega)))
    cases xu with
    | true=>
     have hP:PSet w4 B0 (j+1) (acf (l.take (j+1))) (abq (l.take (j+1))):=by
      rw[hct];exact(ps4.mono (Nat.le_succ j)).same fun o k _ _=>by rw[ht];simp
     have HPN:=hE0 hP;clear hx hbe hps p0 p1 p2 hb4 n4 hw4 hcl hk hsz ht hn hct ps4 hP;go_wp2_with (first | (rw[HW4.out]) | fail)
     go_roundw
     case rel=>exact⟨j+1,by go_num,by omega,HPN.out,HB4.out⟩
     case measure=>simp only[intOf];omega
    | false=>
     have hC:=fun W=>alh W (xs:Int) (by omega);rw[hk]at hC;have HC:=hE0 (hC w4.drew);have HPS:=hE0 (⟨ps4,hlt4⟩:PSet w4 B0 j (acf (l.take j)) (abq (l.take j))/\wr.heap.size<w4.heap.size);have hP:∀W,PSet W B0 (j+1) (fun p' c'=>acf (l.take j) p' c' || (p'==xo&&c'==k)) (abq (l.take j)+1)->PSet W B0 (j+1) (acf (l.take (j+1))) (abq (l.take (j+1))):=fun W h=>by
      rw[hct];refine h.same fun o k' _ _=> ?_;rw[ht,hk];congr 1;rw[Bool.eq_iff_iff];simp;omega
     have HPN:=hE0 hP;have HN:=hE0 (hn k);clear hx hbe hps p0 p1 p2 hb4 n4 hw4 hcl hk hsz ht hn hct ps4 hP hC;go_wp2_with (first | (rw[HW4.out]) | fail)
     refine aad w4.heap.size [([0,1,2,3,4],5)] [6] [7] (by kernel_rfl) (by kernel_rfl) (by kernel_rfl) (fun _ _ _ _ _ h=>h) ?_;have q0:∀z:LaterB w4.heap.size w4.drew,z.val.cell? ⟨wr.heap.size,0,none⟩=some (.int .i64 (xo:Int)):=fun z=>abb z.ext d0 hlt4;have q1:∀z:LaterB w4.heap.size w4.drew,z.val.cell? ⟨wr.heap.size,1,none⟩=some (.int .i64 (xs:Int)):=fun z=>abb z.ext d1 hlt4;refine tail_cons (l:= ?seg1) ?hseg1 ?_
     case hseg1=>simp only[pick,lE1,lE2,lE3];rfl
     repeat (go_big_quiet_step (fail))
     refine wpQuiet_nil ?_;clear q0 q1;refine aaf (vs:= #[.int .i64 (xs:Int)]) Tryz.call196 rfl rfl rfl (R:=fun r w'=>r= .int .i64 (k:Int)/\Below w4.heap.size w4.drew w') (HC.out.mono ?_) w4.heap.size (Nat.le_refl _) ?_
     · rintro e w' ⟨rfl,hb⟩;exact⟨_,rfl,hb,rfl,hb⟩
     rintro r w5 _ ⟨rfl,hb5⟩;have hb6:Below w4.heap.size w4 w5:=⟨hb5.os,hb5.tape,hb5.output,hb5.size,hb5.block⟩;have hs6:w4.heap.size<=w5.heap.size:=hb6.size;have hps5:=HPS.out.1.below hb6 (by omega);refine aam (l:= ?la1) (t:= ?tl1) ?hla1 ?htl1 ?_
     case hla1=>simp only[pick,lE1,lE2,lE3];rfl
     case htl1=>simp only[pick,lE1,lE2,lE3];rfl
     simp only[Act.put,lE4,lE5,lE6];repeat (go_big_quiet_step (fail))
     refine wpQuiet_nil ?_;refine aop rfl _ _ _ rfl rfl hps5 (by unfold maxLen;omega) xo k (by omega) (by omega) rfl rfl HN.out ?_;intro w6 hp6 ht6;have HP6:=hE0 (HPN.out w6 hp6);have HB6:=hE0 ((HB4.out.trans (hb6.mono (by omega))).trans (ht6.below (B:=B0) (fun q hq=>by omega) (by omega)));clear hp6 ht6 hps5 hb5 hb6 hs6;go_wp2
     go_roundw
     case rel=>exact⟨j+1,by go_num,by omega,HP6.out,HB6.out⟩
     case measure=>simp only[intOf];omega
  · have e:l.take j=l:=List.take_of_length_le (by omega);rw[e]at hps;have HPS:=hE0 (hps.mono (n':=l.length) (by omega));have HB:=hE0 hbe;clear hbe hps e;go_wp2
    go_ret
    exact⟨by rw[HB0.out];rfl,by rw[HB0.out];exact HPS.out,by rw[HB0.out];exact HB.out⟩
theorem asG{l:List Bk}{all:List Nat}{j o:Nat}(ho:all[j]?=some o) (h:(acX l o&& !(all.take j).contains o)=false):all.all (okO l all)=false:=by
 rw[List.all_eq_false];refine⟨o,List.mem_of_getElem? ho,?_⟩;unfold okO
 cases hf:acX l o
 · simp
 · rw[hf,Bool.true_and,Bool.not_eq_false',List.contains_iff_mem]at h;obtain⟨hj,e⟩:=List.getElem?_eq_some_iff.1 ho;have h1:0<(all.take j).count o:=List.count_pos_iff.2 h;have h2:0<(all.drop j).count o:=List.count_pos_iff.2 (by rw[List.drop_eq_getElem_cons hj,e];exact List.mem_cons_self);have h3:all.count o=(all.take j).count o+(all.drop j).count o:=by
    rw[<-List.count_append,List.take_append_drop]
   have:(all.count o==1)=false:=by rw[beq_eq_false_iff_ne];omega
   rw[this];simp
theorem arZ{l:List Bk}{all:List Nat}(hn:all.Nodup) (h:∀o∈all,acX l o=true):all.all (okO l all)=true:=by
 rw[List.all_eq_true];intro o ho;unfold okO;have h1:0<all.count o:=List.count_pos_iff.2 ho;have h2:=List.nodup_iff_count.1 hn o;rw[h o ho,show all.count o=1 by omega];rfl
theorem aiw{all:List Nat}{j o:Nat}(ho:all[j]?=some o):all.take (j+1)=all.take j++ [o]:=by
 rw[List.take_add_one,ho];rfl
theorem aou{all:List Nat}{j o:Nat}(ho:all[j]?=some o) (hn:(all.take j).Nodup) (h:(all.take j).contains o=false):(all.take (j+1)).Nodup:=by
 rw[aiw ho,List.nodup_append];refine⟨hn,by simp,fun a ha b hb e=> ?_⟩;obtain rfl:b=o:=by simpa using hb
 subst e;rw[List.contains_iff_mem.2 ha]at h
 cases h
theorem aix{bs:List UInt8}{l:List Bk}(hg:∀x∈l,abV bs (x.off:Int)=some x){o k:Nat}(h:aaz bs o (k:Int)=true):acf l o k=acX l o:=by
 unfold acf acX;rw[Bool.eq_iff_iff,List.any_eq_true,List.any_eq_true];unfold aaz at h;refine exists_congr fun x=>and_congr_right fun hx=> ?_;have h1:=hg x hx;by_cases e:x.off=o
 · rw[<-e,h1]at h;dsimp only at h;rw[Bool.and_eq_true,Bool.and_eq_true]at h;rw[h.2.1,h.2.2];simp
 · have:(x.off==o)=false:=by rw[beq_eq_false_iff_ne];exact e
   rw[this];simp
theorem BkRd.later{w w':World}{B B':Nat}{A:Option Addr}{l:List Bk}(h:BkRd w B A l) (hb:Below B w w') (hB:B<=B'):BkRd w' B' A l:=fun h0=>by
 obtain⟨b,o,e,hbb,hc⟩:=h h0;refine⟨b,o,e,by omega,fun j x hx=> ?_⟩;obtain⟨p0,p1,p2⟩:=hc j x hx;exact⟨abb hb p0 hbb,abb hb p1 hbb,abb hb p2 hbb⟩
theorem aov{S:Nat->Prop}{w w':World}(h:Tch S w w'){b j:Nat}{v:Value}(hc:w.cell? ⟨b,j,none⟩=some v) (hb:b<w.heap.size) (hn:¬S b):w'.cell? ⟨b,j,none⟩=some v:=
 (World.cell?_of_block (w:=w) (a:=⟨b,j,none⟩) (h.block b hb hn)).trans hc
def akF (f:Nat->Nat->Bool) (d:Nat) (m:List Nat):Nat->Nat->Bool:=fun o k=>f o k&& !(k==d&&m.contains o)
theorem amJ (w0 w:World) (g base cap c:Nat) (A:Option Addr) (bs:List UInt8) (h:Ar w0 160 g base cap A c bs) (hb:base<=4611686018427387904) (hl:bs.length<=16384) (hw:Below w0.heap.size w0 w)
 (B n z:Nat) (f:Nat->Nat->Bool) (hps:PSet w B n f z) (hB:w0.heap.size<=B) (l:List Bk) (hf:∀k:Nat,k<22->∀o,aaz bs o (k:Int)=true->f o k=acX l o) (y:Bool) (hy:aiN bs l 22 0 (z:Int)=y):
 Calls Tryz.prog 141 #[.pointer (some ⟨g,0,none⟩), .map (some B)] w fun e w'=>e= .returned (.bool y)/\Below w0.heap.size w0 w':=by
 have HAR:=hE0 h;have HBASE:=hE0 hb;have HW:=hE0 hw;have HPS:=hE0 hps;have HF:=hE0 hf;have HY:=hE0 hy;clear h hb hw hps hf hy;go_enter Tryz.func141,Tryz.ntmps141
 go_wp2
 go_loopw [11] (fun t wr=>∃(d k z:Nat) (f:Nat->Nat->Bool),t= .int .i64 (d:Int)/\d+k=22/\y=aiN bs l k d (z:Int)/\PSet wr B n f z/\(∀k':Nat,d<=k'->k'<22->∀o,aaz bs o (k':Int)=true->f o k'=acX l o)/\Below w0.heap.size w0 wr) (fun t _=>22-(intOf t).toNat)
 case atStart=>exact⟨0,22,z,f,rfl,rfl,HY.out.symm,HPS.out,fun k' _ h=>HF.out k' h,HW.out⟩
 case round=>
  clear HPS HF HY HW;obtain⟨d,k,z,f,rfl,hdk,hyk,hps,hfm,hbe⟩:=hrel;generalize wr=wq at*;by_cases hd22:d<22
  · obtain⟨k,rfl⟩:∃k',k=k'+1:=⟨k-1,by omega⟩;have har:Ar wq 160 g base cap A c bs:=HAR.out.below hbe;have hBq:=hps.lt
    cases ha:afL bs d with
    | none=>
     obtain rfl:y=false:=by rw[hyk];simp[aiN,ha]
     have hA:=asC wq g base cap c A bs d _ har HBASE.out hl hd22 ha;dsimp only[afa,Option.isSome,Option.getD,abm]at hA;have HA:=hE0 hA;have HB:=hE0 hbe;clear hA hbe hyk har ha HAR hps hfm;go_wp2_with fail
     with_reducible refine HA.out.mono ?_
     rintro e w2 ⟨A',c',rfl,_,hb3⟩;have HB2:=hE0 (HB.out.trans (hb3.mono (by omega)));clear hb3;go_wp2
     go_ret
     exact⟨rfl,HB2.out⟩
    | some all=>
     have hA:=asC wq g base cap c A bs d _ har HBASE.out hl hd22 ha;dsimp only[afa,Option.isSome,Option.getD,abm]at hA;have hyk':y=(all.all (okO l all)&&aiN bs l k (d+1) ((z:Int)-all.length)):=by
      rw[hyk];conv=>lhs;unfold aiN
      rw[ha]<;>rfl
     have hmem:∀o∈all,aaz bs o (d:Int)=true/\o<=20000:=fun o ho=>⟨acY ha o ho,(aeF (acY ha o ho)).1⟩;have hal:=ak8 ha;have HA:=hE0 hA;have HB:=hE0 hbe;have HYK:=hE0 hyk';have HMEM:=hE0 hmem;have HPS:=hE0 hps;have HFM:=hE0 hfm;clear hA hbe hyk hyk' har ha hps hfm hmem;go_wp2_with fail
     with_reducible refine HA.out.mono ?_
     rintro e w2 ⟨A2,c2,rfl,ho2,hb3⟩;have HO2:=hE0 ho2;have HB2:=hE0 (HB.out.trans (hb3.mono (by omega)));have HPS2:=hE0 (HPS.out.below hb3 hBq);have hs2:=hb3.size;clear hb3 ho2 HA HB HPS;go_wp2
     go_loopw [24] (fun t wi=>∃j z':Nat,t= .int .i64 (j:Int)/\j<=all.length/\z'+j=z/\(all.take j).Nodup/\(∀o∈all.take j,acX l o=true)/\PSet wi B n (akF f d (all.take j)) z'/\Tch (fun q=>q=B) w2 wi) (fun t _=>all.length-(intOf t).toNat)
     case atStart=>exact⟨0,z,rfl,Nat.zero_le _,by omega,by simp,by simp,HPS2.out.same (fun o k _ _=>by simp[akF]),Tch.refl _ _⟩
     case round=>
      clear HPS2;obtain⟨j,z',rfl,hj,hz,hnd,hfd,hps,htc⟩:=hrel;by_cases hlt:j<all.length
      · obtain⟨o,ho⟩:∃o,all[j]?=some o:=⟨all[j],List.getElem?_eq_getElem hlt⟩;obtain⟨hmo,ho2⟩:=HMEM.out o (List.mem_of_getElem? ho);obtain⟨b2,o2,rfl,hbb,hcl⟩:=aib HO2.out rfl (by simp[apB];omega);have hbB:wq.heap.size<=b2:=(HO2.out.lt b2 rfl).1;have p0:=hcl j (o:Int) (by simp[apB,ho]);have r0:=aov htc p0 hbb (by omega);have hff:=HFM.out d (Nat.le_refl _) hd22 o hmo;obtain⟨bb,hbbv⟩:=nmE ((acX l o&& !(all.take j).contains o));have hlook:akF f d (all.take j) o d=bb:=by
         unfold akF;rw[hff,<-hbbv];simp
        have hBi:=hps.lt;obtain⟨w4,hw4⟩:=nmE (wr.alloc (.cells #[.int .i64 (o:Int), .int .i64 (d:Int)] 259));have hb4:=abE hw4;have n4:=anE hw4;have d0:=cell_of_row w4 wr.heap.size 0 _ _ (0,0) n4;have d1:=cell_of_row w4 wr.heap.size 1 _ _ (0,0) n4;simp only[List.getElem?_toArray,List.getElem?_cons_zero,List.getElem?_cons_succ]at d0 d1;have HW4:=hE0 hw4;have HP4:=hE0 (hps.below hb4 hBi);have HT4:=hE0 (htc.trans (S':=fun q=>q=B) (Tch.of_below hb4) (fun _ _ h=>h));have HLK:=hE0 hlook;have HBBV:=hE0 hbbv;have HND:=hE0 hnd;have HFD:=hE0 hfd;have HO:=hE0 ho;clear ho hmo hcl p0 hff hlook hbbv hps htc hb4 n4 hw4 hnd hfd HAR HO2 HMEM HFM
        cases bb with
        | false=>
         obtain rfl:y=false:=by rw[HYK.out,asG HO.out HBBV.out];rfl
         have HE:=hE0 (HB2.out.trans (HT4.out.below (B:=w0.heap.size) (fun q hq=>by omega) (by omega)));clear HB2 HT4 HYK;go_wp2_with (first | (rw[HW4.out]) | (at_lookup;refine ahH rfl _ _ rfl rfl HP4.out o d (by omega) (by omega) rfl false HLK.out ?_) | fail)
         go_ret
         exact⟨rfl,HE.out⟩
        | true=>
         go_wp2_with (first | (rw[HW4.out]) | (at_lookup;refine ahH rfl _ _ rfl rfl HP4.out o d (by omega) (by omega) rfl true HLK.out ?_) | (at_delete;refine aoq rfl _ _ rfl rfl HP4.out o d (by omega) (by omega) rfl HLK.out ?_;intro w5 z5 hz5 hp5 ht5;have HP5:=hE0 hp5;have HT5:=hE0 (HT4.out.trans ht5 (fun _ _ h=>h));have HZ5:=hE0 hz5;clear hp5 ht5 hz5) | fail)
         go_roundw
         case rel=>
          have hno:(all.take j).contains o=false:=by
           have:=HBBV.out;rw[Bool.and_eq_true,Bool.not_eq_true']at this;exact this.2
          have hyes:acX l o=true:=by
           have:=HBBV.out;rw[Bool.and_eq_true]at this;exact this.1
          refine⟨j+1,z5,by go_num,by omega,by have:=HZ5.out;omega,aou HO.out HND.out hno,fun q hq=> ?_,?_,HT5.out⟩
          · rw[aiw HO.out,List.mem_append]at hq;rcases hq with hq | hq
            · exact HFD.out q hq
            · obtain rfl:q=o:=by simpa using hq
              exact hyes
          · refine HP5.out.same fun q k' _ _=> ?_;unfold akF;rw[aiw HO.out,Bool.and_assoc];congr 1;rw[Bool.eq_iff_iff];simp;by_cases e1:k'=d<;>by_cases e2:q=o<;>simp[e1,e2]
         case measure=>simp only[intOf];omega
      · have ejl:j=all.length:=by omega
        have et:all.take j=all:=List.take_of_length_le (by omega);rw[et]at hnd hfd hps;have hyn:y=aiN bs l k (d+1) (z':Int):=by
         rw[HYK.out,arZ hnd hfd,Bool.true_and];congr 1;omega
        have HYN:=hE0 hyn;have HP:=hE0 hps;have HE:=hE0 (HB2.out.trans (htc.below (B:=w0.heap.size) (fun q hq=>by omega) (by omega)));clear hyn hps htc hnd hfd et ejl HYK HB2 HO2;go_wp2
        go_roundw
        case rel=>
         refine⟨d+1,k,z',akF f d all,by go_num,by omega,HYN.out,HP.out,fun k' h1 h2 q hq=> ?_,HE.out⟩;have:(k'==d)=false:=by rw[beq_eq_false_iff_ne];omega
         unfold akF;rw[this,Bool.false_and,Bool.not_false,Bool.and_true];exact HFM.out k' (by omega) h2 q hq
        case measure=>simp only[intOf];omega
  · obtain⟨rfl,rfl⟩:d=22/\k=0:=by omega
    have hyz:y=((z:Int)==0):=hyk;have HYZ:=hE0 hyz;have HPS:=hE0 hps;have HB:=hE0 hbe;clear hyz hyk hps hbe hfm HAR;go_wp2_with (first | (at_len;refine aor rfl _ rfl rfl HPS.out ?_) | fail)
    go_ret
    exact⟨apu HYZ.out.symm,HB.out⟩
theorem aow:aq6:=by
 intro w g base cap c A bs x h hb hl hx
 cases hw:abJ bs with
 | none=>
  obtain rfl:false=x:=by rw[<-hx];unfold aci;rw[hw]
  have hW:=akz w g base cap c A bs _ h hb hl hw;dsimp only[adP,Option.isSome,Option.getD,abm]at hW;dsimp only[abm];have HW:=hE0 hW;clear hW hw hx h hb;go_enter Tryz.func84,Tryz.ntmps84
  go_wp2_with fail
  with_reducible refine HW.out.mono ?_
  rintro e w2 ⟨A',c',rfl,_,hb2⟩;have HB2:=hE0 hb2;clear hb2;go_wp2
  go_ret
  exact⟨rfl,HB2.out⟩
 | some l=>
  obtain⟨h184,ht,hg⟩:=aaC hw;have hm:=aau l _ _ ht;obtain⟨y1,hy1⟩:∃y,aeX l=y:=⟨_,rfl⟩;obtain⟨y2,hy2⟩:∃y,decide (aai bs 0<4194304)=y:=⟨_,rfl⟩;obtain⟨y3,hy3⟩:∃y,aiN bs l 22 0 (abq l)=y:=⟨_,rfl⟩;have e0:apa bs 0=aai bs 0:=by unfold apa word?;rw[if_pos (by omega)];rfl
  have hx':(y2&&(y1&&y3))=x:=by
   rw[<-hx];unfold aci;rw[hw];dsimp only;rw[e0,hy1,hy2,hy3]
  have hll:=ai8 hw;have hW:=akz w g base cap c A bs _ h hb hl hw;dsimp only[adP,Option.isSome,Option.getD,abm]at hW;have HW:=hE0 hW;have HAR:=hE0 h;have HBASE:=hE0 hb;have HG:Hid (∀x∈l,aa3 (x.size:Int)=true/\x.off<=100000):=fun x hx=>⟨(hm.2 x hx).2.2.1,by have:=(hm.2 x hx).2.1;omega⟩;have HPM:Hid (∀k:Nat,k<22->∀o,aaz bs o (k:Int)=true->acf l o k=acX l o):=fun k _ o ho=>aix hg ho;have HR:=hE0 (ahI l _ _ ht);have HY1:=hE0 hy1;have HY2:=hE0 hy2;have HY3:=hE0 hy3;clear hW hw hx h hb ht hg hm hy1 hy2 hy3 e0;go_enter Tryz.func84,Tryz.ntmps84
  go_wp2_with fail
  with_reducible refine HW.out.mono ?_
  rintro e w2 ⟨A2,c2,rfl,ho2,hb2⟩;have hcl:l.length<=c2/\c2<=9223372036854775807:=by
   rcases ho2.2 with⟨h',h0⟩ | ⟨_,_,_,h',_,_,h1,h2,_⟩
   · injection h' with _ _ e;rw[h0,e];omega
   · injection h' with _ _ e;unfold maxLen at h2;omega
  have hr2:=BkRd.of_own ho2;have HR2:=hE0 hr2;have HB2:=hE0 hb2;have HADJ:=hE0 (aqg w2 A2 c2 l hr2 hcl y1 HY1.out);have hs2:=hb2.size;clear ho2 hr2 hb2 HW;go_wp2_with fail
  with_reducible refine HADJ.out.mono ?_
  rintro e w3 ⟨rfl,hb3⟩;have hr3:=HR2.out.later hb3 hb3.size;have HB3:=hE0 (HB2.out.trans (hb3.mono hs2));have hs3:=hb3.size;clear hb3 HR2 HB2 HADJ
  cases y1 with
  | false=>
   obtain rfl:false=x:=by rw[<-hx'];simp
   clear HAR HG HPM hr3 hx';dsimp only[abm];go_wp2
   go_ret
   exact⟨rfl,HB3.out⟩
  | true=>
   have HBT:=hE0 (aot (HAR.out.below HB3.out) HBASE.out hl h184 y2 HY2.out);have HPL:=hE0 (akE w3 A2 c2 l hr3 (by omega) HR.out HG.out);clear hr3;go_wp2_with fail
   with_reducible refine HBT.out.mono ?_
   rintro e w4 ⟨rfl,rfl⟩
   cases y2 with
   | false=>
    obtain rfl:false=x:=by rw[<-hx'];simp
    clear HAR HG HPM hx' HBT HPL;dsimp only[abm];go_wp2
    go_ret
    exact⟨rfl,HB3.out⟩
   | true=>
    obtain rfl:y3=x:=by rw[<-hx'];simp
    go_wp2_with fail
    with_reducible refine HPL.out.mono ?_
    rintro e w4 ⟨rfl,hps4,hb4⟩;have HLS:=hE0 (amJ w w4 g base cap c A bs HAR.out HBASE.out hl (HB3.out.trans (hb4.mono (by omega))) w3.heap.size l.length (abq l) (acf l) hps4 (by omega) l HPM.out y3 HY3.out);clear HAR HG HPM hx' HBT HPL hps4 hb4;go_wp2_with fail
    with_reducible refine HLS.out.mono ?_
    rintro e w5 ⟨rfl,hb5⟩;have HB5:=hE0 hb5;clear hb5 HLS
    cases y3 with
    | false=>
     dsimp only[abm];go_wp2
     go_ret
     exact⟨rfl,HB5.out⟩
    | true=>
     dsimp only[abm];go_wp2
     go_ret
     exact⟨rfl,HB5.out⟩
structure Hm (F:Nat->Prop) (w:World) (p:Nat) (H:Hp) (Vb Vd:Value) (gl:Nat) (cs:List Value):Prop where
 obj:w.heap[p]?=some (.cells #[.int .i64 (H.cap:Int),Vb,Vd, .slice (some ⟨gl,0,none⟩) 22 22] 96 (0,0))
 ob:w.ownsRow 0 132 3 Vb H.blks.length (aaD H.blks)
 od:w.ownsRow 0 37 1 Vd H.ds.length (H.ds.map Prod.fst)
 row:w.heap[gl]?=some (.cells cs.toArray 23 (0,0))
 len:cs.length=22
 at_:∀d,d<22->∃v,cs[d]?=some v/\w.ownsRow 0 3 1 v (H.lists d).length ((H.lists d).map iV)
 fp:F p
 fl:F gl
 fb:∀k,Vb.ownBlock=some k->F k
 fd:∀k,Vd.ownBlock=some k->F k
 fi:∀d v k,d<22->cs[d]?=some v->v.ownBlock=some k->F k
 sl:∀d∈H.ds,∃A n c,d.1= .slice A n c
def HM (F:Nat->Prop) (w:World) (p:Nat) (H:Hp):Prop:=∃Vb Vd gl cs,Hm F w p H Vb Vd gl cs
def HT (F:Nat->Prop) (w:World) (p:Nat) (H':Hp) (w':World):Prop:=∃F',HM F' w' p H'/\Tch F w w'/\∀k,F' k->F k\/w.heap.size<=k
theorem aaP{w w':World}{base n size:Nat}{t:TypeId}{v:Value}{xs:List Value}(h:w.ownsRow base t size v n xs) (hk:∀k,v.ownBlock=some k->w'.heap[k]?=w.heap[k]?):w'.ownsRow base t size v n xs:=by
 refine⟨h.1,?_⟩;rcases h.2 with h2 | ⟨g,cap,cur,hv,hg,hh,r⟩
 · exact .inl h2
 · exact .inr ⟨g,cap,cur,hv,hg,(hk g (by rw[hv];rfl)).trans hh,r⟩
theorem acg{w:World}{base base' n size:Nat}{t:TypeId}{v:Value}{xs:List Value}(h:w.ownsRow base t size v n xs) (hb:base'<=base):w.ownsRow base' t size v n xs:=by
 refine⟨h.1,?_⟩;rcases h.2 with h2 | ⟨g,cap,cur,hv,hg,r⟩
 · exact .inl h2
 · exact .inr ⟨g,cap,cur,hv,Nat.le_trans hb hg,r⟩
theorem ab5{w:World}{base n size:Nat}{t t':TypeId}{v:Value}{xs:List Value}{g:Nat}{o:Array Value}(h:w.ownsRow base t size v n xs) (hg:w.heap[g]?=some (.cells o t' (0,0))) (ht:t≠t'):∀k,v.ownBlock=some k->k≠g:=fun k hk e=>by
 subst e;rcases h.2 with⟨rfl,_⟩ | ⟨g,cap,cur,rfl,_,hh,_⟩
 · cases hk
 · injection hk with hk;have hk:g=k:=hk;subst hk;rw[hh]at hg;injection hg with hg;injection hg with _ hg _;exact ht hg
theorem aek{w:World}{base n size:Nat}{t:TypeId}{v:Value}{xs:List Value}(h:w.ownsRow base t size v n xs){k:Nat}(hk:v.ownBlock=some k):k<w.heap.size:=(h.lt k hk).2
section
variable {F F':Nat->Prop} {w w' w2:World} {p gl:Nat} {H H':Hp} {Vb Vd:Value} {cs:List Value}
theorem Hm.lt (h:Hm F w p H Vb Vd gl cs):p<w.heap.size:=aan h.obj
theorem Hm.c0 (h:Hm F w p H Vb Vd gl cs):w.cell? ⟨p,0,none⟩=some (.int .i64 (H.cap:Int)):=by rw[cell_of_row w p 0 _ _ (0,0) h.obj];rfl
theorem Hm.c1 (h:Hm F w p H Vb Vd gl cs):w.cell? ⟨p,1,none⟩=some Vb:=by rw[cell_of_row w p 1 _ _ (0,0) h.obj];rfl
theorem Hm.c2 (h:Hm F w p H Vb Vd gl cs):w.cell? ⟨p,2,none⟩=some Vd:=by rw[cell_of_row w p 2 _ _ (0,0) h.obj];rfl
theorem Hm.c3 (h:Hm F w p H Vb Vd gl cs):w.cell? ⟨p,3,none⟩=some (.slice (some ⟨gl,0,none⟩) 22 22):=by rw[cell_of_row w p 3 _ _ (0,0) h.obj];rfl
theorem Hm.thaw (h:Hm F w p H Vb Vd gl cs) (i:Nat):w.frozen? ⟨p,i,none⟩=false:=frozen_of_row w p i _ _ h.obj
theorem Hm.keep (h:Hm F w p H Vb Vd gl cs) (hk:∀k,F k->w'.heap[k]?=w.heap[k]?):Hm F w' p H Vb Vd gl cs:=
 ⟨(hk p h.fp).trans h.obj,aaP h.ob (fun k e=>hk k (h.fb k e)),aaP h.od (fun k e=>hk k (h.fd k e)),(hk gl h.fl).trans h.row,h.len,
  fun d hd=>by obtain⟨v,h1,h2⟩:=h.at_ d hd;exact⟨v,h1,aaP h2 (fun k e=>hk k (h.fi d v k hd h1 e))⟩,h.fp,h.fl,h.fb,h.fd,h.fi,h.sl⟩
def atm (p gl:Nat) (Vb Vd:Value) (cs:List Value) (k:Nat):Prop:=k=p\/k=gl\/Vb.ownBlock=some k\/Vd.ownBlock=some k\/∃d v,d<22/\cs[d]?=some v/\v.ownBlock=some k
theorem Hm.tight (h:Hm F w p H Vb Vd gl cs):Hm (atm p gl Vb Vd cs) w p H Vb Vd gl cs:=
 ⟨h.obj,h.ob,h.od,h.row,h.len,h.at_, .inl rfl, .inr (.inl rfl),fun _ e=> .inr (.inr (.inl e)),fun _ e=> .inr (.inr (.inr (.inl e))),fun d v _ hd h1 e=> .inr (.inr (.inr (.inr ⟨d,v,hd,h1,e⟩))),h.sl⟩
theorem Hm.feetF (h:Hm F w p H Vb Vd gl cs){k:Nat}(hk:atm p gl Vb Vd cs k):F k:=by
 rcases hk with rfl | rfl | e | e | ⟨d,v,hd,h1,e⟩
 · exact h.fp
 · exact h.fl
 · exact h.fb k e
 · exact h.fd k e
 · exact h.fi d v k hd h1 e
theorem Hm.feet_lt (h:Hm F w p H Vb Vd gl cs){k:Nat}(hk:atm p gl Vb Vd cs k):k<w.heap.size:=by
 rcases hk with rfl | rfl | e | e | ⟨d,v,hd,h1,e⟩
 · exact h.lt
 · exact aan h.row
 · exact aek h.ob e
 · exact aek h.od e
 · obtain⟨v',h1',h2⟩:=h.at_ d hd;rw[h1]at h1';injection h1' with h1';subst h1';exact aek h2 e
theorem Hm.below (h:Hm F w p H Vb Vd gl cs) (hb:Below w.heap.size w w'):Hm F w' p H Vb Vd gl cs:=by
 have h1:=h.tight.keep (w':=w') (fun k hk=>hb.block k (h.feet_lt hk));exact⟨h1.obj,h1.ob,h1.od,h1.row,h1.len,h1.at_,h.fp,h.fl,h.fb,h.fd,h.fi,h.sl⟩
theorem HM.below (h:HM F w p H) (hb:Below w.heap.size w w'):HM F w' p H:=by
 obtain⟨Vb,Vd,gl,cs,h⟩:=h;exact⟨Vb,Vd,gl,cs,h.below hb⟩
theorem HM.tch{S:Nat->Prop}(h:HM F w p H) (ht:Tch S w w') (hd:∀k,F k->¬S k):HM F w' p H:=by
 obtain⟨Vb,Vd,gl,cs,h⟩:=h;have h1:=h.tight.keep (w':=w') (fun k hk=>ht.block k (h.feet_lt hk) (hd k (h.feetF hk)));exact⟨Vb,Vd,gl,cs,h1.obj,h1.ob,h1.od,h1.row,h1.len,h1.at_,h.fp,h.fl,h.fb,h.fd,h.fi,h.sl⟩
theorem HT.of_below (h:HM F w p H) (hb:Below w.heap.size w w'):HT F w p H w':=⟨F,h.below hb,Tch.of_below hb,fun _ hk=> .inl hk⟩
theorem HT.after (hb:Below w.heap.size w w') (h:HT F w' p H' w2):HT F w p H' w2:=by
 obtain⟨F1,h1,t1,f1⟩:=h;exact⟨F1,h1,(Tch.of_below hb).trans t1 (fun _ _ h=>h),fun k hk=>(f1 k hk).imp id (fun h=>Nat.le_trans hb.size h)⟩
theorem aiy{w:World}{n:Nat}{V:Value}{l:List Bk}(h:w.ownsRow 0 132 3 V n (aaD l)){i:Nat}{x:Bk}(hx:l[i]?=some x):∃b c,V= .slice (some ⟨b,0,none⟩) n c/\b<w.heap.size/\n=l.length/\n<=c/\(w.cell? ⟨b,i*3,none⟩=some (.int .i64 (x.off:Int))/\w.cell? ⟨b,i*3+1,none⟩=some (.int .i64 (x.size:Int))/\w.cell? ⟨b,i*3+2,none⟩=some (.bool x.used))/\∀j,w.frozen? ⟨b,j,none⟩=false:=by
 have hi:i<l.length:=by
  rcases Nat.lt_or_ge i l.length with h' | h'
  · exact h'
  · rw[List.getElem?_eq_none h']at hx;cases hx
 have hn:n=l.length:=by
  have h1:=h.1;rw[ad8]at h1;omega
 rcases h.2 with⟨_,h0⟩ | ⟨b,c,cur,rfl,_,hh,hnc,_⟩
 · omega
 · obtain⟨f0,f1,f2⟩:=agp l i x hx;refine⟨b,c,rfl,aan hh,hn,hnc,⟨?_,?_,?_⟩,fun j=>frozen_of_row w b j _ _ hh⟩
   · rw[h.cellAt _ (by omega)];exact f0
   · rw[h.cellAt _ (by omega)];exact f1
   · rw[h.cellAt _ (by omega)];exact f2
end
def ixV (x:Option Nat):Int:=match x with
 | some i=>(i:Int)
 | none=> -1
theorem aqi (o:Int) (l:List Bk) (j:Nat) (x:Bk) (hx:l[j]?=some x) (h:atB o l=(atB o (l.drop j)).map (· +j)):
 ((x.off:Int)=o->atB o l=some j)/\((x.off:Int)≠o->atB o l=(atB o (l.drop (j+1))).map (· +(j+1))):=by
 have hj:j<l.length:=by
  rcases Nat.lt_or_ge j l.length with h' | h'
  · exact h'
  · rw[List.getElem?_eq_none h']at hx;cases hx
 have e:l[j]=x:=by rw[List.getElem?_eq_getElem hj]at hx;injection hx
 rw[List.drop_eq_getElem_cons hj,e]at h;refine⟨fun hq=> ?_,fun hq=> ?_⟩
 · rw[h];unfold atB;rw[if_pos hq];simp
 · rw[h];rw[atB,if_neg hq]
   cases atB o (l.drop (j+1))with
   | none=>rfl
   | some k=>simp;omega
theorem aox{l:List Bk}{j:Nat}{x:Bk}(hx:l[j]?=some x):adx (l.take (j+1))=adx (l.take j)+x.size:=by
 rw[List.take_add_one,hx,alb];simp[adx]
theorem aoy (l:List Bk) (j:Nat):adx (l.take j)<=adx l:=by
 have:adx l=adx (l.take j)+adx (l.drop j):=by rw[<-alb,List.take_append_drop]
 omega
section
variable {F:Nat->Prop} {w:World} {p gl:Nat} {H:Hp} {Vb Vd:Value} {cs:List Value}
theorem aiz (h:Hm F w p H Vb Vd gl cs) (hl:acz H.blks<=100000) (hn:H.blks.length<=100000):
 Calls Tryz.prog 69 #[.pointer (some ⟨p,0,none⟩)] w fun e w'=>e= .returned (.int .i64 (acz H.blks:Int))/\w=w':=by
 have c1:=h.c1;obtain⟨A,c,rfl⟩:=aa4 h.ob;have HO:=hE0 h.ob;obtain⟨l,hL⟩:=nmE H.blks;obtain⟨n,hN⟩:=nmE l.length;rw[hL]at HO hl hn c1 ⊢;rw[hN]at HO hn c1;unfold acz at hl ⊢;have HN:=hE0 hN;clear h hL hN;go_enter Tryz.func69,Tryz.ntmps69
 go_wp2
 go_loopw [3,4] (fun s i wr=>∃j:Nat,s= .int .i64 ((184+adx (l.take j):Nat):Int)/\i= .int .i64 (j:Int)/\j<=n/\w=wr) (fun _ i _=>n-(intOf i).toNat)
 case atStart=>exact⟨0,rfl,rfl,Nat.zero_le _,rfl⟩
 case round=>
  obtain⟨j,rfl,rfl,hj,rfl⟩:=hrel;by_cases hlt:j<n
  · obtain⟨x,hx⟩:∃x,l[j]?=some x:=⟨l[j]'(by rw[HN.out];exact hlt),List.getElem?_eq_getElem _⟩;obtain⟨b,c',hV,hb,_,hnc,⟨_,d1,_⟩,_⟩:=aiy HO.out hx;injection hV with hV1 _ hV3;subst hV1 hV3;have hsum:=aox hx;have hle:=aoy l (j+1);have hji:(j:Int)<(n:Int):=by omega
    obtain⟨sz,hsz⟩:=nmE x.size;rw[hsz]at d1 hsum;generalize hsm:adx (l.take j)=sm at hsum ⊢;have HS:=hE0 hsum;have hq:184+sm+sz<=100000:=by omega
    clear hx hsum hsm hle hsz;go_wp2
    go_roundw
    case rel=>exact⟨j+1,by rw[HS.out];go_num,by go_num,by omega,trivial⟩
    case measure=>simp only[intOf];omega
  · obtain rfl:n=j:=by omega
    have hle:=aoy l n;have e:adx (l.take n)=adx l:=by rw[List.take_of_length_le (by rw[HN.out];exact Nat.le_refl _)]
    have HE:=hE0 e;clear e;go_wp2
    go_ret
    exact⟨ao9 (by rw[HE.out]),rfl⟩
theorem aoz (h:Hm F w p H Vb Vd gl cs) (hn:H.blks.length<=100000) (o:Int) (ho: -9223372036854775808<=o/\o<=9223372036854775807) (x:Option Nat) (hx:atB o H.blks=x):
 Calls Tryz.prog 103 #[.pointer (some ⟨p,0,none⟩), .int .i64 o] w fun e w'=>e= .returned (.int .i64 (ixV x))/\w=w':=by
 have c1:=h.c1;obtain⟨A,c,rfl⟩:=aa4 h.ob;have HO:=hE0 h.ob;obtain⟨l,hL⟩:=nmE H.blks;obtain⟨n,hN⟩:=nmE l.length;rw[hL]at HO hn hx c1;rw[hN]at HO hn c1;have HN:=hE0 hN;have HX:=hE0 hx;clear h hL hN hx;go_enter Tryz.func103,Tryz.ntmps103
 go_wp2
 go_loopw [5] (fun i wr=>∃j:Nat,i= .int .i64 (j:Int)/\j<=n/\atB o l=(atB o (l.drop j)).map (· +j)/\w=wr) (fun i _=>n-(intOf i).toNat)
 case atStart=>exact⟨0,rfl,Nat.zero_le _,by simp,rfl⟩
 case round=>
  obtain⟨j,rfl,hj,hat,rfl⟩:=hrel;by_cases hlt:j<n
  · obtain⟨y,hy⟩:∃y,l[j]?=some y:=⟨l[j]'(by rw[HN.out];exact hlt),List.getElem?_eq_getElem _⟩;obtain⟨b,c',hV,hb,_,hnc,⟨d0,_,_⟩,_⟩:=aiy HO.out hy;injection hV with hV1 _ hV3;subst hV1 hV3;have had:=aqi o l j y hy hat;have hji:(j:Int)<(n:Int):=by omega
    obtain⟨yo,hyo⟩:=nmE y.off;rw[hyo]at d0 had;clear hy hat hyo;by_cases hq:(yo:Int)=o
    · have e:x=some j:=by rw[<-HX.out];exact had.1 hq
      subst e;clear had HX;subst hq;go_wp2
      go_ret
      exact⟨rfl,rfl⟩
    · have hq2:((yo:Int)==o)=false:=by rw[beq_eq_false_iff_ne];exact hq
      have HA:=hE0 (had.2 hq);clear had hq;go_wp2
      go_roundw
      case rel=>exact⟨j+1,by go_num,by omega,HA.out,trivial⟩
      case measure=>simp only[intOf];omega
  · have e:x=none:=by
     rw[<-HX.out,hat,List.drop_of_length_le (by rw[HN.out];omega)];rfl
    subst e;clear hat HX;go_wp2
    go_ret
    exact⟨rfl,rfl⟩
end
section
variable {F:Nat->Prop} {w w':World} {p gl:Nat} {H:Hp} {Vb Vd:Value} {cs:List Value}
theorem Hm.lset (h:Hm F w p H Vb Vd gl cs){d:Nat}(hd:d<22) (v:Value) (l:List Nat) (hown:w.ownsRow 0 3 1 v l.length (l.map iV)):
 Hm (fun k=>F k\/v.ownBlock=some k) (w.setCell ⟨gl,d,none⟩ v) p {H with lists:=ahg H.lists d l} Vb Vd gl (cs.set d v):=by
 have hk:∀k,k≠gl->(w.setCell ⟨gl,d,none⟩ v).heap[k]?=w.heap[k]?:=fun k hk=>Below.heap_setCell w ⟨gl,d,none⟩ v k hk;have hpg:p≠gl:=fun e=>by
  have h1:=h.obj;rw[e,h.row]at h1;injection h1 with h1;injection h1 with _ h1 _;exact absurd h1 (by decide)
 refine⟨(hk p hpg).trans h.obj,aaP h.ob (fun k e=>hk k (ab5 h.ob h.row (by decide) k e)),aaP h.od (fun k e=>hk k (ab5 h.od h.row (by decide) k e)),?_,by rw[List.length_set];exact h.len,fun e he=> ?_, .inl h.fp, .inl h.fl,fun k e=> .inl (h.fb k e),fun k e=> .inl (h.fd k e),fun e u k he hu hk=> ?_,h.sl⟩
 · have:=heap_setCell_same w gl d _ _ v h.row;rw[this];simp
 · by_cases hed:e=d
   · subst hed;refine⟨v,by rw[List.getElem?_set_self (by rw[h.len];exact hd)],?_⟩;have e2:ahg H.lists e l e=l:=by simp[ahg]
     dsimp only;rw[e2];exact aaP hown (fun k e=>hk k (ab5 hown h.row (by decide) k e))
   · obtain⟨u,h1,h2⟩:=h.at_ e he;have e2:ahg H.lists d l e=H.lists e:=by simp[ahg,hed]
     refine⟨u,by rw[List.getElem?_set_ne (fun h=>hed h.symm)];exact h1,?_⟩;dsimp only;rw[e2];exact aaP h2 (fun k e=>hk k (ab5 h2 h.row (by decide) k e))
 · by_cases hed:e=d
   · subst hed;rw[List.getElem?_set_self (by rw[h.len];exact hd)]at hu;injection hu with hu;subst hu;exact .inr hk
   · rw[List.getElem?_set_ne (fun h=>hed h.symm)]at hu;exact .inl (h.fi e u k he hu hk)
theorem Hm.lcell (h:Hm F w p H Vb Vd gl cs){d:Nat}(hd:d<22):∃A c,w.cell? ⟨gl,d,none⟩=some (.slice A (H.lists d).length c)/\w.ownsRow 0 3 1 (.slice A (H.lists d).length c) (H.lists d).length ((H.lists d).map iV):=by
 obtain⟨v,h1,h2⟩:=h.at_ d hd;obtain⟨A,c,rfl⟩:=aa4 h2;refine⟨A,c,?_,h2⟩;rw[cell_of_row w gl d _ _ (0,0) h.row];simpa using h1
theorem aq8{A:Option Addr}{c:Nat}{l:List Nat}(h:w.ownsRow 0 3 1 (.slice A l.length c) l.length (l.map iV)):Rw (fun _=>False) w A l/\(A=none->c=0):=asE h rfl (fun _ _=>id)
theorem asH{S:Nat->Prop}{A:Option Addr}{c:Nat}{l:List Nat}(h:Rw S w A l) (hA:A=none->c=0):Src w A l.length c (l.map iV):=by
 refine⟨fun e=> ?_,fun ad e=>by subst e;exact ap9 h⟩;subst e;have h0:l.length=0:=by
  rcases Nat.eq_zero_or_pos l.length with h0 | h0
  · exact h0
  · obtain⟨_,_,e,_⟩:=h h0
    cases e
 obtain rfl:l= []:=List.eq_nil_of_length_eq_zero h0;exact⟨rfl,hA rfl,rfl⟩
theorem ar0 (h:Hm F w p H Vb Vd gl cs) (i:Nat) (hi:i<H.blks.length) (hs:aa3 ((aaL H.blks i).size:Int)=true) (hll:∀d,d<22->(H.lists d).length<=100000):
 Calls Tryz.prog 108 #[.pointer (some ⟨p,0,none⟩), .int .i64 (i:Int)] w fun e w'=>e= .returned (.tuple #[])/\HT F w p (H.in_ i) w':=by
 obtain⟨cl,hcl,hcl22⟩:=acb hs;have hget:=acc hi;have hIN:H.in_ i={H with lists:=ahg H.lists cl ((aaL H.blks i).off::H.lists cl)}:=by
  unfold Hp.in_ apz;rw[hcl,Int.toNat_natCast]
 rw[hIN];obtain⟨b,c,rfl,hb,_,hnc,⟨d0,d1,_⟩,_⟩:=aiy h.ob hget;have hss:=(aae _).1 hs;have c1:=h.c1;have hii:(i:Int)<(H.blks.length:Int):=by omega
 have hplt:=h.lt;obtain⟨xo,hxo⟩:=nmE ((aaL H.blks i).off);obtain⟨xs,hxs⟩:=nmE ((aaL H.blks i).size);rw[hxo]at d0 ⊢;rw[hxs]at d1 hcl hss;obtain⟨wd,hwd⟩:=nmE w.drew;have hd:=h.below (w':=wd) (by rw[<-hwd];exact(Below.refl _ _).drew);have hsz:w.heap.size=wd.heap.size:=by rw[<-hwd];rfl
 have hbd:=adE hwd;obtain⟨A,cc,hcell,hlo⟩:=hd.lcell hcl22;have hrw:=aq8 hlo;have hgl:=aan hd.row;have hci:(cl:Int)<22:=by omega
 have HL:=hE0 (hll cl hcl22);have HD:=hE0 hd;have HWD:=hE0 hwd;have HRW:=hE0 hrw;have HBD:=hE0 hbd;have HCL:=hE0 (fun W=>ahf W (xs:Int) (by omega) (cl:Int) hcl);have HSZ:=hE0 hsz;have e0:=(World.cell?_of_block (w:=w) (w':=wd) (a:=⟨b,i*3,none⟩) (by rw[<-hwd];rfl)).trans d0;have e1:=(World.cell?_of_block (w:=w) (w':=wd) (a:=⟨p,1,none⟩) (by rw[<-hwd];rfl)).trans c1;have e3:=hd.c3;have hbd':b<wd.heap.size:=by omega
 have hpd':p<wd.heap.size:=by omega
 obtain⟨n,hN⟩:=nmE H.blks.length;rw[hN]at c1 e1 hii hnc;obtain⟨LL,hLL⟩:=nmE (H.lists cl);rw[hLL]at HL HRW hcell;have HLL:=hE0 hLL;clear hxo hxs hwd hd hbd hrw hget hs hcl hIN hlo h hsz hN hll;go_enter Tryz.func108,Tryz.ntmps108
 go_wp2_with fail
 refine(HCL.out _).mono ?_;rintro e w2 ⟨rfl,rfl⟩;clear HCL d0 d1 c1;go_wp2_with fail
 refine aaB wd.heap.size (.one [0,1,2,3,4,5,6,7,8,9,10,11,12,14,15,16,17,18,19,20] 13 (.one [] 21 (.fin [22]))) [23] (by kernel_rfl) (by kernel_rfl) (by kernel_rfl) (fun _ _ _ _ _ h=>h) ?_;rw[HWD.out];have t0:∀z:LaterB wd.heap.size wd,z.val.cell? ⟨b,i*3,none⟩=some (.int .i64 (xo:Int)):=fun z=>(z.ext.cell (p:=⟨b,i*3,none⟩) hbd').trans e0;have t1:∀z:LaterB wd.heap.size wd,z.val.cell? ⟨p,1,none⟩=some (.slice (some ⟨b,0,none⟩) n c):=fun z=>(z.ext.cell (p:=⟨p,1,none⟩) hpd').trans e1;have t3:∀z:LaterB wd.heap.size wd,z.val.cell? ⟨p,3,none⟩=some (.slice (some ⟨gl,0,none⟩) 22 22):=fun z=>(z.ext.cell (p:=⟨p,3,none⟩) hpd').trans e3;have t4:=tfE hcell hgl;refine aal (l:= ?seg1) ?hseg1 ?_
 case hseg1=>simp only[pick,lE1,lE2,lE3];rfl
 repeat (go_big_quiet_step (fail))
 refine wpQuiet_nil ?_;clear t0 t1 t3 t4;obtain⟨w6,hw6⟩:=nmE (wd.alloc (.cells #[.int .i64 (xo:Int)] 3));have b6:=abE hw6;have own6:w6.ownsRow wd.heap.size 3 1 (.slice (some ⟨wd.heap.size,0,none⟩) 1 1) 1 ([xo].map iV):=by rw[<-hw6];exact arY wd xo
 refine aag (some 27) (w1:=w6) (v:= .slice (some ⟨wd.heap.size,0,none⟩) 1 1) rfl rfl rfl (by rw[<-hw6];exact aah rfl rfl (akC wd (xo:Int))) b6 ⟨wd.heap.size,Nat.le_refl _,?_⟩;have OWN6:=hE0 own6;have HB6:=hE0 b6;have b6s:=b6.size;have HRW6:=hE0 (HRW.out.1.keep (w':=w6) (S':=fun _=>False) b6.size (fun k hk hn=>⟨b6.block k hk,hn⟩));have HCELL:=hE0 hcell;clear own6 b6 hw6 hcell HWD e0 e1 e3;simp only[Act.put,lE4,lE5,lE6];refine aal (l:= []) rfl ?_;refine wpQuiet_nil ?_;refine abc (some 35) (.tmp 27) (.tmp 34) 23 3 rfl rfl rfl rfl Tryz.underlying23 (.int .i64 0) 1 8 ake rfl (by decide) wd.heap.size (.slice (some ⟨wd.heap.size,0,none⟩) 1 1) 1 ([xo].map iV) rfl OWN6.out (Nat.le_refl _) b6s A LL.length cc (LL.map iV) rfl (by simp) (asH HRW6.out HRW.out.2) (asD LL) (by have:=HL.out;omega) (by omega) ?_;intro x7 w7 own7 hb7 gr7;have HB7:Hid (Below wd.heap.size wd w7):=HB6.out.trans hb7;have OWN7:Hid (w7.ownsRow wd.heap.size 3 1 x7 (1+LL.length) ((xo::LL).map iV)):=own7;refine⟨wd.heap.size,Nat.le_refl _,?_⟩;clear own7 gr7 hb7;obtain⟨A7',c7',rfl⟩:=aa4 OWN7.out;have HD7:=hE0 (HD.out.below HB7.out);have q3:w7.cell? ⟨gl,cl,none⟩=some (.slice A LL.length cc):=by
  have h2:=(HB7.out.cell (p:=⟨gl,cl,none⟩) hgl);rw[h2];exact HCELL.out
 have f3:=frozen_of_row w7 gl cl _ _ HD7.out.row;have hg7:=aan HD7.out.row;refine aaF (l:= ?laP) (t:= ?tlP) ?hlaP ?htlP ?_
 case hlaP=>simp only[pick,lE1,lE2,lE3];rfl
 case htlP=>simp only[pick,lE1,lE2,lE3];rfl
 simp only[Act.put,lE4,lE5,lE6];repeat (go_big_quiet_step (fail))
 refine wpQuiet_nil ?_;go_wp2
 go_end0
 refine⟨rfl,?_⟩;have hown:=acg OWN7.out (Nat.zero_le _);have e8:(xo::LL).length=1+LL.length:=by rw[List.length_cons,Nat.add_comm]
 have h8:=HD7.out.lset hcl22 (.slice A7' (1+LL.length) c7') (xo::LL) (by rw[e8];exact hown);rw[HLL.out];refine⟨_,⟨_,_,_,_,h8⟩,?_,fun k hk=> ?_⟩
 · exact((Tch.of_below (S:=F) (HBD.out.trans (by rw[HSZ.out];exact HB7.out))).trans (Tch.set w7 ⟨gl,cl,none⟩ _ HD7.out.fl) (fun _ _ h=>h))
 · exact hk.imp id (fun e=>by have:=(OWN7.out.lt k e).1;have:=HSZ.out;omega)
end
end Go.Proofs.YthnfclimjmmckaaGreatDoor
