/- Texts of mine, joined. -/
import Derived.Test.YtncadccbepjekaaGreatDoorU19
set_option maxRecDepth 100000
set_option maxHeartbeats 2000000
namespace Go.Proofs.YtncadccbepjekaaGreatDoor
open Go.RowKit
theorem atR{a m:List UInt8}(h:a≠m):((amp a).toList==m)=false:=by
 unfold amp;rw[beq_eq_false_iff_ne];simpa using h
def atS (b:List UInt8):Value:=if adD b=0 then .tuple #[.int .i64 (acR b:Int), .int .i64 (ac2 b:Int), .nilIface] else .tuple #[.int .i64 0, .int .i64 0, .iface 130 (.int .i64 (adD b:Int))]
theorem an4 (w:World) (A:Option Addr) (n c B:Nat) (b:List UInt8) (hr:Rd w B A n b) (hnc:n<=c) (hc:c<=9223372036854775807) (hn:n<=900000):
 Calls Tryz.prog 275 #[.slice A n c] w fun e w'=>e= .returned (atS b)/\w=w':=by
 have hbl:b.length=n:=hr.1;unfold atS adD;rw[hbl];by_cases h28:n<28
 · rw[if_pos h28];have g1:decide (n<28)=true:=decide_eq_true h28;clear hr hbl;go_enter Tryz.func275,Tryz.ntmps275
   go_wp2
   go_ret3
   exact⟨rfl,rfl⟩
 rw[if_neg h28];have g1:decide (n<28)=false:=decide_eq_false h28;by_cases hm:b.take 8≠imMarkB
 · rw[if_pos hm];obtain⟨g,off,rfl,_⟩:=hr.2 (by omega);obtain⟨sx,hsx⟩:=nmE (amp (b.take 8));have q1:(convert 37 9 (.slice (some ⟨g,off,none⟩) 8 c)).run Tryz.prog w= .ok (.string sx) w:=by
    have h:=hr.sub 0 8 (by omega);rw[List.drop_zero,Nat.add_zero]at h;rw[<-hsx];exact acg (c:=c) h
   have e1:=atR hm;rw[hsx]at e1;unfold imMarkB at e1;have g3:(8:Int)<=(c:Int):=by omega
   clear hr hbl hm hsx;go_enter Tryz.func275,Tryz.ntmps275
   go_wp2
   go_ret3
   exact⟨rfl,rfl⟩
 have hm':b.take 8=imMarkB:=Decidable.byContradiction hm;rw[if_neg hm];by_cases hs:aby b 0 24=false
 · rw[if_pos hs];have HS:=hE0 (acu w A n c B b 0 24 hr hnc hc hn (by omega) (by omega) false hs);obtain⟨g,off,rfl,_⟩:=hr.2 (by omega);have q1:(convert 37 9 (.slice (some ⟨g,off,none⟩) 8 c)).run Tryz.prog w= .ok (.string ⟨#[67,78,84,76,1,0,0,0]⟩) w:=by
    have h:=hr.sub 0 8 (by omega);rw[List.drop_zero,hm',Nat.add_zero]at h;have h2:=acg (c:=c) h;rw[alA]at h2;exact h2
   have g3:(8:Int)<=(c:Int):=by omega
   clear hr hbl hm hm' hs;go_enter Tryz.func275,Tryz.ntmps275
   go_wp2_with fail
   refine HS.out.mono ?_;rintro e w2 ⟨rfl,rfl⟩;go_wp2
   go_ret3
   exact⟨rfl,rfl⟩
 have hs':aby b 0 24=true:=by simpa using hs
 rw[if_neg hs];by_cases hl:ab0 (acR b:Int)=false\/1024<ac2 b
 · have e:(if (if ab0 (acR b:Int)=false then 3 else if 1024<ac2 b then 3 else 0)=0 then Value.tuple #[.int .i64 (acR b:Int), .int .i64 (ac2 b:Int), .nilIface] else .tuple #[.int .i64 0, .int .i64 0, .iface 130 (.int .i64 (((if ab0 (acR b:Int)=false then 3 else if 1024<ac2 b then 3 else 0):Nat):Int))])= .tuple #[.int .i64 0, .int .i64 0, .iface 130 (.int .i64 3)]:=by
    rcases hl with hl | hl
    · rw[if_pos hl];rfl
    · rw[if_pos hl];split<;>rfl
   rw[e];have HS:=hE0 (acu w A n c B b 0 24 hr hnc hc hn (by omega) (by omega) true hs');have HG1:=hE0 (adY A n c B b 8 w hr hnc (by omega) (by omega));have HG2:=hE0 (adY A n c B b 16 w hr hnc (by omega) (by omega));unfold acR ac2 at hl;have hN2:ab2 ((b.drop 8).take 8)<18446744073709551616:=adV _ (List.length_take_le _ _);have hK2:ab2 ((b.drop 16).take 8)<18446744073709551616:=adV _ (List.length_take_le _ _);obtain⟨N,hN⟩:=nmE (ab2 ((b.drop 8).take 8));obtain⟨K,hK⟩:=nmE (ab2 ((b.drop 16).take 8));rw[hN]at HG1 hl hN2;rw[hK]at HG2 hl hK2;obtain⟨g,off,rfl,_⟩:=hr.2 (by omega);have q1:(convert 37 9 (.slice (some ⟨g,off,none⟩) 8 c)).run Tryz.prog w= .ok (.string ⟨#[67,78,84,76,1,0,0,0]⟩) w:=by
    have h:=hr.sub 0 8 (by omega);rw[List.drop_zero,hm',Nat.add_zero]at h;have h2:=acg (c:=c) h;rw[alA]at h2;exact h2
   have g3:(8:Int)<=(c:Int):=by omega
   clear hr hbl hm hm' hs hs' hN hK e;obtain⟨y,hy⟩:=nmE (ab0 (N:Int));have HL:=hE0 (agI w N hN2 y hy);rw[hy]at hl;clear hy
   cases y with
   | false=>
    clear hl;go_enter Tryz.func275,Tryz.ntmps275
    go_wp2_with fail
    refine HS.out.mono ?_;rintro e w2 ⟨rfl,rfl⟩;go_wp2_with fail
    refine HG1.out.mono ?_;rintro e w2 ⟨rfl,rfl⟩;go_wp2_with fail
    refine HG2.out.mono ?_;rintro e w2 ⟨rfl,rfl⟩;go_wp2_with fail
    refine HL.out.mono ?_;rintro e w2 ⟨rfl,rfl⟩;go_wp2
    go_ret3
    exact⟨rfl,rfl⟩
   | true=>
    have hk:1024<K:=hl.resolve_left (by simp);have g2:decide (1024<K)=true:=decide_eq_true hk;clear hl;go_enter Tryz.func275,Tryz.ntmps275
    go_wp2_with fail
    refine HS.out.mono ?_;rintro e w2 ⟨rfl,rfl⟩;go_wp2_with fail
    refine HG1.out.mono ?_;rintro e w2 ⟨rfl,rfl⟩;go_wp2_with fail
    refine HG2.out.mono ?_;rintro e w2 ⟨rfl,rfl⟩;go_wp2_with fail
    refine HL.out.mono ?_;rintro e w2 ⟨rfl,rfl⟩;go_wp2
    go_ret3
    exact⟨rfl,rfl⟩
 have hl1:ab0 (acR b:Int)=true:=by
  cases h:ab0 (acR b:Int)with
  | true=>rfl
  | false=>exact absurd (Or.inl h) hl
 have hl2:ac2 b<=1024:=by
  refine Nat.le_of_not_lt fun h=>hl (Or.inr h)
 have e:(if ab0 (acR b:Int)=false then 3 else if 1024<ac2 b then 3 else 0)=0:=by rw[hl1,if_neg (by simp),if_neg (by omega)]
 rw[e,if_pos rfl];exact apL w A n c B b hr hnc hc hn (by omega) hm' hs' _ _ rfl rfl hl1 hl2
theorem akv (bs:List UInt8) (o v e k:Nat) (h1:o+8<=e) (h2:e+8<=bs.length):alh (alh bs e k) o v=alh (alh bs o v) e k:=by
 have hv:=aag 8 v;have hk:=aag 8 k;unfold alh lay;rw[hv,hk];refine List.ext_getElem? fun i=> ?_;simp only[List.getElem?_append,List.length_append,List.length_take,List.length_drop,List.getElem?_take,List.getElem?_drop,hv,hk];repeat' split
 all_goals first | rfl | omega | (congr 1;omega) | skip
theorem Became.trans{t:TypeId}{g base cap c':Nat}{A A':Option Addr}{b1 b2:List UInt8}{w w1 w2:World}(h:Ar w1 t g base cap A' c' b1) (ht:Tch (foot g A) w w1) (hA:A'=A\/∀a,A'=some a->w.heap.size<=a.block) (k:Became t g base cap A' b2 w1 w2):Became t g base cap A b2 w w2:=by
 obtain⟨A2,c2,k1,k2,k3⟩:=k;refine⟨A2,c2,k1,ht.trans k2 (fun i hi hf=> ?_),?_⟩
 · rcases hf with rfl | ⟨a,e,rfl⟩
   · exact .inl rfl
   · rcases hA with hA | hA
     · exact .inr ⟨a,hA▸e,rfl⟩
     · exact absurd (hA a e) (by omega)
 · rcases k3 with k3 | k3
   · rcases hA with hA | hA
     · exact .inl (k3.trans hA)
     · exact .inr fun a ha=>hA a (k3▸ha)
   · exact .inr fun a ha=>Nat.le_trans ht.size (k3 a ha)
section
variable {w:World} {g base cap c:Nat} {A:Option Addr} {bs:List UInt8}
theorem avR (w:World) (g:Nat) (o s:Int) (hs: -9223372036854775808<=s/\s<=9223372036854775807) (u:Bool) (m:Nat) (hm:acf s u=m) (h0:m=0):
 Calls Tryz.prog 217 #[.pointer (some ⟨g,0,none⟩), .agg #[.int .i64 o, .int .i64 s, .bool u]] w fun e w'=>e= .returned (aat false 1)/\Below w.heap.size w w':=by
 obtain⟨w1,hw1⟩:=nmE (w.alloc (.cells #[.int .i64 o, .int .i64 s, .bool u] 112));have hb1:=abE hw1;have hn1:=anE hw1;have HP:=hE0 (adc w1 s u (by omega) m hm);have HW1:=hE0 hw1;have HB1:=hE0 hb1;have HN1:=hE0 hn1;subst h0;clear hm hw1 hb1 hn1;go_enter Tryz.func217,Tryz.ntmps217
 obtain⟨⟨c0,c1,c2⟩,f0,f1,f2⟩:=aad HN1.out;go_wp2_with fail
 rw[HW1.out];go_wp2_with fail
 with_reducible refine HP.out.mono ?_
 rintro e w2 ⟨rfl,rfl⟩;go_wp2
 go_ret
 exact⟨rfl,HB1.out⟩
theorem avS (w:World) (g:Nat) (o:Int) (ho: -9223372036854775808<=o/\o<=9223372036854775807) (s:Int) (hs: -9223372036854775808<=s/\s<=9223372036854775807) (u:Bool) (m:Nat) (hm:acf s u=m) (h0:m≠0) (hc:plc o=false):
 Calls Tryz.prog 217 #[.pointer (some ⟨g,0,none⟩), .agg #[.int .i64 o, .int .i64 s, .bool u]] w fun e w'=>e= .returned (aat false 1)/\Below w.heap.size w w':=by
 obtain⟨w1,hw1⟩:=nmE (w.alloc (.cells #[.int .i64 o, .int .i64 s, .bool u] 112));have hb1:=abE hw1;have hn1:=anE hw1;have HP:=hE0 (adc w1 s u (by omega) m hm);have HC:=hE0 (abn w1 o ho false hc);have hm0:((m:Int)==0)=false:=by rw[beq_eq_false_iff_ne];omega
 have HW1:=hE0 hw1;have HB1:=hE0 hb1;have HN1:=hE0 hn1;clear hm hw1 hb1 hn1 h0 hc;go_enter Tryz.func217,Tryz.ntmps217
 obtain⟨⟨c0,c1,c2⟩,f0,f1,f2⟩:=aad HN1.out;go_wp2_with fail
 rw[HW1.out];go_wp2_with fail
 with_reducible refine HP.out.mono ?_
 rintro e w2 ⟨rfl,rfl⟩;go_wp2_with fail
 with_reducible refine HC.out.mono ?_
 rintro e w2 ⟨rfl,rfl⟩;go_wp2
 go_ret
 exact⟨rfl,HB1.out⟩
theorem avT (h:Ar w 195 g base cap A c bs) (hb:base<=4611686018427387904) (hl:bs.length<=16384) (o:Int) (ho: -9223372036854775808<=o/\o<=9223372036854775807) (s:Int) (hs: -9223372036854775808<=s/\s<=9223372036854775807) (u:Bool) (m:Nat) (hm:acf s u=m) (hm2:m<18446744073709551616) (h0:m≠0) (hc:plc o=true) (hss:32<=s/\s<=16384) (hlt:(bs.length:Int)<o+s):
 Calls Tryz.prog 217 #[.pointer (some ⟨g,0,none⟩), .agg #[.int .i64 o, .int .i64 s, .bool u]] w fun e w'=>e= .returned (aat false 1)/\Below w.heap.size w w':=by
 obtain⟨w1,hw1⟩:=nmE (w.alloc (.cells #[.int .i64 o, .int .i64 s, .bool u] 112));have hb1:=abE hw1;have hn1:=anE hw1;have h1:=h.below hb1;have HP:=hE0 (adc w1 s u (by omega) m hm);have HC:=hE0 (abn w1 o ho true hc);have hm0:((m:Int)==0)=false:=by rw[beq_eq_false_iff_ne];omega
 have hpl:=(agZ o).1 hc;obtain⟨z,hz⟩:=nmE (wrap64 (wrap64 (o+s)-8));have hzb: -9223372036854775808<=z/\z<=9223372036854775807/\(z<0\/(bs.length:Int)<z+8):=by rw[<-hz];unfold wrap64;omega
 have HZ:=hE0 hz;have HA:=hE0 (aay h1 z);have HS:=hE0 (anr h1 (by omega) (adr base z) m (asM _ _) hm2 (apR base hb z (by omega) bs.length 8 (by omega) (by omega) hzb.2.2));have HW1:=hE0 hw1;have HB1:=hE0 hb1;have HN1:=hE0 hn1;clear hm hw1 hb1 hn1 h0 hc h1 h hz hpl;go_enter Tryz.func217,Tryz.ntmps217
 obtain⟨⟨c0,c1,c2⟩,f0,f1,f2⟩:=aad HN1.out;go_wp2_with fail
 rw[HW1.out];go_wp2_with fail
 with_reducible refine HP.out.mono ?_
 rintro e w2 ⟨rfl,rfl⟩;go_wp2_with fail
 with_reducible refine HC.out.mono ?_
 rintro e w2 ⟨rfl,rfl⟩;go_wp2_with fail
 rw[HZ.out]
 with_reducible refine HA.out.mono ?_
 rintro e w2 ⟨rfl,rfl⟩;go_wp2_with fail
 with_reducible refine HS.out.mono ?_
 rintro e w2 ⟨rfl,hb2⟩;have HB2:=hE0 (HB1.out.trans (hb2.mono HB1.out.size));clear hb2;go_wp2
 go_ret
 exact⟨rfl,HB2.out⟩
theorem avU (h:Ar w 195 g base cap A c bs) (hb:base<=4611686018427387904) (hl:bs.length<=16384) (o s:Nat) (u:Bool) (m:Nat) (hm:acf (s:Int) u=m) (hm2:m<18446744073709551616) (h0:m≠0) (hc:plc (o:Int)=true) (hss:32<=s/\s<=16384) (hle:o+s<=bs.length):
 Calls Tryz.prog 217 #[.pointer (some ⟨g,0,none⟩), .agg #[.int .i64 (o:Int), .int .i64 (s:Int), .bool u]] w fun e w'=>e= .returned (aat true 1)/\Became 195 g base cap A (alh (alh bs o m) (o+s-8) m) w w':=by
 obtain⟨w1,hw1⟩:=nmE (w.alloc (.cells #[.int .i64 (o:Int), .int .i64 (s:Int), .bool u] 112));have hb1:=abE hw1;have hn1:=anE hw1;have h1:=h.below hb1;have HP:=hE0 (adc w1 (s:Int) u (by omega) m hm);have HC:=hE0 (abn w1 (o:Int) (by omega) true hc);have hm0:((m:Int)==0)=false:=by rw[beq_eq_false_iff_ne];omega
 have hgl:∀k,foot g A k->k<w.heap.size:=fun k hk=>h.foot_lt hk;have HA:=hE0 (aay h1 ((o:Int)+(s:Int)-8));have e1:adr base ((o:Int)+(s:Int)-8)=base+(o+s-8):=by rw[show(o:Int)+(s:Int)-8=((o+s-8:Nat):Int) by omega];exact ai3 base hb _ (by omega)
 obtain⟨x1,hx1⟩:∃x1:Nat,base+(o+s-8)=x1:=⟨_,rfl⟩;obtain⟨x2,hx2⟩:∃x2:Nat,base+o=x2:=⟨_,rfl⟩;rw[e1,hx1]at HA;have HS:=hE0 (afr h1 (by omega) x1 (o+s-8) m (by omega) hm2 (by omega) (by omega) (by omega));have HW1:=hE0 hw1;have HB1:=hE0 hb1;have HN1:=hE0 hn1;have HSW:=hE0 (akv bs o m (o+s-8) m (by omega) (by omega));have HGL:=hE0 hgl;have HX2:=hE0 hx2;have HBB:=hE0 hb;clear hm hw1 hb1 hn1 h0 hc h1 h e1 hgl hx1;go_enter Tryz.func217,Tryz.ntmps217
 obtain⟨⟨c0,c1,c2⟩,f0,f1,f2⟩:=aad HN1.out;go_wp2_with fail
 rw[HW1.out];go_wp2_with fail
 with_reducible refine HP.out.mono ?_
 rintro e w2 ⟨rfl,rfl⟩;go_wp2_with fail
 with_reducible refine HC.out.mono ?_
 rintro e w2 ⟨rfl,rfl⟩;go_wp2_with fail
 with_reducible refine HA.out.mono ?_
 rintro e w2 ⟨rfl,rfl⟩;go_wp2_with fail
 with_reducible refine HS.out.mono ?_
 rintro e w2 ⟨rfl,A2,c2,a2,t2,k2⟩;have hn2:=(t2.block _ (aae HN1.out) (fun hf=>absurd (HGL.out _ hf) (by omega))).trans HN1.out;obtain⟨⟨d0,d1,d2⟩,_⟩:=aad hn2;have HA2:=hE0 (aay a2 (o:Int));rw[ai3 base HBB.out o (by omega),HX2.out]at HA2;have HS2:=hE0 (afr a2 (by rw[ach _ _ _ (by rw[aag];omega)];omega) x2 o m (by omega) hm2 (by omega) (by omega) (by rw[ach _ _ _ (by rw[aag];omega)];omega));have HAR:=hE0 a2;have HT:=hE0 t2;have HK:=hE0 k2;clear a2 t2 k2 hn2;go_wp2_with fail
 with_reducible refine HA2.out.mono ?_
 rintro e w3 ⟨rfl,rfl⟩;go_wp2_with fail
 with_reducible refine HS2.out.mono ?_
 rintro e w3 ⟨rfl,hbe⟩;have hbe2:=(Became.trans HAR.out HT.out HK.out hbe).after HB1.out;have hbe3:Became 195 g base cap A (alh (alh bs o m) (o+s-8) m) w w3:=by rw[<-HSW.out];exact hbe2
 have HE:=hE0 hbe3;clear hbe hbe2 hbe3;go_wp2
 go_ret
 exact⟨rfl,HE.out⟩
end
theorem avV:awd:=by
 intro w g base cap c A bs o s u y h hb hl ho hs hy;subst hy
 cases hz:aaB s with
 | false=>
  have e:aeo bs o s u=none:=by unfold aeo;rw[if_neg (fun h=>by rw[hz]at h;cases h.1)]
  rw[e];exact avR w g o s hs u _ rfl (by simp[acf,hz])
 | true=>
  have hss:=(aab _).1 hz;have hm0:acf s u≠0:=by
   simp only[acf,hz,if_true];omega
  have hm2:acf s u<18446744073709551616:=by have:=af6 s u;omega
  cases hc:plc o with
  | false=>
   have e:aeo bs o s u=none:=by
    unfold aeo;rw[if_neg];rintro⟨_,h2⟩;have:=(aa1 _ _ _).1 h2;rw[(agZ o).2 (by omega)]at hc
    cases hc
   rw[e];exact avS w g o ho s hs u _ rfl hm0 hc
  | true=>
   have hp:=(agZ o).1 hc;by_cases hle:o+s<=bs.length
   · obtain⟨p,rfl⟩:∃p:Nat,o=(p:Int):=⟨o.toNat,by omega⟩;obtain⟨q,rfl⟩:∃q:Nat,s=(q:Int):=⟨s.toNat,by omega⟩;have e:aeo bs (p:Int) (q:Int) u=some (alh (alh bs p (acf (q:Int) u)) (p+q-8) (acf (q:Int) u)):=by
      unfold aeo;rw[if_pos ⟨hz,(aa1 _ _ _).2 (by omega)⟩,Int.toNat_natCast,show((p:Int)+(q:Int)-8).toNat=p+q-8 by omega]
     rw[e];exact avU h hb hl p q u _ rfl hm2 hm0 hc (by omega) (by omega)
   · have e:aeo bs o s u=none:=by
      unfold aeo;rw[if_neg];rintro⟨_,h2⟩;have:=(aa1 _ _ _).1 h2;omega
     rw[e];exact avT h hb hl o ho s hs u _ rfl hm2 hm0 hc (by omega) (by omega)
theorem atT{a b:Int}(h:a=b):Ending.returned (.int .u64 a)= .returned (.int .u64 b):=by rw[h]
theorem ag8{t:TypeId}{g base cap:Nat}{A:Option Addr}{b1 b2:List UInt8}{w w1:World}{F:Nat}{args:Array Value}{r:Ending}(h:Became t g base cap A b1 w w1)
 (hc:∀A' c',Ar w1 t g base cap A' c' b1->Calls Tryz.prog F args w1 fun e w2=>e=r/\Became t g base cap A' b2 w1 w2):Calls Tryz.prog F args w1 fun e w2=>e=r/\Became t g base cap A b2 w w2:=by
 obtain⟨A',c',a,tc,k⟩:=h;refine(hc A' c' a).mono ?_;rintro e w2 ⟨h1,h2⟩;exact⟨h1,Became.trans a tc k h2⟩
section
variable {w:World} {g base cap c:Nat} {A:Option Addr} {bs:List UInt8}
theorem aai (h:Ar w 195 g base cap A c bs) (hb:base<=4611686018427387904) (hl:bs.length<=16384) (o:Int) (p:Nat) (hp:o=(p:Int)) (ho:p+8<=bs.length) (v:Nat) (hv:aaf bs p=v):
 Calls Tryz.prog 164 #[.pointer (some ⟨g,0,none⟩), .int .i64 o] w fun e w'=>e= .returned (.int .u64 (v:Int))/\w=w':=by
 subst hp;have HA:=hE0 (ab4 h);have hwd:=abQ h hb hl (p:Int) (by omega) (some v) (by unfold word?;rw[if_pos (by omega),Int.toNat_natCast,hv]);dsimp only[wdV]at hwd;rw[ai3 base hb p (by omega),show((base+p:Nat):Int)=(base:Int)+(p:Int) by omega]at hwd;have HW:=hE0 hwd;have hp2:p<=16384:=by omega
 clear hwd h hv ho hl;go_enter Tryz.func164,Tryz.ntmps164
 go_wp2_with fail
 with_reducible refine HA.out.mono ?_
 rintro e w1 ⟨rfl,rfl⟩;go_wp2_with fail
 refine HW.out.mono ?_;rintro e w1 ⟨rfl,rfl⟩;go_wp2
 go_ret
 exact⟨rfl,rfl⟩
theorem ai9 (h:Ar w 195 g base cap A c bs) (hb:base<=4611686018427387904) (hl:bs.length<=16384) (o:Int) (p:Nat) (hp:o=(p:Int)) (ho:p+8<=bs.length) (v:Nat) (hv:v<18446744073709551616):
 Calls Tryz.prog 228 #[.pointer (some ⟨g,0,none⟩), .int .i64 o, .int .u64 (v:Int)] w fun e w'=>e= .returned (.tuple #[])/\Became 195 g base cap A (lyN bs p v) w w':=by
 subst hp;have HA:=hE0 (ab4 h);have hwd:=afr h (by omega) (base+p) p v (by omega) hv (by omega) (by omega) ho;rw[show lay bs p (aaF 8 v)=lyN bs p v from aiR bs p v,show((base+p:Nat):Int)=(base:Int)+(p:Int) by omega]at hwd;have HW:=hE0 hwd;have hp2:p<=16384:=by omega
 clear hwd h ho hl;go_enter Tryz.func228,Tryz.ntmps228
 go_wp2_with fail
 with_reducible refine HA.out.mono ?_
 rintro e w1 ⟨rfl,rfl⟩;go_wp2_with fail
 refine HW.out.mono ?_;rintro e w1 ⟨rfl,hbe⟩;have HB:=hE0 hbe;clear hbe;go_wp2
 go_end0
 exact⟨rfl,HB.out⟩
theorem aaD (w:World) (k:Nat) (hk:k<22):
 Calls Tryz.prog 165 #[.int .i64 (k:Int)] w fun e w'=>e= .returned (.int .i64 (8+8*(k:Int)))/\w=w':=by
 go_enter Tryz.func165,Tryz.ntmps165
 go_wp2
 go_ret
 exact⟨rfl,rfl⟩
theorem aja (w:World) (k:Nat) (hk:k<22):
 Calls Tryz.prog 223 #[.int .i64 (k:Int)] w fun e w'=>e= .returned (.int .u64 ((2^k:Nat):Int))/\w=w':=by
 have HP:=hE0 (alg k hk);go_enter Tryz.func223,Tryz.ntmps223
 go_wp2
 go_ret
 refine⟨atT ?_,rfl⟩;have hq:=HP.out;have e:(2:Int)^k=((2^k:Nat):Int):=by rw[Int.natCast_pow];rfl
 rw[IntKind.wrap_u64,e];clear e HP;generalize 2^k=q at hq;omega
end
section
variable {w:World} {g base cap c:Nat} {A:Option Addr} {bs:List UInt8}
theorem ajb (h:Ar w 195 g base cap A c bs) (hb:base<=4611686018427387904) (hl:bs.length<=16384) (o:Int) (ho: -9223372036854775808<=o/\o<=9223372036854775807) (hk:aaX bs o<0):
 Calls Tryz.prog 227 #[.pointer (some ⟨g,0,none⟩), .int .i64 o] w fun e w'=>e= .returned (.tuple #[.int .i64 0, .bool false])/\Below w.heap.size w w':=by
 cases hg:aa6 bs o with
 | none=>
  have hG:=alG w g base cap c A bs o _ h hb hl ho hg;dsimp only[aaA,bkV,Option.isSome,aat]at hG;have HG:=hE0 hG;clear hG h hk hg;go_enter Tryz.func227,Tryz.ntmps227
  go_wp2_with fail
  with_reducible refine HG.out.mono ?_
  rintro e w1 ⟨rfl,hb⟩;go_wp2
  go_ret2
  exact⟨rfl,hb.alloc hb.size _⟩
 | some x=>
  obtain⟨xo,xs,xu⟩:=x;have hG:=alG w g base cap c A bs o _ h hb hl ho hg;dsimp only[aaA,bkV,Bk.val,Option.isSome,aat]at hG;have q3:=(aaw hg).2.2.2.2.1;dsimp only at q3;have q:=(aab _).1 q3
  cases xu with
  | true=>
   have HG:=hE0 hG;clear hG h hk hg q3;go_enter Tryz.func227,Tryz.ntmps227
   go_wp2_with fail
   with_reducible refine HG.out.mono ?_
   rintro e w1 ⟨rfl,hb⟩;go_wp2
   go_ret2
   exact⟨rfl,hb.alloc hb.size _⟩
  | false=>
   obtain⟨d,hd,_⟩:=abq (x:=⟨xo,xs,false⟩) q3;dsimp only at hd;unfold aaX at hk;rw[hg]at hk;dsimp only at hk;rw[hd]at hk;simp at hk;omega
theorem aaW (h:Ar w 195 g base cap A c bs) (hb:base<=4611686018427387904) (hl:bs.length<=16384) (o:Int) (ho: -9223372036854775808<=o/\o<=9223372036854775807) (k:Nat) (hk:aaX bs o=(k:Int)):
 Calls Tryz.prog 227 #[.pointer (some ⟨g,0,none⟩), .int .i64 o] w fun e w'=>e= .returned (.tuple #[.int .i64 (k:Int), .bool true])/\Below w.heap.size w w':=by
 cases hg:aa6 bs o with
 | none=>unfold aaX at hk;rw[hg]at hk;dsimp only at hk;omega
 | some x=>
  obtain⟨xo,xs,xu⟩:=x;have hG:=alG w g base cap c A bs o _ h hb hl ho hg;dsimp only[aaA,bkV,Bk.val,Option.isSome,aat]at hG;have q:=(aab _).1 (aaw hg).2.2.2.2.1;dsimp only at q
  cases xu with
  | true=>unfold aaX at hk;rw[hg]at hk;simp at hk
  | false=>
   have hk':aaq (xs:Int)=(k:Int):=by rw[<-hk];unfold aaX;rw[hg];rfl
   have HC:=hE0 (fun w=>ajX w (xs:Int) (by omega));rw[hk']at HC;have HG:=hE0 hG;clear hG h hk hg hk';go_enter Tryz.func227,Tryz.ntmps227
   go_wp2_with fail
   with_reducible refine HG.out.mono ?_
   rintro e w1 ⟨rfl,hb⟩;go_wp2_with fail
   with_reducible refine(HC.out _).mono ?_
   rintro e w2 ⟨rfl,hb2⟩;have hb3:=hb.alloc hb.size (.cells #[.int .i64 (xo:Int), .int .i64 (xs:Int), .bool false] 112);have HB:=hE0 (hb3.trans (hb2.mono hb3.size));clear hb hb2 hb3;go_wp2
   go_ret2
   exact⟨rfl,HB.out⟩
theorem adG (h:Ar w 195 g base cap A c bs) (hb:base<=4611686018427387904) (hl:bs.length<=16384) (k p:Nat) (hk:k<22) (hp:p<18446744073709551616) (b:Bool) (hm:aap bs p (k:Int)=b):
 Calls Tryz.prog 224 #[.pointer (some ⟨g,0,none⟩), .int .i64 (k:Int), .int .u64 (p:Int)] w fun e w'=>e= .returned (.bool b)/\Below w.heap.size w w':=by
 have HL:=hE0 (abL h);by_cases h0:bs.length<=p
 · obtain rfl:false=b:=by
    rw[<-hm]
    cases hq:aap bs p (k:Int)with
    | true=>have:=aaM hq;omega
    | false=>rfl
   clear hm h;go_enter Tryz.func224,Tryz.ntmps224
   go_wp2_with fail
   with_reducible refine HL.out.mono ?_
   rintro e w1 ⟨rfl,rfl⟩;go_wp2
   go_ret
   exact⟨rfl,Below.refl _ _⟩
 · have h1:p<bs.length:=by omega
   rw[aj1,decide_eq_true (by omega),Bool.true_and]at hm;rcases aeF bs (p:Int)with hf | ⟨j,hf⟩
   · obtain rfl:false=b:=by rw[<-hm];exact(beq_eq_false_iff_ne.2 (by omega)).symm
     have HF:=hE0 (ajb h hb hl (p:Int) (by omega) hf);clear hm h hf;go_enter Tryz.func224,Tryz.ntmps224
     go_wp2_with fail
     with_reducible refine HL.out.mono ?_
     rintro e w1 ⟨rfl,rfl⟩;go_wp2_with fail
     with_reducible refine HF.out.mono ?_
     rintro e w1 ⟨rfl,hb1⟩;have HB:=hE0 hb1;clear hb1;go_wp2
     go_ret
     exact⟨rfl,HB.out⟩
   · have HF:=hE0 (aaW h hb hl (p:Int) (by omega) j hf);rw[hf]at hm;have HM:=hE0 hm;have hj:=(aa3 hf).2.2;clear hm h hf;go_enter Tryz.func224,Tryz.ntmps224
     go_wp2_with fail
     with_reducible refine HL.out.mono ?_
     rintro e w1 ⟨rfl,rfl⟩;go_wp2_with fail
     with_reducible refine HF.out.mono ?_
     rintro e w1 ⟨rfl,hb1⟩;have HB:=hE0 hb1;clear hb1;go_wp2
     go_ret
     exact⟨asG HM.out,HB.out⟩
theorem abK (h:Ar w 195 g base cap A c bs) (hb:base<=4611686018427387904) (hl:bs.length<=16384) (k p q u:Nat) (hk:k<22) (hp:p<18446744073709551616) (hq:q<=16) (b:Bool) (hm:abr bs k p q u=b):
 Calls Tryz.prog 167 #[.pointer (some ⟨g,0,none⟩), .int .i64 (k:Int), .int .u64 (p:Int), .int .i64 (q:Int), .int .u64 (u:Int)] w fun e w'=>e= .returned (.bool b)/\Below w.heap.size w w':=by
 unfold abr at hm
 cases hmb:aap bs p (k:Int)with
 | false=>
  rw[hmb]at hm;obtain rfl:false=b:=hm;have HM:=hE0 (adG h hb hl k p hk hp false hmb);clear hmb h;go_enter Tryz.func167,Tryz.ntmps167
  go_wp2_with fail
  with_reducible refine HM.out.mono ?_
  rintro e w1 ⟨rfl,hb1⟩;have HB:=hE0 hb1;clear hb1;go_wp2
  go_ret
  exact⟨rfl,HB.out⟩
 | true=>
  have hin:=aaM hmb;obtain⟨v,hv⟩:=nmE (aaf bs (p+q));have hvl:v<18446744073709551616:=by rw[<-hv];exact aan _ _
  rw[hmb,hv,Bool.true_and]at hm;have hm2:((v:Int)==(u:Int))=b:=by rw[<-hm,Bool.eq_iff_iff,beq_iff_eq,beq_iff_eq];omega
  have HM:=hE0 (adG h hb hl k p hk hp true hmb);have HN:=hE0 (fun w1 (hb1:Below w.heap.size w w1)=>aai (h.below hb1) hb hl ((p:Int)+(q:Int)) (p+q) (by omega) (by omega) v hv);have HV:=hE0 hm2;clear hmb h hm hm2 hv;go_enter Tryz.func167,Tryz.ntmps167
  go_wp2_with fail
  with_reducible refine HM.out.mono ?_
  rintro e w1 ⟨rfl,hb1⟩;have HB:=hE0 hb1;clear hb1;go_wp2_with fail
  refine(HN.out _ HB.out).mono ?_;rintro e w2 ⟨rfl,rfl⟩;go_wp2
  go_ret
  exact⟨asG HV.out,HB.out⟩
theorem alS (h:Ar w 195 g base cap A c bs) (hb:base<=4611686018427387904) (hl:bs.length<=16384) (hl2:184<=bs.length) (k:Nat) (hk:k<22) (b:Bool) (hm:aco (aaf bs 0) k=b):
 Calls Tryz.prog 166 #[.pointer (some ⟨g,0,none⟩), .int .i64 (k:Int)] w fun e w'=>e= .returned (.bool b)/\w=w':=by
 obtain⟨v,hv⟩:=nmE (aaf bs 0);have hvl:v<18446744073709551616:=by rw[<-hv];exact aan _ _
 have HN:=hE0 (aai h hb hl 0 0 rfl (by omega) v hv);rw[hv]at hm;have HV:=hE0 ((atk v k hvl hk).trans hm);have HT:=hE0 (aja w k hk);obtain⟨m,hm2⟩:=nmE (2^k);have hml:m<=2097152:=by rw[<-hm2];exact alg k hk
 rw[hm2]at HV HT;clear hm hv h hm2;go_enter Tryz.func166,Tryz.ntmps166
 go_wp2_with fail
 with_reducible refine HN.out.mono ?_
 rintro e w1 ⟨rfl,rfl⟩;go_wp2_with fail
 with_reducible refine HT.out.mono ?_
 rintro e w1 ⟨rfl,rfl⟩;go_wp2
 go_ret
 exact⟨asG HV.out,rfl⟩
end
section
variable {w w1:World} {g base cap c:Nat} {A:Option Addr} {bs b1:List UInt8}
theorem abu (h:Ar w 195 g base cap A c bs) (hb:Below w.heap.size w w1):Became 195 g base cap A bs w w1:=⟨A,c,h.below hb,Tch.of_below hb, .inl rfl⟩
theorem aaR (h:Became 195 g base cap A b1 w w1) (hb:base<=4611686018427387904) (hl:b1.length<=16384) (o:Int) (p:Nat) (hp:o=(p:Int)) (ho:p+8<=b1.length) (v:Nat) (hv:v<18446744073709551616):
 Calls Tryz.prog 228 #[.pointer (some ⟨g,0,none⟩), .int .i64 o, .int .u64 (v:Int)] w1 fun e w2=>e= .returned (.tuple #[])/\Became 195 g base cap A (lyN b1 p v) w w2:=
 ag8 h fun _ _ a=>ai9 a hb hl o p hp ho v hv
theorem ail (h:Became 195 g base cap A b1 w w1) (hb:base<=4611686018427387904) (hl:b1.length<=16384) (o:Int) (p:Nat) (hp:o=(p:Int)) (ho:p+8<=b1.length) (v:Nat) (hv:aaf b1 p=v):
 Calls Tryz.prog 164 #[.pointer (some ⟨g,0,none⟩), .int .i64 o] w1 fun e w2=>e= .returned (.int .u64 (v:Int))/\w1=w2:=by
 obtain⟨_,_,a,_,_⟩:=h;exact aai a hb hl o p hp ho v hv
theorem akw (h:Ar w 195 g base cap A c bs) (hb:base<=4611686018427387904) (n:Nat) (hn:bs.length=n) (hl:n<=16384) (hl2:184<=n) (k:Nat) (hk:k<22):
 Calls Tryz.prog 229 #[.pointer (some ⟨g,0,none⟩), .int .i64 (k:Int), .int .u64 0] w fun e w'=>e= .returned (.tuple #[])/\Became 195 g base cap A (abM (lyN bs (8+8*k) 0) k) w w':=by
 obtain⟨b1,hb1⟩:=nmE (lyN bs (8+8*k) 0);have hbl:b1.length=n:=by rw[<-hb1,aah _ _ _ (by omega)];exact hn
 have hw1:aaf b1 (8+8*k)=0:=by rw[<-hb1];exact abH _ _ _ (by omega) (by omega)
 obtain⟨v0,hv0⟩:=nmE (aaf b1 0);have hvl:v0<18446744073709551616:=by rw[<-hv0];exact aan _ _
 obtain⟨m,hm⟩:=nmE (2^k);have hml:m<=2097152:=by rw[<-hm];exact alg k hk
 obtain⟨x,hx⟩:=nmE (ae6 v0 k false);have hxl:x<18446744073709551616:=by rw[<-hx];exact aiP v0 k hk hvl false
 have hand:bits .andNot .u64 (v0:Int) (m:Int)=(x:Int):=by rw[<-hm,<-hx];exact ah1 v0 k hvl hk
 have hmk:abM b1 k=lyN b1 0 x:=by rw[amD b1 k (by omega),hw1,hv0];simpa using congrArg (lyN b1 0) hx
 have HS1:=ai9 h hb (by omega) (8+8*(k:Int)) (8+8*k) (by omega) (by omega) 0 (by omega);rw[hb1]at HS1 ⊢;rw[hmk];have HS1:=hE0 HS1;have HF:=hE0 (aaD w k hk);have HT:=fun W=>aja W k hk;rw[hm]at HT;have HT:=hE0 HT;have HN:=hE0 (fun W (hB:Became 195 g base cap A b1 w W)=>ail hB hb (by omega) 0 0 rfl (by omega) v0 hv0);have HS2:=hE0 (fun W (hB:Became 195 g base cap A b1 w W)=>aaR hB hb (by omega) 0 0 rfl (by omega) x hxl);clear h hb1 hw1 hv0 hm hx hmk hn hbl;go_enter Tryz.func229,Tryz.ntmps229
 go_wp2_with fail
 with_reducible refine HF.out.mono ?_
 rintro e w2 ⟨rfl,rfl⟩;go_wp2_with fail
 refine HS1.out.mono ?_;rintro e w2 ⟨rfl,be1⟩;have B1:=hE0 be1;clear be1;go_wp2_with fail
 refine(HN.out _ B1.out).mono ?_;rintro e w3 ⟨rfl,rfl⟩;go_wp2_with fail
 with_reducible refine(HT.out _).mono ?_
 rintro e w3 ⟨rfl,rfl⟩;go_wp2_with fail
 refine(HS2.out _ B1.out).mono ?_;rintro e w3 ⟨rfl,be2⟩;have B2:=hE0 be2;clear be2;go_wp2
 go_end0
 exact⟨rfl,B2.out⟩
theorem ajc (h:Ar w 195 g base cap A c bs) (hb:base<=4611686018427387904) (n:Nat) (hn:bs.length=n) (hl:n<=16384) (hl2:184<=n) (k:Nat) (hk:k<22) (v:Nat) (hv:v<18446744073709551616) (hv0:v≠0):
 Calls Tryz.prog 229 #[.pointer (some ⟨g,0,none⟩), .int .i64 (k:Int), .int .u64 (v:Int)] w fun e w'=>e= .returned (.tuple #[])/\Became 195 g base cap A (abM (lyN bs (8+8*k) v) k) w w':=by
 obtain⟨b1,hb1⟩:=nmE (lyN bs (8+8*k) v);have hbl:b1.length=n:=by rw[<-hb1,aah _ _ _ (by omega)];exact hn
 have hw1:aaf b1 (8+8*k)=v:=by rw[<-hb1];exact abH _ _ _ (by omega) (by omega)
 obtain⟨v1,hv1⟩:=nmE (aaf b1 0);have hvl:v1<18446744073709551616:=by rw[<-hv1];exact aan _ _
 obtain⟨m,hm⟩:=nmE (2^k);have hml:m<=2097152:=by rw[<-hm];exact alg k hk
 obtain⟨x,hx⟩:=nmE (ae6 v1 k false);obtain⟨y,hy⟩:=nmE (ae6 v1 k true);have hxl:x<18446744073709551616:=by rw[<-hx];exact aiP v1 k hk hvl false
 have hyl:y<18446744073709551616:=by rw[<-hy];exact aiP v1 k hk hvl true
 have hand:bits .andNot .u64 (v1:Int) (m:Int)=(x:Int):=by rw[<-hm,<-hx];exact ah1 v1 k hvl hk
 have hor:bits .or .u64 (x:Int) (m:Int)=(y:Int):=by
  rw[<-hy,arv,hx,<-hm];exact auE x k hxl hk (by rw[<-hx];exact apb v1 k)
 have hmk:abM b1 k=lyN b1 0 y:=by rw[amD b1 k (by omega),hw1,hv1,decide_eq_true hv0,hy]
 have hne:((v:Int) !=0)=true:=by rw[bne_iff_ne];omega
 have HS1:=ai9 h hb (by omega) (8+8*(k:Int)) (8+8*k) (by omega) (by omega) v hv;rw[hb1]at HS1 ⊢;rw[hmk];have HS1:=hE0 HS1;have HF:=hE0 (aaD w k hk);have HT:=fun W=>aja W k hk;rw[hm]at HT;have HT:=hE0 HT;have HN:=hE0 (fun W (hB:Became 195 g base cap A b1 w W)=>ail hB hb (by omega) 0 0 rfl (by omega) v1 hv1);have HS2:=hE0 (fun W (hB:Became 195 g base cap A b1 w W)=>aaR hB hb (by omega) 0 0 rfl (by omega) y hyl);clear h hb1 hw1 hv1 hm hx hy hmk hn hbl;go_enter Tryz.func229,Tryz.ntmps229
 go_wp2_with fail
 with_reducible refine HF.out.mono ?_
 rintro e w2 ⟨rfl,rfl⟩;go_wp2_with fail
 refine HS1.out.mono ?_;rintro e w2 ⟨rfl,be1⟩;have B1:=hE0 be1;clear be1;go_wp2_with fail
 refine(HN.out _ B1.out).mono ?_;rintro e w3 ⟨rfl,rfl⟩;go_wp2_with fail
 with_reducible refine(HT.out _).mono ?_
 rintro e w3 ⟨rfl,rfl⟩;go_wp2_with fail
 with_reducible refine(HT.out _).mono ?_
 rintro e w3 ⟨rfl,rfl⟩;go_wp2_with fail
 refine(HS2.out _ B1.out).mono ?_;rintro e w3 ⟨rfl,be2⟩;have B2:=hE0 be2;clear be2;go_wp2
 go_end0
 exact⟨rfl,B2.out⟩
theorem abj (h:Became 195 g base cap A b1 w w1) (hb:base<=4611686018427387904) (n:Nat) (hn:b1.length=n) (hl:n<=16384) (hl2:184<=n) (k:Nat) (hk:k<22) (v:Nat) (hv:v<18446744073709551616):
 Calls Tryz.prog 229 #[.pointer (some ⟨g,0,none⟩), .int .i64 (k:Int), .int .u64 (v:Int)] w1 fun e w2=>e= .returned (.tuple #[])/\Became 195 g base cap A (abM (lyN b1 (8+8*k) v) k) w w2:=by
 refine ag8 h fun _ _ a=> ?_;by_cases h0:v=0
 · subst h0;exact akw a hb n hn hl hl2 k hk
 · exact ajc a hb n hn hl hl2 k hk v hv h0
end
theorem abv{bs:List UInt8}{k v j u:Nat}(h:abr bs k v j u=true):aap bs v (k:Int)=true:=by
 unfold abr at h;rw[Bool.and_eq_true]at h;exact h.1
section
variable {w:World} {g base cap c:Nat} {A:Option Addr} {bs:List UInt8}
theorem asa (h:Ar w 195 g base cap A c bs) (hb:base<=4611686018427387904) (n:Nat) (hn:bs.length=n) (hl:n<=16384) (o:Int) (ho: -9223372036854775808<=o/\o<=9223372036854775807) (hk:aaX bs o<0):
 Calls Tryz.prog 271 #[.pointer (some ⟨g,0,none⟩), .int .i64 o] w fun e w'=>e= .returned (aat false 3)/\Below w.heap.size w w':=by
 have HF:=hE0 (ajb h hb (by omega) o ho hk);clear h hk hn;go_enter Tryz.func271,Tryz.ntmps271
 go_wp2_with fail
 with_reducible refine HF.out.mono ?_
 rintro e w1 ⟨rfl,hb1⟩;have HB:=hE0 hb1;clear hb1;go_wp2
 go_ret
 exact⟨rfl,HB.out⟩
theorem alT (h:Ar w 195 g base cap A c bs) (hb:base<=4611686018427387904) (n:Nat) (hn:bs.length=n) (hl:n<=16384) (q k f m p:Nat) (hk:aaX bs (q:Int)=(k:Int)) (hf:aaf bs (8+8*k)=f) (hm:aaf bs (q+8)=m) (hp:aaf bs (q+16)=p) (hp0:p=0) (hfq:f≠q):
 Calls Tryz.prog 271 #[.pointer (some ⟨g,0,none⟩), .int .i64 (q:Int)] w fun e w'=>e= .returned (aat false 3)/\Below w.heap.size w w':=by
 obtain⟨q184,q32,k22⟩:=aa3 hk;have hfl:f<18446744073709551616:=by rw[<-hf];exact aan _ _
 have hml:m<18446744073709551616:=by rw[<-hm];exact aan _ _
 have hpl:p<18446744073709551616:=by rw[<-hp];exact aan _ _
 have HF:=hE0 (aaW h hb (by omega) (q:Int) (by omega) k hk);have HFA:=hE0 (fun W=>aaD W k k22);have HNF:=hE0 (fun W (hB:Below w.heap.size w W)=>aai (h.below hB) hb (by omega) (8+8*(k:Int)) (8+8*k) (by omega) (by omega) f hf);have HNM:=hE0 (fun W (hB:Below w.heap.size w W)=>aai (h.below hB) hb (by omega) ((q:Int)+8) (q+8) (by omega) (by omega) m hm);have HNP:=hE0 (fun W (hB:Below w.heap.size w W)=>aai (h.below hB) hb (by omega) ((q:Int)+16) (q+16) (by omega) (by omega) p hp);have hq2:q+32<=n:=by omega
 have hq3:184<=q:=by omega
 have s1:((p:Int)==0)=true:=by subst hp0;rfl
 have s1b:((p:Int) !=0)=false:=by subst hp0;rfl
 have s2:((f:Int) !=(q:Int))=true:=by rw[bne_iff_ne];omega
 clear h hk hf hn hm hp hp0;go_enter Tryz.func271,Tryz.ntmps271
 go_wp2_with fail
 with_reducible refine HF.out.mono ?_
 rintro e w1 ⟨rfl,hb1⟩;have HB:=hE0 hb1;clear hb1 HF;go_wp2_with fail
 refine(HFA.out _).mono ?_;rintro e w9 ⟨rfl,rfl⟩;go_wp2_with fail
 refine(HNF.out _ HB.out).mono ?_;rintro e w9 ⟨rfl,rfl⟩;go_wp2_with fail
 refine(HNM.out _ HB.out).mono ?_;rintro e w9 ⟨rfl,rfl⟩;go_wp2_with fail
 refine(HNP.out _ HB.out).mono ?_;rintro e w9 ⟨rfl,rfl⟩;clear HFA HNF HNM HNP;go_wp2
 go_ret
 exact⟨rfl,HB.out⟩
theorem an5 (h:Ar w 195 g base cap A c bs) (hb:base<=4611686018427387904) (n:Nat) (hn:bs.length=n) (hl:n<=16384) (q k f m p:Nat) (hk:aaX bs (q:Int)=(k:Int)) (hf:aaf bs (8+8*k)=f) (hm:aaf bs (q+8)=m) (hp:aaf bs (q+16)=p) (hp0:p≠0) (hpm:abr bs k p 8 q=false):
 Calls Tryz.prog 271 #[.pointer (some ⟨g,0,none⟩), .int .i64 (q:Int)] w fun e w'=>e= .returned (aat false 3)/\Below w.heap.size w w':=by
 obtain⟨q184,q32,k22⟩:=aa3 hk;have hfl:f<18446744073709551616:=by rw[<-hf];exact aan _ _
 have hml:m<18446744073709551616:=by rw[<-hm];exact aan _ _
 have hpl:p<18446744073709551616:=by rw[<-hp];exact aan _ _
 have HF:=hE0 (aaW h hb (by omega) (q:Int) (by omega) k hk);have HFA:=hE0 (fun W=>aaD W k k22);have HNF:=hE0 (fun W (hB:Below w.heap.size w W)=>aai (h.below hB) hb (by omega) (8+8*(k:Int)) (8+8*k) (by omega) (by omega) f hf);have HNM:=hE0 (fun W (hB:Below w.heap.size w W)=>aai (h.below hB) hb (by omega) ((q:Int)+8) (q+8) (by omega) (by omega) m hm);have HNP:=hE0 (fun W (hB:Below w.heap.size w W)=>aai (h.below hB) hb (by omega) ((q:Int)+16) (q+16) (by omega) (by omega) p hp);have hq2:q+32<=n:=by omega
 have hq3:184<=q:=by omega
 have s1:((p:Int)==0)=false:=by rw[beq_eq_false_iff_ne];omega
 have s1b:((p:Int) !=0)=true:=by rw[bne_iff_ne];omega
 have HPM:=hE0 (fun W (hB:Below w.heap.size w W)=>abK (h.below hB) hb (by omega) k p 8 q k22 hpl (by omega) _ hpm);clear h hk hf hn hm hp hpm;go_enter Tryz.func271,Tryz.ntmps271
 go_wp2_with fail
 with_reducible refine HF.out.mono ?_
 rintro e w1 ⟨rfl,hb1⟩;have HB:=hE0 hb1;clear hb1 HF;go_wp2_with fail
 refine(HFA.out _).mono ?_;rintro e w9 ⟨rfl,rfl⟩;go_wp2_with fail
 refine(HNF.out _ HB.out).mono ?_;rintro e w9 ⟨rfl,rfl⟩;go_wp2_with fail
 refine(HNM.out _ HB.out).mono ?_;rintro e w9 ⟨rfl,rfl⟩;go_wp2_with fail
 refine(HNP.out _ HB.out).mono ?_;rintro e w9 ⟨rfl,rfl⟩;clear HFA HNF HNM HNP;go_wp2_with fail
 refine(HPM.out _ HB.out).mono ?_;rintro e w2 ⟨rfl,hb2⟩;have HB2:=hE0 (HB.out.trans (hb2.mono HB.out.size));clear hb2 HPM HB;go_wp2
 go_ret
 exact⟨rfl,HB2.out⟩
theorem alU (h:Ar w 195 g base cap A c bs) (hb:base<=4611686018427387904) (n:Nat) (hn:bs.length=n) (hl:n<=16384) (q k f m p:Nat) (hk:aaX bs (q:Int)=(k:Int)) (hf:aaf bs (8+8*k)=f) (hm:aaf bs (q+8)=m) (hp:aaf bs (q+16)=p) (hp0:p=0) (hfq:f=q) (hn0:m≠0) (hnm:abr bs k m 16 q=false):
 Calls Tryz.prog 271 #[.pointer (some ⟨g,0,none⟩), .int .i64 (q:Int)] w fun e w'=>e= .returned (aat false 3)/\Below w.heap.size w w':=by
 obtain⟨q184,q32,k22⟩:=aa3 hk;have hfl:f<18446744073709551616:=by rw[<-hf];exact aan _ _
 have hml:m<18446744073709551616:=by rw[<-hm];exact aan _ _
 have hpl:p<18446744073709551616:=by rw[<-hp];exact aan _ _
 have HF:=hE0 (aaW h hb (by omega) (q:Int) (by omega) k hk);have HFA:=hE0 (fun W=>aaD W k k22);have HNF:=hE0 (fun W (hB:Below w.heap.size w W)=>aai (h.below hB) hb (by omega) (8+8*(k:Int)) (8+8*k) (by omega) (by omega) f hf);have HNM:=hE0 (fun W (hB:Below w.heap.size w W)=>aai (h.below hB) hb (by omega) ((q:Int)+8) (q+8) (by omega) (by omega) m hm);have HNP:=hE0 (fun W (hB:Below w.heap.size w W)=>aai (h.below hB) hb (by omega) ((q:Int)+16) (q+16) (by omega) (by omega) p hp);have hq2:q+32<=n:=by omega
 have hq3:184<=q:=by omega
 have s1:((p:Int)==0)=true:=by subst hp0;rfl
 have s1b:((p:Int) !=0)=false:=by subst hp0;rfl
 have s2:((f:Int) !=(q:Int))=false:=by rw[bne_eq_false_iff_eq];omega
 have HNH:=hE0 (fun W (hB:Below w.heap.size w W)=>abK (h.below hB) hb (by omega) k m 16 q k22 hml (by omega) _ hnm);have s3:((m:Int) !=0)=true:=by rw[bne_iff_ne];omega
 clear h hk hf hn hm hp hnm hp0 hfq;go_enter Tryz.func271,Tryz.ntmps271
 go_wp2_with fail
 with_reducible refine HF.out.mono ?_
 rintro e w1 ⟨rfl,hb1⟩;have HB:=hE0 hb1;clear hb1 HF;go_wp2_with fail
 refine(HFA.out _).mono ?_;rintro e w9 ⟨rfl,rfl⟩;go_wp2_with fail
 refine(HNF.out _ HB.out).mono ?_;rintro e w9 ⟨rfl,rfl⟩;go_wp2_with fail
 refine(HNM.out _ HB.out).mono ?_;rintro e w9 ⟨rfl,rfl⟩;go_wp2_with fail
 refine(HNP.out _ HB.out).mono ?_;rintro e w9 ⟨rfl,rfl⟩;clear HFA HNF HNM HNP;go_wp2_with fail
 refine(HNH.out _ HB.out).mono ?_;rintro e w3 ⟨rfl,hb3⟩;have HB3:=hE0 (HB.out.trans (hb3.mono HB.out.size));clear hb3 HNH HB;go_wp2
 go_ret
 exact⟨rfl,HB3.out⟩
theorem alV (h:Ar w 195 g base cap A c bs) (hb:base<=4611686018427387904) (n:Nat) (hn:bs.length=n) (hl:n<=16384) (q k f m p:Nat) (hk:aaX bs (q:Int)=(k:Int)) (hf:aaf bs (8+8*k)=f) (hm:aaf bs (q+8)=m) (hp:aaf bs (q+16)=p) (hp0:p≠0) (hpm:abr bs k p 8 q=true) (hn0:m≠0) (hnm:abr bs k m 16 q=false):
 Calls Tryz.prog 271 #[.pointer (some ⟨g,0,none⟩), .int .i64 (q:Int)] w fun e w'=>e= .returned (aat false 3)/\Below w.heap.size w w':=by
 obtain⟨q184,q32,k22⟩:=aa3 hk;have hfl:f<18446744073709551616:=by rw[<-hf];exact aan _ _
 have hml:m<18446744073709551616:=by rw[<-hm];exact aan _ _
 have hpl:p<18446744073709551616:=by rw[<-hp];exact aan _ _
 have HF:=hE0 (aaW h hb (by omega) (q:Int) (by omega) k hk);have HFA:=hE0 (fun W=>aaD W k k22);have HNF:=hE0 (fun W (hB:Below w.heap.size w W)=>aai (h.below hB) hb (by omega) (8+8*(k:Int)) (8+8*k) (by omega) (by omega) f hf);have HNM:=hE0 (fun W (hB:Below w.heap.size w W)=>aai (h.below hB) hb (by omega) ((q:Int)+8) (q+8) (by omega) (by omega) m hm);have HNP:=hE0 (fun W (hB:Below w.heap.size w W)=>aai (h.below hB) hb (by omega) ((q:Int)+16) (q+16) (by omega) (by omega) p hp);have hq2:q+32<=n:=by omega
 have hq3:184<=q:=by omega
 have s1:((p:Int)==0)=false:=by rw[beq_eq_false_iff_ne];omega
 have s1b:((p:Int) !=0)=true:=by rw[bne_iff_ne];omega
 have HPM:=hE0 (fun W (hB:Below w.heap.size w W)=>abK (h.below hB) hb (by omega) k p 8 q k22 hpl (by omega) _ hpm);have HNH:=hE0 (fun W (hB:Below w.heap.size w W)=>abK (h.below hB) hb (by omega) k m 16 q k22 hml (by omega) _ hnm);have s3:((m:Int) !=0)=true:=by rw[bne_iff_ne];omega
 clear h hk hf hn hm hp hpm hnm;go_enter Tryz.func271,Tryz.ntmps271
 go_wp2_with fail
 with_reducible refine HF.out.mono ?_
 rintro e w1 ⟨rfl,hb1⟩;have HB:=hE0 hb1;clear hb1 HF;go_wp2_with fail
 refine(HFA.out _).mono ?_;rintro e w9 ⟨rfl,rfl⟩;go_wp2_with fail
 refine(HNF.out _ HB.out).mono ?_;rintro e w9 ⟨rfl,rfl⟩;go_wp2_with fail
 refine(HNM.out _ HB.out).mono ?_;rintro e w9 ⟨rfl,rfl⟩;go_wp2_with fail
 refine(HNP.out _ HB.out).mono ?_;rintro e w9 ⟨rfl,rfl⟩;clear HFA HNF HNM HNP;go_wp2_with fail
 refine(HPM.out _ HB.out).mono ?_;rintro e w2 ⟨rfl,hb2⟩;have HB2:=hE0 (HB.out.trans (hb2.mono HB.out.size));clear hb2 HPM HB;go_wp2_with fail
 refine(HNH.out _ HB2.out).mono ?_;rintro e w3 ⟨rfl,hb3⟩;have HB3:=hE0 (HB2.out.trans (hb3.mono HB2.out.size));clear hb3 HNH HB2;go_wp2
 go_ret
 exact⟨rfl,HB3.out⟩
theorem aqh (h:Ar w 195 g base cap A c bs) (hb:base<=4611686018427387904) (n:Nat) (hn:bs.length=n) (hl:n<=16384) (q k f m p:Nat) (hk:aaX bs (q:Int)=(k:Int)) (hf:aaf bs (8+8*k)=f) (hm:aaf bs (q+8)=m) (hp:aaf bs (q+16)=p) (hp0:p=0) (hfq:f=q) (hn0:m=0):
 Calls Tryz.prog 271 #[.pointer (some ⟨g,0,none⟩), .int .i64 (q:Int)] w fun e w'=>e= .returned (aat true 3)/\Became 195 g base cap A (abM (lyN bs (8+8*k) m) k) w w':=by
 obtain⟨q184,q32,k22⟩:=aa3 hk;have hfl:f<18446744073709551616:=by rw[<-hf];exact aan _ _
 have hml:m<18446744073709551616:=by rw[<-hm];exact aan _ _
 have hpl:p<18446744073709551616:=by rw[<-hp];exact aan _ _
 have HF:=hE0 (aaW h hb (by omega) (q:Int) (by omega) k hk);have HFA:=hE0 (fun W=>aaD W k k22);have HNF:=hE0 (fun W (hB:Below w.heap.size w W)=>aai (h.below hB) hb (by omega) (8+8*(k:Int)) (8+8*k) (by omega) (by omega) f hf);have HNM:=hE0 (fun W (hB:Below w.heap.size w W)=>aai (h.below hB) hb (by omega) ((q:Int)+8) (q+8) (by omega) (by omega) m hm);have HNP:=hE0 (fun W (hB:Below w.heap.size w W)=>aai (h.below hB) hb (by omega) ((q:Int)+16) (q+16) (by omega) (by omega) p hp);have hq2:q+32<=n:=by omega
 have hq3:184<=q:=by omega
 have s1:((p:Int)==0)=true:=by subst hp0;rfl
 have s1b:((p:Int) !=0)=false:=by subst hp0;rfl
 have s2:((f:Int) !=(q:Int))=false:=by rw[bne_eq_false_iff_eq];omega
 have s3:((m:Int) !=0)=false:=by subst hn0;rfl
 have s4:((f:Int)==(q:Int))=true:=by rw[beq_iff_eq];omega
 have HBO:=hE0 (fun W (hB:Below w.heap.size w W)=>abu h hB);have HSF:=hE0 (fun W (hB:Became 195 g base cap A bs w W)=>abj hB hb n hn hl (by omega) k k22 m (by omega));clear h hk hf hn hm hp hp0 hfq hn0;go_enter Tryz.func271,Tryz.ntmps271
 go_wp2_with fail
 with_reducible refine HF.out.mono ?_
 rintro e w1 ⟨rfl,hb1⟩;have HB:=hE0 hb1;clear hb1 HF;go_wp2_with fail
 refine(HFA.out _).mono ?_;rintro e w9 ⟨rfl,rfl⟩;go_wp2_with fail
 refine(HNF.out _ HB.out).mono ?_;rintro e w9 ⟨rfl,rfl⟩;go_wp2_with fail
 refine(HNM.out _ HB.out).mono ?_;rintro e w9 ⟨rfl,rfl⟩;go_wp2_with fail
 refine(HNP.out _ HB.out).mono ?_;rintro e w9 ⟨rfl,rfl⟩;clear HFA HNF HNM HNP;have G0:=hE0 (HBO.out _ HB.out);clear HBO HB;go_wp2_with fail
 refine(HSF.out _ G0.out).mono ?_;rintro e x9 ⟨rfl,bb⟩;have G9:=hE0 bb;clear bb HSF G0;go_wp2
 go_ret
 exact⟨rfl,G9.out⟩
theorem aqi (h:Ar w 195 g base cap A c bs) (hb:base<=4611686018427387904) (n:Nat) (hn:bs.length=n) (hl:n<=16384) (q k f m p:Nat) (hk:aaX bs (q:Int)=(k:Int)) (hf:aaf bs (8+8*k)=f) (hm:aaf bs (q+8)=m) (hp:aaf bs (q+16)=p) (hp0:p=0) (hfq:f=q) (hn0:m≠0) (hnm:abr bs k m 16 q=true):
 Calls Tryz.prog 271 #[.pointer (some ⟨g,0,none⟩), .int .i64 (q:Int)] w fun e w'=>e= .returned (aat true 3)/\Became 195 g base cap A (abM (lyN (lyN bs (m+16) p) (8+8*k) m) k) w w':=by
 obtain⟨q184,q32,k22⟩:=aa3 hk;have hfl:f<18446744073709551616:=by rw[<-hf];exact aan _ _
 have hml:m<18446744073709551616:=by rw[<-hm];exact aan _ _
 have hpl:p<18446744073709551616:=by rw[<-hp];exact aan _ _
 have HF:=hE0 (aaW h hb (by omega) (q:Int) (by omega) k hk);have HFA:=hE0 (fun W=>aaD W k k22);have HNF:=hE0 (fun W (hB:Below w.heap.size w W)=>aai (h.below hB) hb (by omega) (8+8*(k:Int)) (8+8*k) (by omega) (by omega) f hf);have HNM:=hE0 (fun W (hB:Below w.heap.size w W)=>aai (h.below hB) hb (by omega) ((q:Int)+8) (q+8) (by omega) (by omega) m hm);have HNP:=hE0 (fun W (hB:Below w.heap.size w W)=>aai (h.below hB) hb (by omega) ((q:Int)+16) (q+16) (by omega) (by omega) p hp);have hq2:q+32<=n:=by omega
 have hq3:184<=q:=by omega
 have s1:((p:Int)==0)=true:=by subst hp0;rfl
 have s1b:((p:Int) !=0)=false:=by subst hp0;rfl
 have s2:((f:Int) !=(q:Int))=false:=by rw[bne_eq_false_iff_eq];omega
 have HNH:=hE0 (fun W (hB:Below w.heap.size w W)=>abK (h.below hB) hb (by omega) k m 16 q k22 hml (by omega) _ hnm);have s3:((m:Int) !=0)=true:=by rw[bne_iff_ne];omega
 have s4:((f:Int)==(q:Int))=true:=by rw[beq_iff_eq];omega
 have hnin:=aaM (abv hnm);have hn16:m+32<=n:=by omega
 have HBO:=hE0 (fun W (hB:Below w.heap.size w W)=>abu h hB);obtain⟨b1,hb1⟩:∃b,lyN bs (m+16) p=b:=⟨_,rfl⟩;have nb1:b1.length=n:=by rw[<-hb1,aah _ _ _ (by omega)];exact hn
 have HS1:=fun W (hB:Became 195 g base cap A bs w W)=>aaR hB hb (by omega) ((m:Int)+16) (m+16) (by omega) (by omega) p hpl;rw[hb1]at HS1 ⊢;have HS1:=hE0 HS1;have HSF:=hE0 (fun W (hB:Became 195 g base cap A b1 w W)=>abj hB hb n nb1 hl (by omega) k k22 m (by omega));clear hb1 nb1;clear h hk hf hn hm hp hnm hp0 hfq;go_enter Tryz.func271,Tryz.ntmps271
 go_wp2_with fail
 with_reducible refine HF.out.mono ?_
 rintro e w1 ⟨rfl,hb1⟩;have HB:=hE0 hb1;clear hb1 HF;go_wp2_with fail
 refine(HFA.out _).mono ?_;rintro e w9 ⟨rfl,rfl⟩;go_wp2_with fail
 refine(HNF.out _ HB.out).mono ?_;rintro e w9 ⟨rfl,rfl⟩;go_wp2_with fail
 refine(HNM.out _ HB.out).mono ?_;rintro e w9 ⟨rfl,rfl⟩;go_wp2_with fail
 refine(HNP.out _ HB.out).mono ?_;rintro e w9 ⟨rfl,rfl⟩;clear HFA HNF HNM HNP;go_wp2_with fail
 refine(HNH.out _ HB.out).mono ?_;rintro e w3 ⟨rfl,hb3⟩;have HB3:=hE0 (HB.out.trans (hb3.mono HB.out.size));clear hb3 HNH HB;have G0:=hE0 (HBO.out _ HB3.out);clear HBO HB3;go_wp2_with fail
 refine(HS1.out _ G0.out).mono ?_;rintro e x1 ⟨rfl,bb⟩;have G1:=hE0 bb;clear bb HS1 G0;go_wp2_with fail
 refine(HSF.out _ G1.out).mono ?_;rintro e x9 ⟨rfl,bb⟩;have G9:=hE0 bb;clear bb HSF G1;go_wp2
 go_ret
 exact⟨rfl,G9.out⟩
theorem ag9{P:Prop}(h:P:=by
 go_enter Tryz.func271,Tryz.ntmps271
 go_wp2_with fail
 with_reducible refine HF.out.mono ?_
 rintro e w1 ⟨rfl,hb1⟩;have HB:=hE0 hb1;clear hb1 HF;go_wp2_with fail
 refine(HFA.out _).mono ?_;rintro e w9 ⟨rfl,rfl⟩;go_wp2_with fail
 refine(HNF.out _ HB.out).mono ?_;rintro e w9 ⟨rfl,rfl⟩;go_wp2_with fail
 refine(HNM.out _ HB.out).mono ?_;rintro e w9 ⟨rfl,rfl⟩;go_wp2_with fail
 refine(HNP.out _ HB.out).mono ?_;rintro e w9 ⟨rfl,rfl⟩;clear HFA HNF HNM HNP;go_wp2_with fail
 refine(HPM.out _ HB.out).mono ?_;rintro e w2 ⟨rfl,hb2⟩;have HB2:=hE0 (HB.out.trans (hb2.mono HB.out.size));clear hb2 HPM HB;have G0:=hE0 (HBO.out _ HB2.out);clear HBO HB2;go_wp2_with fail
 refine(HS1.out _ G0.out).mono ?_;rintro e x1 ⟨rfl,bb⟩;have G1:=hE0 bb;clear bb HS1 G0;go_wp2_with fail
 refine(HSF.out _ G1.out).mono ?_;rintro e x9 ⟨rfl,bb⟩;have G9:=hE0 bb;clear bb HSF G1;go_wp2
 go_ret
 exact⟨rfl,G9.out⟩
 ):P:=h
theorem aqj (h:Ar w 195 g base cap A c bs) (hb:base<=4611686018427387904) (n:Nat) (hn:bs.length=n) (hl:n<=16384) (q k f m p:Nat) (hk:aaX bs (q:Int)=(k:Int)) (hf:aaf bs (8+8*k)=f) (hm:aaf bs (q+8)=m) (hp:aaf bs (q+16)=p) (hp0:p≠0) (hpm:abr bs k p 8 q=true) (hn0:m=0) (hfq:f=q):
 Calls Tryz.prog 271 #[.pointer (some ⟨g,0,none⟩), .int .i64 (q:Int)] w fun e w'=>e= .returned (aat true 3)/\Became 195 g base cap A (abM (lyN (lyN bs (p+8) m) (8+8*k) m) k) w w':=by
 obtain⟨q184,q32,k22⟩:=aa3 hk;have hfl:f<18446744073709551616:=by rw[<-hf];exact aan _ _
 have hml:m<18446744073709551616:=by rw[<-hm];exact aan _ _
 have hpl:p<18446744073709551616:=by rw[<-hp];exact aan _ _
 have HF:=hE0 (aaW h hb (by omega) (q:Int) (by omega) k hk);have HFA:=hE0 (fun W=>aaD W k k22);have HNF:=hE0 (fun W (hB:Below w.heap.size w W)=>aai (h.below hB) hb (by omega) (8+8*(k:Int)) (8+8*k) (by omega) (by omega) f hf);have HNM:=hE0 (fun W (hB:Below w.heap.size w W)=>aai (h.below hB) hb (by omega) ((q:Int)+8) (q+8) (by omega) (by omega) m hm);have HNP:=hE0 (fun W (hB:Below w.heap.size w W)=>aai (h.below hB) hb (by omega) ((q:Int)+16) (q+16) (by omega) (by omega) p hp);have hq2:q+32<=n:=by omega
 have hq3:184<=q:=by omega
 have s1:((p:Int)==0)=false:=by rw[beq_eq_false_iff_ne];omega
 have s1b:((p:Int) !=0)=true:=by rw[bne_iff_ne];omega
 have HPM:=hE0 (fun W (hB:Below w.heap.size w W)=>abK (h.below hB) hb (by omega) k p 8 q k22 hpl (by omega) _ hpm);have s3:((m:Int) !=0)=false:=by subst hn0;rfl
 have s4:((f:Int)==(q:Int))=true:=by rw[beq_iff_eq];omega
 have hpin:=aaM (abv hpm);have hp8:p+32<=n:=by omega
 have HBO:=hE0 (fun W (hB:Below w.heap.size w W)=>abu h hB);obtain⟨b1,hb1⟩:∃b,lyN bs (p+8) m=b:=⟨_,rfl⟩;have nb1:b1.length=n:=by rw[<-hb1,aah _ _ _ (by omega)];exact hn
 have HS1:=fun W (hB:Became 195 g base cap A bs w W)=>aaR hB hb (by omega) ((p:Int)+8) (p+8) (by omega) (by omega) m hml;rw[hb1]at HS1 ⊢;have HS1:=hE0 HS1;have HSF:=hE0 (fun W (hB:Became 195 g base cap A b1 w W)=>abj hB hb n nb1 hl (by omega) k k22 m (by omega));clear hb1 nb1;clear h hk hf hn hm hp hpm hfq hn0;exact ag9
theorem aim{P:Prop}(h:P:=by
 go_enter Tryz.func271,Tryz.ntmps271
 go_wp2_with fail
 with_reducible refine HF.out.mono ?_
 rintro e w1 ⟨rfl,hb1⟩;have HB:=hE0 hb1;clear hb1 HF;go_wp2_with fail
 refine(HFA.out _).mono ?_;rintro e w9 ⟨rfl,rfl⟩;go_wp2_with fail
 refine(HNF.out _ HB.out).mono ?_;rintro e w9 ⟨rfl,rfl⟩;go_wp2_with fail
 refine(HNM.out _ HB.out).mono ?_;rintro e w9 ⟨rfl,rfl⟩;go_wp2_with fail
 refine(HNP.out _ HB.out).mono ?_;rintro e w9 ⟨rfl,rfl⟩;clear HFA HNF HNM HNP;go_wp2_with fail
 refine(HPM.out _ HB.out).mono ?_;rintro e w2 ⟨rfl,hb2⟩;have HB2:=hE0 (HB.out.trans (hb2.mono HB.out.size));clear hb2 HPM HB;go_wp2_with fail
 refine(HNH.out _ HB2.out).mono ?_;rintro e w3 ⟨rfl,hb3⟩;have HB3:=hE0 (HB2.out.trans (hb3.mono HB2.out.size));clear hb3 HNH HB2;have G0:=hE0 (HBO.out _ HB3.out);clear HBO HB3;go_wp2_with fail
 refine(HS1.out _ G0.out).mono ?_;rintro e x1 ⟨rfl,bb⟩;have G1:=hE0 bb;clear bb HS1 G0;go_wp2_with fail
 refine(HS2.out _ G1.out).mono ?_;rintro e x2 ⟨rfl,bb⟩;have G2:=hE0 bb;clear bb HS2 G1;go_wp2_with fail
 refine(HSF.out _ G2.out).mono ?_;rintro e x9 ⟨rfl,bb⟩;have G9:=hE0 bb;clear bb HSF G2;go_wp2
 go_ret
 exact⟨rfl,G9.out⟩
 ):P:=h
theorem aqk (h:Ar w 195 g base cap A c bs) (hb:base<=4611686018427387904) (n:Nat) (hn:bs.length=n) (hl:n<=16384) (q k f m p:Nat) (hk:aaX bs (q:Int)=(k:Int)) (hf:aaf bs (8+8*k)=f) (hm:aaf bs (q+8)=m) (hp:aaf bs (q+16)=p) (hp0:p≠0) (hpm:abr bs k p 8 q=true) (hn0:m≠0) (hnm:abr bs k m 16 q=true) (hfq:f=q):
 Calls Tryz.prog 271 #[.pointer (some ⟨g,0,none⟩), .int .i64 (q:Int)] w fun e w'=>e= .returned (aat true 3)/\Became 195 g base cap A (abM (lyN (lyN (lyN bs (p+8) m) (m+16) p) (8+8*k) m) k) w w':=by
 obtain⟨q184,q32,k22⟩:=aa3 hk;have hfl:f<18446744073709551616:=by rw[<-hf];exact aan _ _
 have hml:m<18446744073709551616:=by rw[<-hm];exact aan _ _
 have hpl:p<18446744073709551616:=by rw[<-hp];exact aan _ _
 have HF:=hE0 (aaW h hb (by omega) (q:Int) (by omega) k hk);have HFA:=hE0 (fun W=>aaD W k k22);have HNF:=hE0 (fun W (hB:Below w.heap.size w W)=>aai (h.below hB) hb (by omega) (8+8*(k:Int)) (8+8*k) (by omega) (by omega) f hf);have HNM:=hE0 (fun W (hB:Below w.heap.size w W)=>aai (h.below hB) hb (by omega) ((q:Int)+8) (q+8) (by omega) (by omega) m hm);have HNP:=hE0 (fun W (hB:Below w.heap.size w W)=>aai (h.below hB) hb (by omega) ((q:Int)+16) (q+16) (by omega) (by omega) p hp);have hq2:q+32<=n:=by omega
 have hq3:184<=q:=by omega
 have s1:((p:Int)==0)=false:=by rw[beq_eq_false_iff_ne];omega
 have s1b:((p:Int) !=0)=true:=by rw[bne_iff_ne];omega
 have HPM:=hE0 (fun W (hB:Below w.heap.size w W)=>abK (h.below hB) hb (by omega) k p 8 q k22 hpl (by omega) _ hpm);have HNH:=hE0 (fun W (hB:Below w.heap.size w W)=>abK (h.below hB) hb (by omega) k m 16 q k22 hml (by omega) _ hnm);have s3:((m:Int) !=0)=true:=by rw[bne_iff_ne];omega
 have s4:((f:Int)==(q:Int))=true:=by rw[beq_iff_eq];omega
 have hpin:=aaM (abv hpm);have hp8:p+32<=n:=by omega
 have hnin:=aaM (abv hnm);have hn16:m+32<=n:=by omega
 have HBO:=hE0 (fun W (hB:Below w.heap.size w W)=>abu h hB);obtain⟨b1,hb1⟩:∃b,lyN bs (p+8) m=b:=⟨_,rfl⟩;have nb1:b1.length=n:=by rw[<-hb1,aah _ _ _ (by omega)];exact hn
 have HS1:=fun W (hB:Became 195 g base cap A bs w W)=>aaR hB hb (by omega) ((p:Int)+8) (p+8) (by omega) (by omega) m hml;rw[hb1]at HS1 ⊢;have HS1:=hE0 HS1;obtain⟨b2,hb2⟩:∃b,lyN b1 (m+16) p=b:=⟨_,rfl⟩;have nb2:b2.length=n:=by rw[<-hb2,aah _ _ _ (by omega)];exact nb1
 have HS2:=fun W (hB:Became 195 g base cap A b1 w W)=>aaR hB hb (by omega) ((m:Int)+16) (m+16) (by omega) (by omega) p hpl;rw[hb2]at HS2 ⊢;have HS2:=hE0 HS2;have HSF:=hE0 (fun W (hB:Became 195 g base cap A b2 w W)=>abj hB hb n nb2 hl (by omega) k k22 m (by omega));clear hb1 nb1 hb2 nb2;clear h hk hf hn hm hp hpm hnm hfq;exact aim
theorem aql (h:Ar w 195 g base cap A c bs) (hb:base<=4611686018427387904) (n:Nat) (hn:bs.length=n) (hl:n<=16384) (q k f m p:Nat) (hk:aaX bs (q:Int)=(k:Int)) (hf:aaf bs (8+8*k)=f) (hm:aaf bs (q+8)=m) (hp:aaf bs (q+16)=p) (hp0:p≠0) (hpm:abr bs k p 8 q=true) (hn0:m=0) (hfq:f≠q):
 Calls Tryz.prog 271 #[.pointer (some ⟨g,0,none⟩), .int .i64 (q:Int)] w fun e w'=>e= .returned (aat true 3)/\Became 195 g base cap A (abM (lyN (lyN bs (p+8) m) (8+8*k) f) k) w w':=by
 obtain⟨q184,q32,k22⟩:=aa3 hk;have hfl:f<18446744073709551616:=by rw[<-hf];exact aan _ _
 have hml:m<18446744073709551616:=by rw[<-hm];exact aan _ _
 have hpl:p<18446744073709551616:=by rw[<-hp];exact aan _ _
 have HF:=hE0 (aaW h hb (by omega) (q:Int) (by omega) k hk);have HFA:=hE0 (fun W=>aaD W k k22);have HNF:=hE0 (fun W (hB:Below w.heap.size w W)=>aai (h.below hB) hb (by omega) (8+8*(k:Int)) (8+8*k) (by omega) (by omega) f hf);have HNM:=hE0 (fun W (hB:Below w.heap.size w W)=>aai (h.below hB) hb (by omega) ((q:Int)+8) (q+8) (by omega) (by omega) m hm);have HNP:=hE0 (fun W (hB:Below w.heap.size w W)=>aai (h.below hB) hb (by omega) ((q:Int)+16) (q+16) (by omega) (by omega) p hp);have hq2:q+32<=n:=by omega
 have hq3:184<=q:=by omega
 have s1:((p:Int)==0)=false:=by rw[beq_eq_false_iff_ne];omega
 have s1b:((p:Int) !=0)=true:=by rw[bne_iff_ne];omega
 have HPM:=hE0 (fun W (hB:Below w.heap.size w W)=>abK (h.below hB) hb (by omega) k p 8 q k22 hpl (by omega) _ hpm);have s3:((m:Int) !=0)=false:=by subst hn0;rfl
 have s4:((f:Int)==(q:Int))=false:=by rw[beq_eq_false_iff_ne];omega
 have hpin:=aaM (abv hpm);have hp8:p+32<=n:=by omega
 have HBO:=hE0 (fun W (hB:Below w.heap.size w W)=>abu h hB);obtain⟨b1,hb1⟩:∃b,lyN bs (p+8) m=b:=⟨_,rfl⟩;have nb1:b1.length=n:=by rw[<-hb1,aah _ _ _ (by omega)];exact hn
 have HS1:=fun W (hB:Became 195 g base cap A bs w W)=>aaR hB hb (by omega) ((p:Int)+8) (p+8) (by omega) (by omega) m hml;rw[hb1]at HS1 ⊢;have HS1:=hE0 HS1;have HSF:=hE0 (fun W (hB:Became 195 g base cap A b1 w W)=>abj hB hb n nb1 hl (by omega) k k22 f (by omega));clear hb1 nb1;clear h hk hf hn hm hp hpm hn0;exact ag9
theorem aqm (h:Ar w 195 g base cap A c bs) (hb:base<=4611686018427387904) (n:Nat) (hn:bs.length=n) (hl:n<=16384) (q k f m p:Nat) (hk:aaX bs (q:Int)=(k:Int)) (hf:aaf bs (8+8*k)=f) (hm:aaf bs (q+8)=m) (hp:aaf bs (q+16)=p) (hp0:p≠0) (hpm:abr bs k p 8 q=true) (hn0:m≠0) (hnm:abr bs k m 16 q=true) (hfq:f≠q):
 Calls Tryz.prog 271 #[.pointer (some ⟨g,0,none⟩), .int .i64 (q:Int)] w fun e w'=>e= .returned (aat true 3)/\Became 195 g base cap A (abM (lyN (lyN (lyN bs (p+8) m) (m+16) p) (8+8*k) f) k) w w':=by
 obtain⟨q184,q32,k22⟩:=aa3 hk;have hfl:f<18446744073709551616:=by rw[<-hf];exact aan _ _
 have hml:m<18446744073709551616:=by rw[<-hm];exact aan _ _
 have hpl:p<18446744073709551616:=by rw[<-hp];exact aan _ _
 have HF:=hE0 (aaW h hb (by omega) (q:Int) (by omega) k hk);have HFA:=hE0 (fun W=>aaD W k k22);have HNF:=hE0 (fun W (hB:Below w.heap.size w W)=>aai (h.below hB) hb (by omega) (8+8*(k:Int)) (8+8*k) (by omega) (by omega) f hf);have HNM:=hE0 (fun W (hB:Below w.heap.size w W)=>aai (h.below hB) hb (by omega) ((q:Int)+8) (q+8) (by omega) (by omega) m hm);have HNP:=hE0 (fun W (hB:Below w.heap.size w W)=>aai (h.below hB) hb (by omega) ((q:Int)+16) (q+16) (by omega) (by omega) p hp);have hq2:q+32<=n:=by omega
 have hq3:184<=q:=by omega
 have s1:((p:Int)==0)=false:=by rw[beq_eq_false_iff_ne];omega
 have s1b:((p:Int) !=0)=true:=by rw[bne_iff_ne];omega
 have HPM:=hE0 (fun W (hB:Below w.heap.size w W)=>abK (h.below hB) hb (by omega) k p 8 q k22 hpl (by omega) _ hpm);have HNH:=hE0 (fun W (hB:Below w.heap.size w W)=>abK (h.below hB) hb (by omega) k m 16 q k22 hml (by omega) _ hnm);have s3:((m:Int) !=0)=true:=by rw[bne_iff_ne];omega
 have s4:((f:Int)==(q:Int))=false:=by rw[beq_eq_false_iff_ne];omega
 have hpin:=aaM (abv hpm);have hp8:p+32<=n:=by omega
 have hnin:=aaM (abv hnm);have hn16:m+32<=n:=by omega
 have HBO:=hE0 (fun W (hB:Below w.heap.size w W)=>abu h hB);obtain⟨b1,hb1⟩:∃b,lyN bs (p+8) m=b:=⟨_,rfl⟩;have nb1:b1.length=n:=by rw[<-hb1,aah _ _ _ (by omega)];exact hn
 have HS1:=fun W (hB:Became 195 g base cap A bs w W)=>aaR hB hb (by omega) ((p:Int)+8) (p+8) (by omega) (by omega) m hml;rw[hb1]at HS1 ⊢;have HS1:=hE0 HS1;obtain⟨b2,hb2⟩:∃b,lyN b1 (m+16) p=b:=⟨_,rfl⟩;have nb2:b2.length=n:=by rw[<-hb2,aah _ _ _ (by omega)];exact nb1
 have HS2:=fun W (hB:Became 195 g base cap A b1 w W)=>aaR hB hb (by omega) ((m:Int)+16) (m+16) (by omega) (by omega) p hpl;rw[hb2]at HS2 ⊢;have HS2:=hE0 HS2;have HSF:=hE0 (fun W (hB:Became 195 g base cap A b2 w W)=>abj hB hb n nb2 hl (by omega) k k22 f (by omega));clear hb1 nb1 hb2 nb2;clear h hk hf hn hm hp hpm hnm;exact aim
end
theorem aee{bs:List UInt8}{k v j u:Nat}(h:abr bs k v j u=false):aap bs v (k:Int)=false\/(aaf bs (v+j):Int)≠(u:Int):=by
 unfold abr at h;rw[Bool.and_eq_false_iff,beq_eq_false_iff_ne]at h;rcases h with h | h
 · exact .inl h
 · exact .inr (by omega)
theorem aeO{bs:List UInt8}{k v j u:Nat}(h:abr bs k v j u=true):¬(aap bs v (k:Int)=false\/(aaf bs (v+j):Int)≠(u:Int)):=by
 unfold abr at h;rw[Bool.and_eq_true,beq_iff_eq]at h;rintro(h1 | h1)
 · rw[h.1]at h1;cases h1
 · exact h1 (by omega)
theorem asb (bs:List UInt8) (o v e k:Nat) (h1:o+8<=e) (h2:e+8<=bs.length):lyN (lyN bs e k) o v=lyN (lyN bs o v) e k:=by
 have:=akv bs o v e k h1 h2;simpa only[aiR]using this
theorem au2:avE:=by
 intro w g base cap c A bs o y h hb hl ho hy;subst hy;rcases aeF bs o with hk | ⟨k,hk⟩
 · have e:aeC bs o=none:=by unfold aeC;rw[if_pos hk]
   rw[e];exact asa h hb _ rfl hl o ho hk
 · obtain⟨q184,q32,k22⟩:=aa3 hk;obtain⟨q,rfl⟩:∃q:Nat,o=(q:Int):=⟨o.toNat,by omega⟩;obtain⟨f,hf⟩:=nmE (aaf bs (8+8*k));obtain⟨m,hm⟩:=nmE (aaf bs (q+8));obtain⟨p,hp⟩:=nmE (aaf bs (q+16));have e:aeC bs (q:Int)=if p=0/\(f:Int)≠(q:Int) then none
    else if p≠0/\(aap bs p (k:Int)=false\/(aaf bs (p+8):Int)≠(q:Int)) then none
    else if m≠0/\(aap bs m (k:Int)=false\/(aaf bs (m+16):Int)≠(q:Int)) then none
    else some (abM (if p≠0/\(f:Int)=(q:Int) then lyN (if m≠0 then lyN (if p=0 then lyN bs (8+8*k) m else lyN bs (p+8) m) (m+16) p else (if p=0 then lyN bs (8+8*k) m else lyN bs (p+8) m)) (8+8*k) m else (if m≠0 then lyN (if p=0 then lyN bs (8+8*k) m else lyN bs (p+8) m) (m+16) p else (if p=0 then lyN bs (8+8*k) m else lyN bs (p+8) m))) k):=by
    unfold aeC;rw[hk,if_neg (by omega)];simp only[Int.toNat_natCast,hf,hm,hp]
   rw[e];by_cases hp0:p=0
   · by_cases hfq:f=q
     · rw[if_neg (by omega),if_neg (by omega)];by_cases hm0:m=0
       · rw[if_neg (by omega),if_neg (by omega),if_neg (by omega),if_pos hp0];exact aqh h hb _ rfl hl q k f m p hk hf hm hp hp0 hfq hm0
       · cases hmh:abr bs k m 16 q with
         | false=>
          rw[if_pos ⟨hm0,aee hmh⟩];exact alU h hb _ rfl hl q k f m p hk hf hm hp hp0 hfq hm0 hmh
         | true=>
          have hin:=aaM (abv hmh);rw[if_neg (fun h=>aeO hmh h.2),if_neg (by omega),if_pos hm0,if_pos hp0,<-asb bs (8+8*k) m (m+16) p (by omega) (by omega)];exact aqi h hb _ rfl hl q k f m p hk hf hm hp hp0 hfq hm0 hmh
     · rw[if_pos ⟨hp0,by omega⟩];exact alT h hb _ rfl hl q k f m p hk hf hm hp hp0 hfq
   · rw[if_neg (fun h=>hp0 h.1)]
     cases hph:abr bs k p 8 q with
     | false=>
      rw[if_pos ⟨hp0,aee hph⟩];exact an5 h hb _ rfl hl q k f m p hk hf hm hp hp0 hph
     | true=>
      have hpin:=aaM (abv hph);rw[if_neg (fun h=>aeO hph h.2)];by_cases hm0:m=0
      · rw[if_neg (fun h=>h.1 hm0)];by_cases hfq:f=q
        · rw[if_pos ⟨hp0,by omega⟩,if_neg (fun h=>h hm0),if_neg hp0];exact aqj h hb _ rfl hl q k f m p hk hf hm hp hp0 hph hm0 hfq
        · rw[if_neg (fun h=>hfq (by omega)),if_neg (fun h=>h hm0),if_neg hp0];have e2:lyN (lyN bs (p+8) m) (8+8*k) f=lyN bs (p+8) m:=by
           have h1:aaf (lyN bs (p+8) m) (8+8*k)=f:=by rw[aax _ _ _ _ (by omega) (by omega)];exact hf
           rw[<-h1];exact aiQ _ _ (by rw[aah _ _ _ (by omega)];omega)
          have:=aql h hb _ rfl hl q k f m p hk hf hm hp hp0 hph hm0 hfq;rw[e2]at this;exact this
      · cases hmh:abr bs k m 16 q with
        | false=>
         rw[if_pos ⟨hm0,aee hmh⟩];exact alV h hb _ rfl hl q k f m p hk hf hm hp hp0 hph hm0 hmh
        | true=>
         have hin:=aaM (abv hmh);rw[if_neg (fun h=>aeO hmh h.2)];by_cases hfq:f=q
         · rw[if_pos ⟨hp0,by omega⟩,if_pos hm0,if_neg hp0];exact aqk h hb _ rfl hl q k f m p hk hf hm hp hp0 hph hm0 hmh hfq
         · rw[if_neg (fun h=>hfq (by omega)),if_pos hm0,if_neg hp0];have hl1:(lyN bs (p+8) m).length=bs.length:=aah _ _ _ (by omega);have e2:lyN (lyN (lyN bs (p+8) m) (m+16) p) (8+8*k) f=lyN (lyN bs (p+8) m) (m+16) p:=by
            have h1:aaf (lyN (lyN bs (p+8) m) (m+16) p) (8+8*k)=f:=by rw[aax _ _ _ _ (by omega) (by omega),aax _ _ _ _ (by omega) (by omega)];exact hf
            rw[<-h1];exact aiQ _ _ (by rw[aah _ _ _ (by omega)];omega)
           have:=aqm h hb _ rfl hl q k f m p hk hf hm hp hp0 hph hm0 hmh hfq;rw[e2]at this;exact this
end Go.Proofs.YtncadccbepjekaaGreatDoor
