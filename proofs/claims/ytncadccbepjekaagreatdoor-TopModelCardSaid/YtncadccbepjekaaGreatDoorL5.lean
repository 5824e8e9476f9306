/- Texts of mine, joined. -/
import Derived.Maps.OwnSet
import Derived.DeepKeys4
import Derived.Test.YtncadccbepjekaaGreatDoorL4
set_option maxRecDepth 100000
set_option maxHeartbeats 4000000
namespace Go.Proofs.YtncadccbepjekaaGreatDoor
open Go.RowKit
theorem apF (bs:List UInt8) (o:Int):abK bs o=(match word? bs (o-8)with
 | none=>none
 | some v=>match adM v with
  | none=>none
  | some (s,_)=>match aa8 bs (o-(s:Int))with
   | none=>none
   | some x=>if x.size=s then some x else none):=by
 by_cases h0:o<8\/(bs.length:Int)<o
 · have e:word? bs (o-8)=none:=by unfold word?;rw[if_neg (by omega)]
   rw[e];unfold abK;rw[if_pos (by omega)]
 · obtain⟨p,rfl⟩:∃p:Nat,o=(p:Int):=⟨o.toNat,by omega⟩;have e:word? bs ((p:Int)-8)=some (aaf bs (p-8)):=by
    unfold word?;rw[if_pos (by omega),show((p:Int)-8).toNat=p-8 by omega]
   rw[e];dsimp only;by_cases h1:(p:Int)<184
   · unfold abK;rw[if_pos (by omega)]
     cases hu:adM (aaf bs (p-8))with
     | none=>rfl
     | some su=>
      obtain⟨s,u⟩:=su;dsimp only
      cases hx:aa8 bs ((p:Int)-(s:Int))with
      | none=>rfl
      | some x=>
       have:=aay hx;omega
   · unfold abK;rw[if_neg (by omega),Int.toNat_natCast]
     cases hu:adM (aaf bs (p-8))with
     | none=>rfl
     | some su=>
      obtain⟨s,u⟩:=su;dsimp only
      cases hx:aa8 bs ((p:Int)-(s:Int))with
      | none=>rfl
      | some x=>
       dsimp only;obtain⟨q1,q2,q3,q4,q5,q6,q7⟩:=aay hx;by_cases hs:x.size=s
       · have e2:x.off+x.size-8=p-8:=by omega
         rw[e2]at q7;rw[<-q7,hu]at q6;injection q6 with q6;injection q6 with q6 q8;rw[if_pos ⟨hs,q8.symm⟩,if_pos hs]
       · rw[if_neg (fun h=>hs h.1),if_neg hs]
section
variable {w:World} {g base cap c:Nat} {A:Option Addr} {bs:List UInt8}
theorem atH (h:Ar w 195 g base cap A c bs) (hb:base<=4611686018427387904) (hl:bs.length<=16384) (o:Int) (ho: -9223372036854775808<=o/\o<=9223372036854775807) (hv:word? bs (o-8)=none):
 Calls Tryz.prog 270 #[.pointer (some ⟨g,0,none⟩), .int .i64 o] w fun e w'=>e= .returned (.tuple #[bkV none,aav false 3])/\Below w.heap.size w w':=by
 obtain⟨w1,hw1⟩:=nmE (w.alloc (.cells #[.int .i64 0, .int .i64 0, .bool false] 112));have hb1:=abE hw1;have hn1:=anE hw1;have h1:=h.below hb1;have HA:=hE0 (aaA h1 o);have hs8:IntKind.u64.wrap ((adr base o:Int)-8)=(adr base (o-8):Int):=by rw[IntKind.wrap_u64];unfold adr;omega
 have HS8:=hE0 hs8;have hwd:=abR h1 hb hl (o-8) (by omega) _ hv;dsimp only[wdV]at hwd;have HW:=hE0 hwd;have HW1:=hE0 hw1;have HB1:=hE0 hb1;have HN1:=hE0 hn1;clear hv hwd hs8 hw1 hb1 hn1 h1 h;go_enter Tryz.func270,Tryz.ntmps270
 go_wp2_with fail
 rw[HW1.out]
 with_reducible refine HA.out.mono ?_
 rintro e w2 ⟨rfl,rfl⟩;go_wp2_with fail
 rw[HS8.out]
 with_reducible refine HW.out.mono ?_
 rintro e w2 ⟨rfl,rfl⟩;have hlt:=aac HN1.out;obtain⟨⟨c0,c1,c2⟩,f0,f1,f2⟩:=aad HN1.out;go_wp2
 (try simp only[Exit.inBlock,Exit.then])
 refine abP (x:=aav false 3) (g:=w.heap.size) (o:=0) (s:=0) (b:=false) Tryz.results270 ?_ ?_ ?_ ?_ ?_
 · rfl
 · rfl
 · rfl
 · exact aaK HN1.out _ _ _
 · exact⟨rfl,((HB1.out.setCell (Nat.le_refl _) _).setCell (Nat.le_refl _) _).setCell (Nat.le_refl _) _⟩
theorem atI (h:Ar w 195 g base cap A c bs) (hb:base<=4611686018427387904) (hl:bs.length<=16384) (o:Int) (ho: -9223372036854775808<=o/\o<=9223372036854775807) (v:Nat) (hvl:v<18446744073709551616) (hv:word? bs (o-8)=some v) (hu:adM v=none):
 Calls Tryz.prog 270 #[.pointer (some ⟨g,0,none⟩), .int .i64 o] w fun e w'=>e= .returned (.tuple #[bkV none,aav false 3])/\Below w.heap.size w w':=by
 obtain⟨w1,hw1⟩:=nmE (w.alloc (.cells #[.int .i64 0, .int .i64 0, .bool false] 112));have hb1:=abE hw1;have hn1:=anE hw1;have h1:=h.below hb1;have HA:=hE0 (aaA h1 o);have hs8:IntKind.u64.wrap ((adr base o:Int)-8)=(adr base (o-8):Int):=by rw[IntKind.wrap_u64];unfold adr;omega
 have HS8:=hE0 hs8;have hwd:=abR h1 hb hl (o-8) (by omega) _ hv;dsimp only[wdV]at hwd;have HW:=hE0 hwd;have hup:=abl w1 v hvl;rw[hu]at hup;dsimp only[aoO]at hup;have HU:=hE0 hup;have HW1:=hE0 hw1;have HB1:=hE0 hb1;have HN1:=hE0 hn1;clear hv hwd hu hup hs8 hw1 hb1 hn1 h1 h;go_enter Tryz.func270,Tryz.ntmps270
 go_wp2_with fail
 rw[HW1.out]
 with_reducible refine HA.out.mono ?_
 rintro e w2 ⟨rfl,rfl⟩;go_wp2_with fail
 rw[HS8.out]
 with_reducible refine HW.out.mono ?_
 rintro e w2 ⟨rfl,rfl⟩;go_wp2_with fail
 with_reducible refine HU.out.mono ?_
 rintro e w2 ⟨rfl,rfl⟩;have hlt:=aac HN1.out;obtain⟨⟨c0,c1,c2⟩,f0,f1,f2⟩:=aad HN1.out;go_wp2
 (try simp only[Exit.inBlock,Exit.then])
 refine abP (x:=aav false 3) (g:=w.heap.size) (o:=0) (s:=0) (b:=false) Tryz.results270 ?_ ?_ ?_ ?_ ?_
 · rfl
 · rfl
 · rfl
 · exact aaK HN1.out _ _ _
 · exact⟨rfl,((HB1.out.setCell (Nat.le_refl _) _).setCell (Nat.le_refl _) _).setCell (Nat.le_refl _) _⟩
theorem agO{P:Prop}(h:P:=by
 go_enter Tryz.func270,Tryz.ntmps270
 go_wp2_with fail
 rw[HW1.out]
 with_reducible refine HA.out.mono ?_
 rintro e w2 ⟨rfl,rfl⟩;go_wp2_with fail
 rw[HS8.out]
 with_reducible refine HW.out.mono ?_
 rintro e w2 ⟨rfl,rfl⟩;go_wp2_with fail
 with_reducible refine HU.out.mono ?_
 rintro e w2 ⟨rfl,rfl⟩;go_wp2_with fail
 with_reducible refine HG.out.mono ?_
 rintro e w2 ⟨rfl,hb2⟩;have hlt:=Nat.lt_of_lt_of_le (aac HN1.out) hb2.size;have hn2:=(hb2.block _ (aac HN1.out)).trans HN1.out;have hb02:Below w.heap.size w w2:=HB1.out.trans (hb2.mono HB1.out.size);obtain⟨⟨c0,c1,c2⟩,f0,f1,f2⟩:=aad hn2;have HN2:=hE0 hn2;have HB2:=hE0 hb02;clear hn2 hb02 hb2;go_wp2
 (try simp only[Exit.inBlock,Exit.then])
 refine abP (x:=aav false 3) (g:=w.heap.size) (o:=0) (s:=0) (b:=false) Tryz.results270 ?_ ?_ ?_ ?_ ?_
 · rfl
 · rfl
 · rfl
 · exact(((Below.refl _ _).alloc (Nat.le_refl _) _).block _ (by simp[World.setCell];omega)).trans (aaK HN2.out _ _ _)
 · exact⟨rfl,(((HB2.out.setCell (Nat.le_refl _) _).setCell (Nat.le_refl _) _).setCell (Nat.le_refl _) _).alloc (by simp[World.setCell];omega) _⟩
 ):P:=h
theorem atJ (h:Ar w 195 g base cap A c bs) (hb:base<=4611686018427387904) (hl:bs.length<=16384) (o:Int) (ho: -9223372036854775808<=o/\o<=9223372036854775807) (v:Nat) (hvl:v<18446744073709551616) (hv:word? bs (o-8)=some v) (s:Nat) (u:Bool) (hu:adM v=some (s,u)) (hs:32<=s/\s<=16384) (hob:0<=o/\o<=16384) (hx:aa8 bs (o-(s:Int))=none):
 Calls Tryz.prog 270 #[.pointer (some ⟨g,0,none⟩), .int .i64 o] w fun e w'=>e= .returned (.tuple #[bkV none,aav false 3])/\Below w.heap.size w w':=by
 obtain⟨w1,hw1⟩:=nmE (w.alloc (.cells #[.int .i64 0, .int .i64 0, .bool false] 112));have hb1:=abE hw1;have hn1:=anE hw1;have h1:=h.below hb1;have HA:=hE0 (aaA h1 o);have hs8:IntKind.u64.wrap ((adr base o:Int)-8)=(adr base (o-8):Int):=by rw[IntKind.wrap_u64];unfold adr;omega
 have HS8:=hE0 hs8;have hwd:=abR h1 hb hl (o-8) (by omega) _ hv;dsimp only[wdV]at hwd;have HW:=hE0 hwd;have hup:=abl w1 v hvl;rw[hu]at hup;dsimp only[aoO]at hup;have HU:=hE0 hup;have hg:=alu w1 g base cap c A bs (o-(s:Int)) _ h1 hb hl (by omega) hx;dsimp only[aaE,bkV,Bk.val,Option.isSome,aav]at hg;have HG:=hE0 hg;have HW1:=hE0 hw1;have HB1:=hE0 hb1;have HN1:=hE0 hn1;clear hv hwd hu hup hx hg hs8 hw1 hb1 hn1 h1 h;exact agO
theorem atK (h:Ar w 195 g base cap A c bs) (hb:base<=4611686018427387904) (hl:bs.length<=16384) (o:Int) (ho: -9223372036854775808<=o/\o<=9223372036854775807) (v:Nat) (hvl:v<18446744073709551616) (hv:word? bs (o-8)=some v) (s:Nat) (u:Bool) (hu:adM v=some (s,u)) (hs:32<=s/\s<=16384) (hob:0<=o/\o<=16384) (xo xs:Nat) (xu:Bool) (hx:aa8 bs (o-(s:Int))=some ⟨xo,xs,xu⟩) (hne:xs≠s):
 Calls Tryz.prog 270 #[.pointer (some ⟨g,0,none⟩), .int .i64 o] w fun e w'=>e= .returned (.tuple #[bkV none,aav false 3])/\Below w.heap.size w w':=by
 obtain⟨w1,hw1⟩:=nmE (w.alloc (.cells #[.int .i64 0, .int .i64 0, .bool false] 112));have hb1:=abE hw1;have hn1:=anE hw1;have h1:=h.below hb1;have HA:=hE0 (aaA h1 o);have hs8:IntKind.u64.wrap ((adr base o:Int)-8)=(adr base (o-8):Int):=by rw[IntKind.wrap_u64];unfold adr;omega
 have HS8:=hE0 hs8;have hwd:=abR h1 hb hl (o-8) (by omega) _ hv;dsimp only[wdV]at hwd;have HW:=hE0 hwd;have hup:=abl w1 v hvl;rw[hu]at hup;dsimp only[aoO]at hup;have HU:=hE0 hup;have hg:=alu w1 g base cap c A bs (o-(s:Int)) _ h1 hb hl (by omega) hx;dsimp only[aaE,bkV,Bk.val,Option.isSome,aav]at hg;have HG:=hE0 hg;have hq:((xs:Int) !=(s:Int))=true:=by rw[bne_iff_ne];omega
 have HW1:=hE0 hw1;have HB1:=hE0 hb1;have HN1:=hE0 hn1;clear hv hwd hu hup hx hg hne hs8 hw1 hb1 hn1 h1 h;exact agO
theorem atL (h:Ar w 195 g base cap A c bs) (hb:base<=4611686018427387904) (hl:bs.length<=16384) (o:Int) (ho: -9223372036854775808<=o/\o<=9223372036854775807) (v:Nat) (hvl:v<18446744073709551616) (hv:word? bs (o-8)=some v) (s:Nat) (u:Bool) (hu:adM v=some (s,u)) (hs:32<=s/\s<=16384) (hob:0<=o/\o<=16384) (xo:Nat) (xu:Bool) (hx:aa8 bs (o-(s:Int))=some ⟨xo,s,xu⟩):
 Calls Tryz.prog 270 #[.pointer (some ⟨g,0,none⟩), .int .i64 o] w fun e w'=>e= .returned (.tuple #[bkV (some ⟨xo,s,xu⟩),aav true 3])/\Below w.heap.size w w':=by
 obtain⟨w1,hw1⟩:=nmE (w.alloc (.cells #[.int .i64 0, .int .i64 0, .bool false] 112));have hb1:=abE hw1;have hn1:=anE hw1;have h1:=h.below hb1;have HA:=hE0 (aaA h1 o);have hs8:IntKind.u64.wrap ((adr base o:Int)-8)=(adr base (o-8):Int):=by rw[IntKind.wrap_u64];unfold adr;omega
 have HS8:=hE0 hs8;have hwd:=abR h1 hb hl (o-8) (by omega) _ hv;dsimp only[wdV]at hwd;have HW:=hE0 hwd;have hup:=abl w1 v hvl;rw[hu]at hup;dsimp only[aoO]at hup;have HU:=hE0 hup;have hg:=alu w1 g base cap c A bs (o-(s:Int)) _ h1 hb hl (by omega) hx;dsimp only[aaE,bkV,Bk.val,Option.isSome,aav]at hg;have HG:=hE0 hg;have HW1:=hE0 hw1;have HB1:=hE0 hb1;have HN1:=hE0 hn1;clear hv hwd hu hup hx hg hs8 hw1 hb1 hn1 h1 h;go_enter Tryz.func270,Tryz.ntmps270
 go_wp2_with fail
 rw[HW1.out]
 with_reducible refine HA.out.mono ?_
 rintro e w2 ⟨rfl,rfl⟩;go_wp2_with fail
 rw[HS8.out]
 with_reducible refine HW.out.mono ?_
 rintro e w2 ⟨rfl,rfl⟩;go_wp2_with fail
 with_reducible refine HU.out.mono ?_
 rintro e w2 ⟨rfl,rfl⟩;go_wp2_with fail
 with_reducible refine HG.out.mono ?_
 rintro e w2 ⟨rfl,hb2⟩;have hlt:=Nat.lt_of_lt_of_le (aac HN1.out) hb2.size;have hn2:=(hb2.block _ (aac HN1.out)).trans HN1.out;have hb02:Below w.heap.size w w2:=HB1.out.trans (hb2.mono HB1.out.size);obtain⟨⟨c0,c1,c2⟩,f0,f1,f2⟩:=aad hn2;have HN2:=hE0 hn2;have HB2:=hE0 hb02;clear hn2 hb02 hb2;go_wp2
 (try simp only[Exit.inBlock,Exit.then])
 refine abP (x:=aav true 3) (g:=w.heap.size) (o:=(xo:Int)) (s:=(s:Int)) (b:=xu) Tryz.results270 ?_ ?_ ?_ ?_ ?_
 · rfl
 · rfl
 · rfl
 · exact(((Below.refl _ _).alloc (Nat.le_refl _) _).block _ (by simp[World.setCell];omega)).trans (aaK HN2.out _ _ _)
 · exact⟨rfl,(((HB2.out.setCell (Nat.le_refl _) _).setCell (Nat.le_refl _) _).setCell (Nat.le_refl _) _).alloc (by simp[World.setCell];omega) _⟩
end
theorem apG:auY:=by
 intro w g base cap c A bs o x h hb hl ho hx;subst hx;unfold aaE;rw[apF]
 cases hv:word? bs (o-8)with
 | none=>exact atH h hb hl o ho hv
 | some v=>
  have h8:0<=o-8/\o-8+8<=bs.length:=by
   unfold word? at hv;split at hv
   · assumption
   · cases hv
  have hvl:v<18446744073709551616:=by
   have hvi:some (aaf bs (o-8).toNat)=some v:=by rw[<-hv];unfold word?;rw[if_pos h8]
   rw[<-Option.some.inj hvi];exact aan _ _
  dsimp only
  cases hu:adM v with
  | none=>exact atI h hb hl o ho v hvl hv hu
  | some su=>
   obtain⟨s,u⟩:=su;have hss:=(aab _).1 (ac4 hu).1;dsimp only
   cases hx:aa8 bs (o-(s:Int))with
   | none=>exact atJ h hb hl o ho v hvl hv s u hu (by omega) (by omega) hx
   | some x=>
    obtain⟨xo,xs,xu⟩:=x;dsimp only;by_cases hs:xs=s
    · subst hs;rw[if_pos rfl];exact atL h hb hl o ho v hvl hv xs u hu (by omega) (by omega) xo xu hx
    · rw[if_neg hs];exact atK h hb hl o ho v hvl hv s u hu (by omega) (by omega) xo xs xu hx hs
theorem akb (bs:List UInt8) (o v e k:Nat) (h1:o+8<=e) (h2:e+8<=bs.length):ald (ald bs e k) o v=ald (ald bs o v) e k:=by
 have hv:=aag 8 v;have hk:=aag 8 k;unfold ald lay;rw[hv,hk];refine List.ext_getElem? fun i=> ?_;simp only[List.getElem?_append,List.length_append,List.length_take,List.length_drop,List.getElem?_take,List.getElem?_drop,hv,hk];repeat' split
 all_goals first | rfl | omega | (congr 1;omega) | skip
theorem Became.trans{t:TypeId}{g base cap c':Nat}{A A':Option Addr}{b1 b2:List UInt8}{w w1 w2:World}(h:Ar w1 t g base cap A' c' b1) (ht:Tch (foot g A) w w1) (hA:A'=A\/∀a,A'=some a->w.heap.size<=a.block) (k:Became t g base cap A' b2 w1 w2):Became t g base cap A b2 w w2:=by
 obtain⟨A2,c2,k1,k2,k3⟩:=k;refine⟨A2,c2,k1,ht.trans k2 (fun i hi hf=> ?_),?_⟩
 · rcases hf with rfl | ⟨a,e,rfl⟩
   · exact .inl rfl
   · rcases hA with hA | hA
     · exact .inr ⟨a,hA▸e,rfl⟩
     · exact absurd (hA a e) (by omega)
 · rcases k3 with k3 | k3
   · rcases hA with hA | hA
     · exact .inl (k3.trans hA)
     · exact .inr fun a ha=>hA a (k3▸ha)
   · exact .inr fun a ha=>Nat.le_trans ht.size (k3 a ha)
section
variable {w:World} {g base cap c:Nat} {A:Option Addr} {bs:List UInt8}
theorem avS (w:World) (g:Nat) (o s:Int) (hs: -9223372036854775808<=s/\s<=9223372036854775807) (u:Bool) (m:Nat) (hm:acf s u=m) (h0:m=0):
 Calls Tryz.prog 217 #[.pointer (some ⟨g,0,none⟩), .agg #[.int .i64 o, .int .i64 s, .bool u]] w fun e w'=>e= .returned (aav false 1)/\Below w.heap.size w w':=by
 obtain⟨w1,hw1⟩:=nmE (w.alloc (.cells #[.int .i64 o, .int .i64 s, .bool u] 112));have hb1:=abE hw1;have hn1:=anE hw1;have HP:=hE0 (ac7 w1 s u (by omega) m hm);have HW1:=hE0 hw1;have HB1:=hE0 hb1;have HN1:=hE0 hn1;subst h0;clear hm hw1 hb1 hn1;go_enter Tryz.func217,Tryz.ntmps217
 obtain⟨⟨c0,c1,c2⟩,f0,f1,f2⟩:=aad HN1.out;go_wp2_with fail
 rw[HW1.out];go_wp2_with fail
 with_reducible refine HP.out.mono ?_
 rintro e w2 ⟨rfl,rfl⟩;go_wp2
 go_ret
 exact⟨rfl,HB1.out⟩
theorem avT (w:World) (g:Nat) (o:Int) (ho: -9223372036854775808<=o/\o<=9223372036854775807) (s:Int) (hs: -9223372036854775808<=s/\s<=9223372036854775807) (u:Bool) (m:Nat) (hm:acf s u=m) (h0:m≠0) (hc:plc o=false):
 Calls Tryz.prog 217 #[.pointer (some ⟨g,0,none⟩), .agg #[.int .i64 o, .int .i64 s, .bool u]] w fun e w'=>e= .returned (aav false 1)/\Below w.heap.size w w':=by
 obtain⟨w1,hw1⟩:=nmE (w.alloc (.cells #[.int .i64 o, .int .i64 s, .bool u] 112));have hb1:=abE hw1;have hn1:=anE hw1;have HP:=hE0 (ac7 w1 s u (by omega) m hm);have HC:=hE0 (abn w1 o ho false hc);have hm0:((m:Int)==0)=false:=by rw[beq_eq_false_iff_ne];omega
 have HW1:=hE0 hw1;have HB1:=hE0 hb1;have HN1:=hE0 hn1;clear hm hw1 hb1 hn1 h0 hc;go_enter Tryz.func217,Tryz.ntmps217
 obtain⟨⟨c0,c1,c2⟩,f0,f1,f2⟩:=aad HN1.out;go_wp2_with fail
 rw[HW1.out];go_wp2_with fail
 with_reducible refine HP.out.mono ?_
 rintro e w2 ⟨rfl,rfl⟩;go_wp2_with fail
 with_reducible refine HC.out.mono ?_
 rintro e w2 ⟨rfl,rfl⟩;go_wp2
 go_ret
 exact⟨rfl,HB1.out⟩
theorem avU (h:Ar w 195 g base cap A c bs) (hb:base<=4611686018427387904) (hl:bs.length<=16384) (o:Int) (ho: -9223372036854775808<=o/\o<=9223372036854775807) (s:Int) (hs: -9223372036854775808<=s/\s<=9223372036854775807) (u:Bool) (m:Nat) (hm:acf s u=m) (hm2:m<18446744073709551616) (h0:m≠0) (hc:plc o=true) (hss:32<=s/\s<=16384) (hlt:(bs.length:Int)<o+s):
 Calls Tryz.prog 217 #[.pointer (some ⟨g,0,none⟩), .agg #[.int .i64 o, .int .i64 s, .bool u]] w fun e w'=>e= .returned (aav false 1)/\Below w.heap.size w w':=by
 obtain⟨w1,hw1⟩:=nmE (w.alloc (.cells #[.int .i64 o, .int .i64 s, .bool u] 112));have hb1:=abE hw1;have hn1:=anE hw1;have h1:=h.below hb1;have HP:=hE0 (ac7 w1 s u (by omega) m hm);have HC:=hE0 (abn w1 o ho true hc);have hm0:((m:Int)==0)=false:=by rw[beq_eq_false_iff_ne];omega
 have hpl:=(agM o).1 hc;obtain⟨z,hz⟩:=nmE (wrap64 (wrap64 (o+s)-8));have hzb: -9223372036854775808<=z/\z<=9223372036854775807/\(z<0\/(bs.length:Int)<z+8):=by rw[<-hz];unfold wrap64;omega
 have HZ:=hE0 hz;have HA:=hE0 (aaA h1 z);have HS:=hE0 (ani h1 (by omega) (adr base z) m (as1 _ _) hm2 (apE base hb z (by omega) bs.length 8 (by omega) (by omega) hzb.2.2));have HW1:=hE0 hw1;have HB1:=hE0 hb1;have HN1:=hE0 hn1;clear hm hw1 hb1 hn1 h0 hc h1 h hz hpl;go_enter Tryz.func217,Tryz.ntmps217
 obtain⟨⟨c0,c1,c2⟩,f0,f1,f2⟩:=aad HN1.out;go_wp2_with fail
 rw[HW1.out];go_wp2_with fail
 with_reducible refine HP.out.mono ?_
 rintro e w2 ⟨rfl,rfl⟩;go_wp2_with fail
 with_reducible refine HC.out.mono ?_
 rintro e w2 ⟨rfl,rfl⟩;go_wp2_with fail
 rw[HZ.out]
 with_reducible refine HA.out.mono ?_
 rintro e w2 ⟨rfl,rfl⟩;go_wp2_with fail
 with_reducible refine HS.out.mono ?_
 rintro e w2 ⟨rfl,hb2⟩;have HB2:=hE0 (HB1.out.trans (hb2.mono HB1.out.size));clear hb2;go_wp2
 go_ret
 exact⟨rfl,HB2.out⟩
theorem avV (h:Ar w 195 g base cap A c bs) (hb:base<=4611686018427387904) (hl:bs.length<=16384) (o s:Nat) (u:Bool) (m:Nat) (hm:acf (s:Int) u=m) (hm2:m<18446744073709551616) (h0:m≠0) (hc:plc (o:Int)=true) (hss:32<=s/\s<=16384) (hle:o+s<=bs.length):
 Calls Tryz.prog 217 #[.pointer (some ⟨g,0,none⟩), .agg #[.int .i64 (o:Int), .int .i64 (s:Int), .bool u]] w fun e w'=>e= .returned (aav true 1)/\Became 195 g base cap A (ald (ald bs o m) (o+s-8) m) w w':=by
 obtain⟨w1,hw1⟩:=nmE (w.alloc (.cells #[.int .i64 (o:Int), .int .i64 (s:Int), .bool u] 112));have hb1:=abE hw1;have hn1:=anE hw1;have h1:=h.below hb1;have HP:=hE0 (ac7 w1 (s:Int) u (by omega) m hm);have HC:=hE0 (abn w1 (o:Int) (by omega) true hc);have hm0:((m:Int)==0)=false:=by rw[beq_eq_false_iff_ne];omega
 have hgl:∀k,foot g A k->k<w.heap.size:=fun k hk=>h.foot_lt hk;have HA:=hE0 (aaA h1 ((o:Int)+(s:Int)-8));have e1:adr base ((o:Int)+(s:Int)-8)=base+(o+s-8):=by rw[show(o:Int)+(s:Int)-8=((o+s-8:Nat):Int) by omega];exact aiV base hb _ (by omega)
 obtain⟨x1,hx1⟩:∃x1:Nat,base+(o+s-8)=x1:=⟨_,rfl⟩;obtain⟨x2,hx2⟩:∃x2:Nat,base+o=x2:=⟨_,rfl⟩;rw[e1,hx1]at HA;have HS:=hE0 (afp h1 (by omega) x1 (o+s-8) m (by omega) hm2 (by omega) (by omega) (by omega));have HW1:=hE0 hw1;have HB1:=hE0 hb1;have HN1:=hE0 hn1;have HSW:=hE0 (akb bs o m (o+s-8) m (by omega) (by omega));have HGL:=hE0 hgl;have HX2:=hE0 hx2;have HBB:=hE0 hb;clear hm hw1 hb1 hn1 h0 hc h1 h e1 hgl hx1;go_enter Tryz.func217,Tryz.ntmps217
 obtain⟨⟨c0,c1,c2⟩,f0,f1,f2⟩:=aad HN1.out;go_wp2_with fail
 rw[HW1.out];go_wp2_with fail
 with_reducible refine HP.out.mono ?_
 rintro e w2 ⟨rfl,rfl⟩;go_wp2_with fail
 with_reducible refine HC.out.mono ?_
 rintro e w2 ⟨rfl,rfl⟩;go_wp2_with fail
 with_reducible refine HA.out.mono ?_
 rintro e w2 ⟨rfl,rfl⟩;go_wp2_with fail
 with_reducible refine HS.out.mono ?_
 rintro e w2 ⟨rfl,A2,c2,a2,t2,k2⟩;have hn2:=(t2.block _ (aae HN1.out) (fun hf=>absurd (HGL.out _ hf) (by omega))).trans HN1.out;obtain⟨⟨d0,d1,d2⟩,_⟩:=aad hn2;have HA2:=hE0 (aaA a2 (o:Int));rw[aiV base HBB.out o (by omega),HX2.out]at HA2;have HS2:=hE0 (afp a2 (by rw[acg _ _ _ (by rw[aag];omega)];omega) x2 o m (by omega) hm2 (by omega) (by omega) (by rw[acg _ _ _ (by rw[aag];omega)];omega));have HAR:=hE0 a2;have HT:=hE0 t2;have HK:=hE0 k2;clear a2 t2 k2 hn2;go_wp2_with fail
 with_reducible refine HA2.out.mono ?_
 rintro e w3 ⟨rfl,rfl⟩;go_wp2_with fail
 with_reducible refine HS2.out.mono ?_
 rintro e w3 ⟨rfl,hbe⟩;have hbe2:=(Became.trans HAR.out HT.out HK.out hbe).after HB1.out;have hbe3:Became 195 g base cap A (ald (ald bs o m) (o+s-8) m) w w3:=by rw[<-HSW.out];exact hbe2
 have HE:=hE0 hbe3;clear hbe hbe2 hbe3;go_wp2
 go_ret
 exact⟨rfl,HE.out⟩
end
theorem avW:awq:=by
 intro w g base cap c A bs o s u y h hb hl ho hs hy;subst hy
 cases hz:aaG s with
 | false=>
  have e:aek bs o s u=none:=by unfold aek;rw[if_neg (fun h=>by rw[hz]at h;cases h.1)]
  rw[e];exact avS w g o s hs u _ rfl (by simp[acf,hz])
 | true=>
  have hss:=(aab _).1 hz;have hm0:acf s u≠0:=by
   simp only[acf,hz,if_true];omega
  have hm2:acf s u<18446744073709551616:=by have:=afX s u;omega
  cases hc:plc o with
  | false=>
   have e:aek bs o s u=none:=by
    unfold aek;rw[if_neg];rintro⟨_,h2⟩;have:=(aa5 _ _ _).1 h2;rw[(agM o).2 (by omega)]at hc
    cases hc
   rw[e];exact avT w g o ho s hs u _ rfl hm0 hc
  | true=>
   have hp:=(agM o).1 hc;by_cases hle:o+s<=bs.length
   · obtain⟨p,rfl⟩:∃p:Nat,o=(p:Int):=⟨o.toNat,by omega⟩;obtain⟨q,rfl⟩:∃q:Nat,s=(q:Int):=⟨s.toNat,by omega⟩;have e:aek bs (p:Int) (q:Int) u=some (ald (ald bs p (acf (q:Int) u)) (p+q-8) (acf (q:Int) u)):=by
      unfold aek;rw[if_pos ⟨hz,(aa5 _ _ _).2 (by omega)⟩,Int.toNat_natCast,show((p:Int)+(q:Int)-8).toNat=p+q-8 by omega]
     rw[e];exact avV h hb hl p q u _ rfl hm2 hm0 hc (by omega) (by omega)
   · have e:aek bs o s u=none:=by
      unfold aek;rw[if_neg];rintro⟨_,h2⟩;have:=(aa5 _ _ _).1 h2;omega
     rw[e];exact avU h hb hl o ho s hs u _ rfl hm2 hm0 hc (by omega) (by omega)
theorem alv:avL:=by
 intro w g base cap c A bs x h hb hl hx;by_cases h0:bs.length<184
 · obtain rfl:none=x:=by rw[<-hx];unfold abI;rw[if_pos h0]
   have HL:=hE0 (abO h);clear hx;go_enter Tryz.func60,Tryz.ntmps60
   go_wp2_with fail
   with_reducible refine HL.out.mono ?_
   rintro e w2 ⟨rfl,rfl⟩;go_wp2
   go_ret2
   exact⟨none,0,rfl,World.ownsRow_nil _ _ _ _,Below.refl _ _⟩
 · have hx':ac8 bs (bs.length+1) 184=x:=by rw[<-hx];unfold abI;rw[if_neg h0]
   obtain⟨i0,hi,hz0,hz1,hz2⟩:=info_parts auQ;have HX:=hE0 hx';have HAR:=hE0 h;have HBASE:=hE0 hb;have HL:=hE0 (abO h);obtain⟨B0,hB0⟩:=nmE w.heap.size;have HB0:=hE0 hB0;clear hx hx' h hB0 hb;go_enter Tryz.func60,Tryz.ntmps60
   go_wp2_with fail
   with_reducible refine HL.out.mono ?_
   rintro e w2 ⟨rfl,rfl⟩;go_wp2
   go_loopw [4,5] (fun q t wr=>∃(l:List Bk) (o k:Nat),t= .int .i64 (o:Int)/\184<=o/\o<=bs.length/\bs.length<o+k/\l.length*32<=o/\x=(ac8 bs k o).map (l++ ·)/\wr.ownsRow B0 112 3 q l.length (acW l)/\Below B0 w wr) (fun _ t _=>bs.length-(intOf t).toNat)
   case atStart=>exact⟨[],184,bs.length+1,rfl,Nat.le_refl _,by omega,by omega,by simp,by rw[HX.out];simp,World.ownsRow_nil _ _ _ _,Below.refl _ _⟩
   case round=>
    obtain⟨l,o,k,rfl,ho1,ho2,hk,hll,hxl,hown,hb⟩:=hrel;obtain⟨A7,c7,rfl⟩:=adY hown;obtain⟨k,rfl⟩:∃k',k=k'+1:=⟨k-1,by omega⟩;have hBw:B0<=wr.heap.size:=by have:=hb.size;have:=HB0.out;omega
    have har:=HAR.out.below (by rw[HB0.out];exact hb);have HLR:=hE0 (abO har);by_cases hlt:o<bs.length
    · cases hg:aa8 bs (o:Int)with
      | none=>
       have hG:=alu wr g base cap c A bs (o:Int) _ har HBASE.out hl (by omega) hg;dsimp only[aaE,bkV,Option.isSome,aav]at hG;obtain rfl:x=none:=by rw[hxl];simp[ac8,hlt,hg]
       have HG:=hE0 hG;have HB:=hE0 hb;clear hG hown hb hg hxl har HX HAR;go_wp2_with fail
       with_reducible refine HLR.out.mono ?_
       rintro e w2 ⟨rfl,rfl⟩;go_wp2_with fail
       with_reducible refine HG.out.mono ?_
       rintro e w2 ⟨rfl,hb2⟩;have HB2:=hE0 (HB.out.trans (hb2.mono hBw));clear hb2;go_wp2
       go_ret2
       exact⟨none,0,rfl,World.ownsRow_nil _ _ _ _,by rw[HB0.out];exact HB2.out.alloc (by have:=HB2.out.size;have:=HB0.out;omega) _⟩
      | some y=>
       obtain⟨yo,ys,yu⟩:=y;obtain⟨q1,_,_,q2,q3,_⟩:=aay hg;dsimp only at q1 q2 q3;obtain rfl:o=yo:=by omega
       have q4:=(aab _).1 q3;have hG:=alu wr g base cap c A bs (o:Int) _ har HBASE.out hl (by omega) hg;dsimp only[aaE,bkV,Bk.val,Option.isSome,aav]at hG;have hxl':x=(ac8 bs k (o+ys)).map ((l++ [⟨o,ys,yu⟩])++ ·):=by
        rw[hxl];simp[ac8,hlt,hg,Option.map_map,Function.comp_def]
       have HG:=hE0 hG;have HB:=hE0 hb;have HXL:=hE0 hxl';have HOWN:=hE0 hown;have HALT:Hid (∀k,(Value.slice A7 l.length c7).ownBlock=some k->B0<=k/\k<wr.heap.size):=hown.lt;clear hG hown hb hg hxl hxl' har q1 q3 HX HAR;go_wp2_with fail
       with_reducible refine HLR.out.mono ?_
       rintro e w2 ⟨rfl,rfl⟩;go_wp2_with fail
       with_reducible refine HG.out.mono ?_
       rintro e w2 ⟨rfl,hb2⟩;have own2:=aaw HOWN.out hb2;have HB2:=hE0 (HB.out.trans (hb2.mono hBw));have hw2:B0<=w2.heap.size:=Nat.le_trans hBw hb2.size;have hwr:=hb2.size;obtain⟨w3,hw3⟩:=nmE (w2.alloc (.cells #[.int .i64 (o:Int), .int .i64 (ys:Int), .bool yu] 112));obtain⟨w4,hw4⟩:=nmE (w3.alloc (.cells #[.int .i64 (o:Int), .int .i64 (ys:Int), .bool yu] 112));have b3:=abE hw3;have b4:=abE hw4;have own4:=aaw (aaw own2 b3) b4;have n4:=anE hw4;have s3:w3.heap.size=w2.heap.size+1:=by rw[<-hw3];simp
       have n3:=anE hw3;obtain⟨⟨d0,d1,d2⟩,_⟩:=aad n3;have n4':=(b4.block _ (aac n3)).trans n3;have HNEW:Hid (∀j u,[Value.int .i64 (o:Int), .int .i64 (ys:Int), .bool yu][j]?=some u->w4.cell? ((⟨w3.heap.size,0,none⟩:Addr).add j)=some u):=fun j u hu=>by
        have e:(⟨w3.heap.size,0,none⟩:Addr).add j=⟨w3.heap.size,j,none⟩:=by unfold Addr.add;split<;>simp_all
        rw[e,cell_of_row w4 _ j _ _ (0,0) n4];simpa using hu
       have HONE:Hid (∀u∈ [Value.int .i64 (o:Int), .int .i64 (ys:Int), .bool yu],u.oneCell'=true):=fun u hu=>by
        simp at hu;rcases hu with rfl | rfl | rfl<;>rfl
       have hB4:B0<=w4.heap.size:=by have:=b4.size;omega
       have HB4:=hE0 (HB2.out.trans ((b3.trans (b4.mono b3.size)).mono hw2));have OWN4:=hE0 own4;have HN4:=hE0 n4';have hs4:w3.heap.size<w4.heap.size:=aac n4;have HS3:=hE0 s3;have HFL:Hid (acW (l++ [⟨o,ys,yu⟩])=acW l++ [.int .i64 (o:Int), .int .i64 (ys:Int), .bool yu]):=ajS _ _;have hg2:w2.heap.size<w4.heap.size:=aac n4';clear own2 own4 n3 n4 n4' b3 b4 hb2 HOWN HG s3;go_wp2_with (first
        | (at_builtin;go_must (refine wpList_append_own _ rfl _ _ 56 rfl B0 112 i0 _ 3 24 Tryz.underlying56 hi hz0 hz1 hz2 rfl (by decide) _ l.length (acW l) rfl OWN4.out ⟨w3.heap.size,0,none⟩ 1 1 [.int .i64 (o:Int), .int .i64 (ys:Int), .bool yu] rfl rfl HNEW.out HONE.out (by unfold maxLen;omega) (by omega) hB4 ?_);intro x5 w5 own5 gr5 at5
           have gr5':w4.grownBy w5 (Value.slice A7 l.length c7).ownBlock:=gr5;have e5:=(gr5'.block _ hg2 (fun e=>by have:=(HALT.out _ e.symm).2;omega)).trans HN4.out;obtain⟨⟨c0,c1,c2⟩,_⟩:=aad e5;have HB5:Hid (Below B0 w w5):=HB4.out.grown gr5' hB4 (fun k hk=>(HALT.out k hk).1);have OWN5:Hid (w5.ownsRow B0 112 3 x5 (l.length+1) (acW (l++ [⟨o,ys,yu⟩]))):=(show World.ownsRow _ _ _ _ _ _ _ by rw[HFL.out];exact own5);clear own5 gr5 gr5' at5 e5)
        | fail)
       go_roundw
       case rel=>exact⟨l++ [⟨o,ys,yu⟩],o+ys,k,by go_num,by omega,by omega,by omega,by rw[List.length_append,List.length_singleton];omega,HXL.out,by rw[List.length_append,List.length_singleton];exact OWN5.out,HB5.out⟩
       case measure=>simp[intOf];omega
    · obtain rfl:o=bs.length:=by omega
      obtain rfl:x=some l:=by rw[hxl];simp[ac8]
      have HB:=hE0 hb;have HO:=hE0 hown;clear hxl hown hb HX har HAR;go_wp2_with fail
      with_reducible refine HLR.out.mono ?_
      rintro e w2 ⟨rfl,rfl⟩;go_wp2
      go_ret2
      exact⟨A7,c7,rfl,by rw[HB0.out];exact HO.out,by rw[HB0.out];exact HB.out⟩
structure St (wB W:World) (g base cap:Nat) (A:Option Addr) (c:Nat) (bs:List UInt8) (L:List (Nat × Obj)):Prop where
 bel:Below wB.heap.size wB W
 ar:Ar W 195 g base cap A c bs
 gB:wB.heap.size<=g
 aB:∀a,A=some a->wB.heap.size<=a.block
 has:∀p∈L,W.heap[p.1]?=some p.2
section
variable {wB W W':World} {g base cap c:Nat} {A:Option Addr} {bs:List UInt8} {L:List (Nat × Obj)}
theorem St.size (h:St wB W g base cap A c bs L):wB.heap.size<=W.heap.size:=h.bel.size
theorem St.below (h:St wB W g base cap A c bs L) (hb:Below W.heap.size W W'):St wB W' g base cap A c bs L:=
 ⟨h.bel.trans (hb.mono h.size),h.ar.below hb,h.gB,h.aB,fun p hp=>(hb.block p.1 (aae (h.has p hp))).trans (h.has p hp)⟩
theorem St.became{out:List UInt8}(h:St wB W g base cap A c bs L) (hb:Became 195 g base cap A out W W'):∃A' c',St wB W' g base cap A' c' out []:=by
 obtain⟨A',c',har,hbl,hA⟩:=hb.below (B:=wB.heap.size) h.gB h.aB h.size;exact⟨A',c',h.bel.trans hbl,har,h.gB,hA,fun p hp=>by cases hp⟩
end
section
variable {P:Program} {ops:Array Oper} {Q:Exit->Act->World->Prop}
end
theorem akc (ρ:Operand->Value) (o:Oper) (ho:o.op= .alloc 112) (w:World):
 (execOp ρ o).run Tryz.prog w= .ok (.value (.pointer (some ⟨w.heap.size,0,none⟩))) (w.alloc (.cells #[.int .i64 0, .int .i64 0, .bool false] 112)):=by
 unfold execOp;simp only[ho];simp[go_sem]
theorem apH (ρ:Operand->Value) (o:Oper) (x y:Operand) (ho:o.op= .store 112 x y) (w:World) (gx:Nat) (p q:Int) (r:Bool) (v0 v1 v2:Value) (hx:ρ x= .pointer (some ⟨gx,0,none⟩)) (hy:ρ y= .agg #[.int .i64 p, .int .i64 q, .bool r]) (h:w.heap[gx]?=some (.cells #[v0,v1,v2] 112 (0,0))):
 (execOp ρ o).run Tryz.prog w= .ok .skip (((w.setCell ⟨gx,0,none⟩ (.int .i64 p)).setCell ⟨gx,1,none⟩ (.int .i64 q)).setCell ⟨gx,2,none⟩ (.bool r)):=by
 obtain⟨⟨e0,e1,e2⟩,f0,f1,f2⟩:=aad h;unfold execOp;simp only[ho,hx,hy];simp[go_sem,e0,e1,e2,f0,f1,f2]
section
variable {wB W:World} {g base cap c:Nat} {A:Option Addr} {bs:List UInt8} {L:List (Nat × Obj)}
end
def afb (x:Option (List Nat)) (k:Int) (w:World) (e:Ending) (w':World):Prop:=
 ∃A' c',e= .returned (.tuple #[.slice A' (x.getD []).length c',aav x.isSome k])/\w'.ownsRow w.heap.size 3 1 (.slice A' (x.getD []).length c') (x.getD []).length ((x.getD []).map iV)/\Below w.heap.size w w'
def awr:Prop:=∀(w:World) (g base cap c:Nat) (A:Option Addr) (bs:List UInt8) (o:Int) (y:Option (List UInt8)),Ar w 195 g base cap A c bs->base<=4611686018427387904->bs.length<=16384->(-9223372036854775808<=o/\o<=9223372036854775807)->ahH bs o=y->
 Calls Tryz.prog 174 #[.pointer (some ⟨g,0,none⟩), .int .i64 o] w fun e w'=>apD 3 195 g base cap A y w e w'
def avX:Prop:=∀(w:World) (g base cap c:Nat) (A:Option Addr) (bs:List UInt8) (o:Int) (y:Option (List UInt8)),Ar w 195 g base cap A c bs->base<=4611686018427387904->bs.length<=16384->(-9223372036854775808<=o/\o<=9223372036854775807)->aeB bs o=y->
 Calls Tryz.prog 271 #[.pointer (some ⟨g,0,none⟩), .int .i64 o] w fun e w'=>apD 3 195 g base cap A y w e w'
def aws:Prop:=∀(w:World) (g base cap c:Nat) (A:Option Addr) (bs:List UInt8) (k:Nat) (x:Option (List Nat)),Ar w 195 g base cap A c bs->base<=4611686018427387904->bs.length<=16384->k<22->afH bs k=x->
 Calls Tryz.prog 102 #[.pointer (some ⟨g,0,none⟩), .int .i64 (k:Int)] w fun e w'=>afb x 3 w e w'
theorem atM{a b:Int}(h:a=b):Ending.returned (.int .u64 a)= .returned (.int .u64 b):=by rw[h]
theorem agP{t:TypeId}{g base cap:Nat}{A:Option Addr}{b1 b2:List UInt8}{w w1:World}{F:Nat}{args:Array Value}{r:Ending}(h:Became t g base cap A b1 w w1)
 (hc:∀A' c',Ar w1 t g base cap A' c' b1->Calls Tryz.prog F args w1 fun e w2=>e=r/\Became t g base cap A' b2 w1 w2):Calls Tryz.prog F args w1 fun e w2=>e=r/\Became t g base cap A b2 w w2:=by
 obtain⟨A',c',a,tc,k⟩:=h;refine(hc A' c' a).mono ?_;rintro e w2 ⟨h1,h2⟩;exact⟨h1,Became.trans a tc k h2⟩
section
variable {w:World} {g base cap c:Nat} {A:Option Addr} {bs:List UInt8}
theorem aai (h:Ar w 195 g base cap A c bs) (hb:base<=4611686018427387904) (hl:bs.length<=16384) (o:Int) (p:Nat) (hp:o=(p:Int)) (ho:p+8<=bs.length) (v:Nat) (hv:aaf bs p=v):
 Calls Tryz.prog 164 #[.pointer (some ⟨g,0,none⟩), .int .i64 o] w fun e w'=>e= .returned (.int .u64 (v:Int))/\w=w':=by
 subst hp;have HA:=hE0 (acj h);have hwd:=abR h hb hl (p:Int) (by omega) (some v) (by unfold word?;rw[if_pos (by omega),Int.toNat_natCast,hv]);dsimp only[wdV]at hwd;rw[aiV base hb p (by omega),show((base+p:Nat):Int)=(base:Int)+(p:Int) by omega]at hwd;have HW:=hE0 hwd;have hp2:p<=16384:=by omega
 clear hwd h hv ho hl;go_enter Tryz.func164,Tryz.ntmps164
 go_wp2_with fail
 with_reducible refine HA.out.mono ?_
 rintro e w1 ⟨rfl,rfl⟩;go_wp2_with fail
 refine HW.out.mono ?_;rintro e w1 ⟨rfl,rfl⟩;go_wp2
 go_ret
 exact⟨rfl,rfl⟩
theorem aiW (h:Ar w 195 g base cap A c bs) (hb:base<=4611686018427387904) (hl:bs.length<=16384) (o:Int) (p:Nat) (hp:o=(p:Int)) (ho:p+8<=bs.length) (v:Nat) (hv:v<18446744073709551616):
 Calls Tryz.prog 228 #[.pointer (some ⟨g,0,none⟩), .int .i64 o, .int .u64 (v:Int)] w fun e w'=>e= .returned (.tuple #[])/\Became 195 g base cap A (lyN bs p v) w w':=by
 subst hp;have HA:=hE0 (acj h);have hwd:=afp h (by omega) (base+p) p v (by omega) hv (by omega) (by omega) ho;rw[show lay bs p (aaJ 8 v)=lyN bs p v from aiP bs p v,show((base+p:Nat):Int)=(base:Int)+(p:Int) by omega]at hwd;have HW:=hE0 hwd;have hp2:p<=16384:=by omega
 clear hwd h ho hl;go_enter Tryz.func228,Tryz.ntmps228
 go_wp2_with fail
 with_reducible refine HA.out.mono ?_
 rintro e w1 ⟨rfl,rfl⟩;go_wp2_with fail
 refine HW.out.mono ?_;rintro e w1 ⟨rfl,hbe⟩;have HB:=hE0 hbe;clear hbe;go_wp2
 go_end0
 exact⟨rfl,HB.out⟩
theorem aaI (w:World) (k:Nat) (hk:k<22):
 Calls Tryz.prog 165 #[.int .i64 (k:Int)] w fun e w'=>e= .returned (.int .i64 (8+8*(k:Int)))/\w=w':=by
 go_enter Tryz.func165,Tryz.ntmps165
 go_wp2
 go_ret
 exact⟨rfl,rfl⟩
theorem aiX (w:World) (k:Nat) (hk:k<22):
 Calls Tryz.prog 223 #[.int .i64 (k:Int)] w fun e w'=>e= .returned (.int .u64 ((2^k:Nat):Int))/\w=w':=by
 have HP:=hE0 (ala k hk);go_enter Tryz.func223,Tryz.ntmps223
 go_wp2
 go_ret
 refine⟨atM ?_,rfl⟩;have hq:=HP.out;have e:(2:Int)^k=((2^k:Nat):Int):=by rw[Int.natCast_pow];rfl
 rw[IntKind.wrap_u64,e];clear e HP;generalize 2^k=q at hq;omega
end
section
variable {w:World} {g base cap c:Nat} {A:Option Addr} {bs:List UInt8}
theorem aiY (h:Ar w 195 g base cap A c bs) (hb:base<=4611686018427387904) (hl:bs.length<=16384) (o:Int) (ho: -9223372036854775808<=o/\o<=9223372036854775807) (hk:aa2 bs o<0):
 Calls Tryz.prog 227 #[.pointer (some ⟨g,0,none⟩), .int .i64 o] w fun e w'=>e= .returned (.tuple #[.int .i64 0, .bool false])/\Below w.heap.size w w':=by
 cases hg:aa8 bs o with
 | none=>
  have hG:=alu w g base cap c A bs o _ h hb hl ho hg;dsimp only[aaE,bkV,Option.isSome,aav]at hG;have HG:=hE0 hG;clear hG h hk hg;go_enter Tryz.func227,Tryz.ntmps227
  go_wp2_with fail
  with_reducible refine HG.out.mono ?_
  rintro e w1 ⟨rfl,hb⟩;go_wp2
  go_ret2
  exact⟨rfl,hb.alloc hb.size _⟩
 | some x=>
  obtain⟨xo,xs,xu⟩:=x;have hG:=alu w g base cap c A bs o _ h hb hl ho hg;dsimp only[aaE,bkV,Bk.val,Option.isSome,aav]at hG;have q3:=(aay hg).2.2.2.2.1;dsimp only at q3;have q:=(aab _).1 q3
  cases xu with
  | true=>
   have HG:=hE0 hG;clear hG h hk hg q3;go_enter Tryz.func227,Tryz.ntmps227
   go_wp2_with fail
   with_reducible refine HG.out.mono ?_
   rintro e w1 ⟨rfl,hb⟩;go_wp2
   go_ret2
   exact⟨rfl,hb.alloc hb.size _⟩
  | false=>
   obtain⟨d,hd,_⟩:=abz (x:=⟨xo,xs,false⟩) q3;dsimp only at hd;unfold aa2 at hk;rw[hg]at hk;dsimp only at hk;rw[hd]at hk;simp at hk;omega
theorem aa0 (h:Ar w 195 g base cap A c bs) (hb:base<=4611686018427387904) (hl:bs.length<=16384) (o:Int) (ho: -9223372036854775808<=o/\o<=9223372036854775807) (k:Nat) (hk:aa2 bs o=(k:Int)):
 Calls Tryz.prog 227 #[.pointer (some ⟨g,0,none⟩), .int .i64 o] w fun e w'=>e= .returned (.tuple #[.int .i64 (k:Int), .bool true])/\Below w.heap.size w w':=by
 cases hg:aa8 bs o with
 | none=>unfold aa2 at hk;rw[hg]at hk;dsimp only at hk;omega
 | some x=>
  obtain⟨xo,xs,xu⟩:=x;have hG:=alu w g base cap c A bs o _ h hb hl ho hg;dsimp only[aaE,bkV,Bk.val,Option.isSome,aav]at hG;have q:=(aab _).1 (aay hg).2.2.2.2.1;dsimp only at q
  cases xu with
  | true=>unfold aa2 at hk;rw[hg]at hk;simp at hk
  | false=>
   have hk':aaq (xs:Int)=(k:Int):=by rw[<-hk];unfold aa2;rw[hg];rfl
   have HC:=hE0 (fun w=>ajV w (xs:Int) (by omega));rw[hk']at HC;have HG:=hE0 hG;clear hG h hk hg hk';go_enter Tryz.func227,Tryz.ntmps227
   go_wp2_with fail
   with_reducible refine HG.out.mono ?_
   rintro e w1 ⟨rfl,hb⟩;go_wp2_with fail
   with_reducible refine(HC.out _).mono ?_
   rintro e w2 ⟨rfl,hb2⟩;have hb3:=hb.alloc hb.size (.cells #[.int .i64 (xo:Int), .int .i64 (xs:Int), .bool false] 112);have HB:=hE0 (hb3.trans (hb2.mono hb3.size));clear hb hb2 hb3;go_wp2
   go_ret2
   exact⟨rfl,HB.out⟩
theorem adz (h:Ar w 195 g base cap A c bs) (hb:base<=4611686018427387904) (hl:bs.length<=16384) (k p:Nat) (hk:k<22) (hp:p<18446744073709551616) (b:Bool) (hm:aap bs p (k:Int)=b):
 Calls Tryz.prog 224 #[.pointer (some ⟨g,0,none⟩), .int .i64 (k:Int), .int .u64 (p:Int)] w fun e w'=>e= .returned (.bool b)/\Below w.heap.size w w':=by
 have HL:=hE0 (abO h);by_cases h0:bs.length<=p
 · obtain rfl:false=b:=by
    rw[<-hm]
    cases hq:aap bs p (k:Int)with
    | true=>have:=aaN hq;omega
    | false=>rfl
   clear hm h;go_enter Tryz.func224,Tryz.ntmps224
   go_wp2_with fail
   with_reducible refine HL.out.mono ?_
   rintro e w1 ⟨rfl,rfl⟩;go_wp2
   go_ret
   exact⟨rfl,Below.refl _ _⟩
 · have h1:p<bs.length:=by omega
   rw[ajJ,decide_eq_true (by omega),Bool.true_and]at hm;rcases aeC bs (p:Int)with hf | ⟨j,hf⟩
   · obtain rfl:false=b:=by rw[<-hm];exact(beq_eq_false_iff_ne.2 (by omega)).symm
     have HF:=hE0 (aiY h hb hl (p:Int) (by omega) hf);clear hm h hf;go_enter Tryz.func224,Tryz.ntmps224
     go_wp2_with fail
     with_reducible refine HL.out.mono ?_
     rintro e w1 ⟨rfl,rfl⟩;go_wp2_with fail
     with_reducible refine HF.out.mono ?_
     rintro e w1 ⟨rfl,hb1⟩;have HB:=hE0 hb1;clear hb1;go_wp2
     go_ret
     exact⟨rfl,HB.out⟩
   · have HF:=hE0 (aa0 h hb hl (p:Int) (by omega) j hf);rw[hf]at hm;have HM:=hE0 hm;have hj:=(aa6 hf).2.2;clear hm h hf;go_enter Tryz.func224,Tryz.ntmps224
     go_wp2_with fail
     with_reducible refine HL.out.mono ?_
     rintro e w1 ⟨rfl,rfl⟩;go_wp2_with fail
     with_reducible refine HF.out.mono ?_
     rintro e w1 ⟨rfl,hb1⟩;have HB:=hE0 hb1;clear hb1;go_wp2
     go_ret
     exact⟨asW HM.out,HB.out⟩
theorem abF (h:Ar w 195 g base cap A c bs) (hb:base<=4611686018427387904) (hl:bs.length<=16384) (k p q u:Nat) (hk:k<22) (hp:p<18446744073709551616) (hq:q<=16) (b:Bool) (hm:abr bs k p q u=b):
 Calls Tryz.prog 167 #[.pointer (some ⟨g,0,none⟩), .int .i64 (k:Int), .int .u64 (p:Int), .int .i64 (q:Int), .int .u64 (u:Int)] w fun e w'=>e= .returned (.bool b)/\Below w.heap.size w w':=by
 unfold abr at hm
 cases hmb:aap bs p (k:Int)with
 | false=>
  rw[hmb]at hm;obtain rfl:false=b:=hm;have HM:=hE0 (adz h hb hl k p hk hp false hmb);clear hmb h;go_enter Tryz.func167,Tryz.ntmps167
  go_wp2_with fail
  with_reducible refine HM.out.mono ?_
  rintro e w1 ⟨rfl,hb1⟩;have HB:=hE0 hb1;clear hb1;go_wp2
  go_ret
  exact⟨rfl,HB.out⟩
 | true=>
  have hin:=aaN hmb;obtain⟨v,hv⟩:=nmE (aaf bs (p+q));have hvl:v<18446744073709551616:=by rw[<-hv];exact aan _ _
  rw[hmb,hv,Bool.true_and]at hm;have hm2:((v:Int)==(u:Int))=b:=by rw[<-hm,Bool.eq_iff_iff,beq_iff_eq,beq_iff_eq];omega
  have HM:=hE0 (adz h hb hl k p hk hp true hmb);have HN:=hE0 (fun w1 (hb1:Below w.heap.size w w1)=>aai (h.below hb1) hb hl ((p:Int)+(q:Int)) (p+q) (by omega) (by omega) v hv);have HV:=hE0 hm2;clear hmb h hm hm2 hv;go_enter Tryz.func167,Tryz.ntmps167
  go_wp2_with fail
  with_reducible refine HM.out.mono ?_
  rintro e w1 ⟨rfl,hb1⟩;have HB:=hE0 hb1;clear hb1;go_wp2_with fail
  refine(HN.out _ HB.out).mono ?_;rintro e w2 ⟨rfl,rfl⟩;go_wp2
  go_ret
  exact⟨asW HV.out,HB.out⟩
theorem alw (h:Ar w 195 g base cap A c bs) (hb:base<=4611686018427387904) (hl:bs.length<=16384) (hl2:184<=bs.length) (k:Nat) (hk:k<22) (b:Bool) (hm:acC (aaf bs 0) k=b):
 Calls Tryz.prog 166 #[.pointer (some ⟨g,0,none⟩), .int .i64 (k:Int)] w fun e w'=>e= .returned (.bool b)/\w=w':=by
 obtain⟨v,hv⟩:=nmE (aaf bs 0);have hvl:v<18446744073709551616:=by rw[<-hv];exact aan _ _
 have HN:=hE0 (aai h hb hl 0 0 rfl (by omega) v hv);rw[hv]at hm;have HV:=hE0 ((att v k hvl hk).trans hm);have HT:=hE0 (aiX w k hk);obtain⟨m,hm2⟩:=nmE (2^k);have hml:m<=2097152:=by rw[<-hm2];exact ala k hk
 rw[hm2]at HV HT;clear hm hv h hm2;go_enter Tryz.func166,Tryz.ntmps166
 go_wp2_with fail
 with_reducible refine HN.out.mono ?_
 rintro e w1 ⟨rfl,rfl⟩;go_wp2_with fail
 with_reducible refine HT.out.mono ?_
 rintro e w1 ⟨rfl,rfl⟩;go_wp2
 go_ret
 exact⟨asW HV.out,rfl⟩
end
section
variable {w w1:World} {g base cap c:Nat} {A:Option Addr} {bs b1:List UInt8}
theorem abt (h:Ar w 195 g base cap A c bs) (hb:Below w.heap.size w w1):Became 195 g base cap A bs w w1:=⟨A,c,h.below hb,Tch.of_below hb, .inl rfl⟩
theorem aaS (h:Became 195 g base cap A b1 w w1) (hb:base<=4611686018427387904) (hl:b1.length<=16384) (o:Int) (p:Nat) (hp:o=(p:Int)) (ho:p+8<=b1.length) (v:Nat) (hv:v<18446744073709551616):
 Calls Tryz.prog 228 #[.pointer (some ⟨g,0,none⟩), .int .i64 o, .int .u64 (v:Int)] w1 fun e w2=>e= .returned (.tuple #[])/\Became 195 g base cap A (lyN b1 p v) w w2:=
 agP h fun _ _ a=>aiW a hb hl o p hp ho v hv
theorem ahY (h:Became 195 g base cap A b1 w w1) (hb:base<=4611686018427387904) (hl:b1.length<=16384) (o:Int) (p:Nat) (hp:o=(p:Int)) (ho:p+8<=b1.length) (v:Nat) (hv:aaf b1 p=v):
 Calls Tryz.prog 164 #[.pointer (some ⟨g,0,none⟩), .int .i64 o] w1 fun e w2=>e= .returned (.int .u64 (v:Int))/\w1=w2:=by
 obtain⟨_,_,a,_,_⟩:=h;exact aai a hb hl o p hp ho v hv
theorem akd (h:Ar w 195 g base cap A c bs) (hb:base<=4611686018427387904) (n:Nat) (hn:bs.length=n) (hl:n<=16384) (hl2:184<=n) (k:Nat) (hk:k<22):
 Calls Tryz.prog 229 #[.pointer (some ⟨g,0,none⟩), .int .i64 (k:Int), .int .u64 0] w fun e w'=>e= .returned (.tuple #[])/\Became 195 g base cap A (abJ (lyN bs (8+8*k) 0) k) w w':=by
 obtain⟨b1,hb1⟩:=nmE (lyN bs (8+8*k) 0);have hbl:b1.length=n:=by rw[<-hb1,aah _ _ _ (by omega)];exact hn
 have hw1:aaf b1 (8+8*k)=0:=by rw[<-hb1];exact abC _ _ _ (by omega) (by omega)
 obtain⟨v0,hv0⟩:=nmE (aaf b1 0);have hvl:v0<18446744073709551616:=by rw[<-hv0];exact aan _ _
 obtain⟨m,hm⟩:=nmE (2^k);have hml:m<=2097152:=by rw[<-hm];exact ala k hk
 obtain⟨x,hx⟩:=nmE (aeT v0 k false);have hxl:x<18446744073709551616:=by rw[<-hx];exact aiH v0 k hk hvl false
 have hand:bits .andNot .u64 (v0:Int) (m:Int)=(x:Int):=by rw[<-hm,<-hx];exact ahJ v0 k hvl hk
 have hmk:abJ b1 k=lyN b1 0 x:=by rw[amq b1 k (by omega),hw1,hv0];simpa using congrArg (lyN b1 0) hx
 have HS1:=aiW h hb (by omega) (8+8*(k:Int)) (8+8*k) (by omega) (by omega) 0 (by omega);rw[hb1]at HS1 ⊢;rw[hmk];have HS1:=hE0 HS1;have HF:=hE0 (aaI w k hk);have HT:=fun W=>aiX W k hk;rw[hm]at HT;have HT:=hE0 HT;have HN:=hE0 (fun W (hB:Became 195 g base cap A b1 w W)=>ahY hB hb (by omega) 0 0 rfl (by omega) v0 hv0);have HS2:=hE0 (fun W (hB:Became 195 g base cap A b1 w W)=>aaS hB hb (by omega) 0 0 rfl (by omega) x hxl);clear h hb1 hw1 hv0 hm hx hmk hn hbl;go_enter Tryz.func229,Tryz.ntmps229
 go_wp2_with fail
 with_reducible refine HF.out.mono ?_
 rintro e w2 ⟨rfl,rfl⟩;go_wp2_with fail
 refine HS1.out.mono ?_;rintro e w2 ⟨rfl,be1⟩;have B1:=hE0 be1;clear be1;go_wp2_with fail
 refine(HN.out _ B1.out).mono ?_;rintro e w3 ⟨rfl,rfl⟩;go_wp2_with fail
 with_reducible refine(HT.out _).mono ?_
 rintro e w3 ⟨rfl,rfl⟩;go_wp2_with fail
 refine(HS2.out _ B1.out).mono ?_;rintro e w3 ⟨rfl,be2⟩;have B2:=hE0 be2;clear be2;go_wp2
 go_end0
 exact⟨rfl,B2.out⟩
theorem aiZ (h:Ar w 195 g base cap A c bs) (hb:base<=4611686018427387904) (n:Nat) (hn:bs.length=n) (hl:n<=16384) (hl2:184<=n) (k:Nat) (hk:k<22) (v:Nat) (hv:v<18446744073709551616) (hv0:v≠0):
 Calls Tryz.prog 229 #[.pointer (some ⟨g,0,none⟩), .int .i64 (k:Int), .int .u64 (v:Int)] w fun e w'=>e= .returned (.tuple #[])/\Became 195 g base cap A (abJ (lyN bs (8+8*k) v) k) w w':=by
 obtain⟨b1,hb1⟩:=nmE (lyN bs (8+8*k) v);have hbl:b1.length=n:=by rw[<-hb1,aah _ _ _ (by omega)];exact hn
 have hw1:aaf b1 (8+8*k)=v:=by rw[<-hb1];exact abC _ _ _ (by omega) (by omega)
 obtain⟨v1,hv1⟩:=nmE (aaf b1 0);have hvl:v1<18446744073709551616:=by rw[<-hv1];exact aan _ _
 obtain⟨m,hm⟩:=nmE (2^k);have hml:m<=2097152:=by rw[<-hm];exact ala k hk
 obtain⟨x,hx⟩:=nmE (aeT v1 k false);obtain⟨y,hy⟩:=nmE (aeT v1 k true);have hxl:x<18446744073709551616:=by rw[<-hx];exact aiH v1 k hk hvl false
 have hyl:y<18446744073709551616:=by rw[<-hy];exact aiH v1 k hk hvl true
 have hand:bits .andNot .u64 (v1:Int) (m:Int)=(x:Int):=by rw[<-hm,<-hx];exact ahJ v1 k hvl hk
 have hor:bits .or .u64 (x:Int) (m:Int)=(y:Int):=by
  rw[<-hy,aru,hx,<-hm];exact auO x k hxl hk (by rw[<-hx];exact aoQ v1 k)
 have hmk:abJ b1 k=lyN b1 0 y:=by rw[amq b1 k (by omega),hw1,hv1,decide_eq_true hv0,hy]
 have hne:((v:Int) !=0)=true:=by rw[bne_iff_ne];omega
 have HS1:=aiW h hb (by omega) (8+8*(k:Int)) (8+8*k) (by omega) (by omega) v hv;rw[hb1]at HS1 ⊢;rw[hmk];have HS1:=hE0 HS1;have HF:=hE0 (aaI w k hk);have HT:=fun W=>aiX W k hk;rw[hm]at HT;have HT:=hE0 HT;have HN:=hE0 (fun W (hB:Became 195 g base cap A b1 w W)=>ahY hB hb (by omega) 0 0 rfl (by omega) v1 hv1);have HS2:=hE0 (fun W (hB:Became 195 g base cap A b1 w W)=>aaS hB hb (by omega) 0 0 rfl (by omega) y hyl);clear h hb1 hw1 hv1 hm hx hy hmk hn hbl;go_enter Tryz.func229,Tryz.ntmps229
 go_wp2_with fail
 with_reducible refine HF.out.mono ?_
 rintro e w2 ⟨rfl,rfl⟩;go_wp2_with fail
 refine HS1.out.mono ?_;rintro e w2 ⟨rfl,be1⟩;have B1:=hE0 be1;clear be1;go_wp2_with fail
 refine(HN.out _ B1.out).mono ?_;rintro e w3 ⟨rfl,rfl⟩;go_wp2_with fail
 with_reducible refine(HT.out _).mono ?_
 rintro e w3 ⟨rfl,rfl⟩;go_wp2_with fail
 with_reducible refine(HT.out _).mono ?_
 rintro e w3 ⟨rfl,rfl⟩;go_wp2_with fail
 refine(HS2.out _ B1.out).mono ?_;rintro e w3 ⟨rfl,be2⟩;have B2:=hE0 be2;clear be2;go_wp2
 go_end0
 exact⟨rfl,B2.out⟩
theorem abi (h:Became 195 g base cap A b1 w w1) (hb:base<=4611686018427387904) (n:Nat) (hn:b1.length=n) (hl:n<=16384) (hl2:184<=n) (k:Nat) (hk:k<22) (v:Nat) (hv:v<18446744073709551616):
 Calls Tryz.prog 229 #[.pointer (some ⟨g,0,none⟩), .int .i64 (k:Int), .int .u64 (v:Int)] w1 fun e w2=>e= .returned (.tuple #[])/\Became 195 g base cap A (abJ (lyN b1 (8+8*k) v) k) w w2:=by
 refine agP h fun _ _ a=> ?_;by_cases h0:v=0
 · subst h0;exact akd a hb n hn hl hl2 k hk
 · exact aiZ a hb n hn hl hl2 k hk v hv h0
end
section
variable {w:World} {g base cap c:Nat} {A:Option Addr} {bs:List UInt8}
theorem atN (h:Ar w 195 g base cap A c bs) (hb:base<=4611686018427387904) (n:Nat) (hn:bs.length=n) (hl:n<=16384) (o:Int) (ho: -9223372036854775808<=o/\o<=9223372036854775807) (hk:aa2 bs o<0):
 Calls Tryz.prog 174 #[.pointer (some ⟨g,0,none⟩), .int .i64 o] w fun e w'=>e= .returned (aav false 3)/\Below w.heap.size w w':=by
 have HF:=hE0 (aiY h hb (by omega) o ho hk);clear h hk hn;go_enter Tryz.func174,Tryz.ntmps174
 go_wp2_with fail
 with_reducible refine HF.out.mono ?_
 rintro e w1 ⟨rfl,hb1⟩;have HB:=hE0 hb1;clear hb1;go_wp2
 go_ret
 exact⟨rfl,HB.out⟩
theorem apI (h:Ar w 195 g base cap A c bs) (hb:base<=4611686018427387904) (n:Nat) (hn:bs.length=n) (hl:n<=16384) (p k f:Nat) (hk:aa2 bs (p:Int)=(k:Int)) (hf:aaf bs (8+8*k)=f) (hfp:f=p):
 Calls Tryz.prog 174 #[.pointer (some ⟨g,0,none⟩), .int .i64 (p:Int)] w fun e w'=>e= .returned (aav false 3)/\Below w.heap.size w w':=by
 obtain⟨p184,p32,k22⟩:=aa6 hk;have hfl:f<18446744073709551616:=by rw[<-hf];exact aan _ _
 have HF:=hE0 (aa0 h hb (by omega) (p:Int) (by omega) k hk);have HFA:=hE0 (fun W=>aaI W k k22);have HNF:=hE0 (fun W (hB:Below w.heap.size w W)=>aai (h.below hB) hb (by omega) (8+8*(k:Int)) (8+8*k) (by omega) (by omega) f hf);have hp2:p+32<=n:=by omega
 have hp3:184<=p:=by omega
 have s1:((f:Int)==(p:Int))=true:=by rw[beq_iff_eq];omega
 clear h hk hf hn hfp;go_enter Tryz.func174,Tryz.ntmps174
 go_wp2_with fail
 with_reducible refine HF.out.mono ?_
 rintro e w1 ⟨rfl,hb1⟩;have HB:=hE0 hb1;clear hb1 HF;go_wp2_with fail
 refine(HFA.out _).mono ?_;rintro e w9 ⟨rfl,rfl⟩;go_wp2_with fail
 refine(HNF.out _ HB.out).mono ?_;rintro e w9 ⟨rfl,rfl⟩;clear HFA HNF;go_wp2
 go_ret
 exact⟨rfl,HB.out⟩
theorem anL (h:Ar w 195 g base cap A c bs) (hb:base<=4611686018427387904) (n:Nat) (hn:bs.length=n) (hl:n<=16384) (p k f:Nat) (hk:aa2 bs (p:Int)=(k:Int)) (hf:aaf bs (8+8*k)=f) (hfp:f≠p) (hf0:f≠0) (hm:aap bs f (k:Int)=false):
 Calls Tryz.prog 174 #[.pointer (some ⟨g,0,none⟩), .int .i64 (p:Int)] w fun e w'=>e= .returned (aav false 3)/\Below w.heap.size w w':=by
 obtain⟨p184,p32,k22⟩:=aa6 hk;have hfl:f<18446744073709551616:=by rw[<-hf];exact aan _ _
 have HF:=hE0 (aa0 h hb (by omega) (p:Int) (by omega) k hk);have HFA:=hE0 (fun W=>aaI W k k22);have HNF:=hE0 (fun W (hB:Below w.heap.size w W)=>aai (h.below hB) hb (by omega) (8+8*(k:Int)) (8+8*k) (by omega) (by omega) f hf);have hp2:p+32<=n:=by omega
 have hp3:184<=p:=by omega
 have HM:=hE0 (fun W (hB:Below w.heap.size w W)=>adz (h.below hB) hb (by omega) k f k22 hfl _ hm);have s1:((f:Int)==(p:Int))=false:=by rw[beq_eq_false_iff_ne];omega
 have s2:((f:Int) !=0)=true:=by rw[bne_iff_ne];omega
 clear h hk hf hn hm;go_enter Tryz.func174,Tryz.ntmps174
 go_wp2_with fail
 with_reducible refine HF.out.mono ?_
 rintro e w1 ⟨rfl,hb1⟩;have HB:=hE0 hb1;clear hb1 HF;go_wp2_with fail
 refine(HFA.out _).mono ?_;rintro e w9 ⟨rfl,rfl⟩;go_wp2_with fail
 refine(HNF.out _ HB.out).mono ?_;rintro e w9 ⟨rfl,rfl⟩;clear HFA HNF;go_wp2_with fail
 refine(HM.out _ HB.out).mono ?_;rintro e w2 ⟨rfl,hb2⟩;have HB2:=hE0 (HB.out.trans (hb2.mono HB.out.size));clear hb2 HM HB;go_wp2
 go_ret
 exact⟨rfl,HB2.out⟩
theorem anM (h:Ar w 195 g base cap A c bs) (hb:base<=4611686018427387904) (n:Nat) (hn:bs.length=n) (hl:n<=16384) (p k f:Nat) (hk:aa2 bs (p:Int)=(k:Int)) (hf:aaf bs (8+8*k)=f) (hf0:f=0):
 Calls Tryz.prog 174 #[.pointer (some ⟨g,0,none⟩), .int .i64 (p:Int)] w fun e w'=>e= .returned (aav true 3)/\Became 195 g base cap A (abJ (lyN (lyN (lyN bs (p+8) f) (p+16) 0) (8+8*k) p) k) w w':=by
 obtain⟨p184,p32,k22⟩:=aa6 hk;have hfl:f<18446744073709551616:=by rw[<-hf];exact aan _ _
 have HF:=hE0 (aa0 h hb (by omega) (p:Int) (by omega) k hk);have HFA:=hE0 (fun W=>aaI W k k22);have HNF:=hE0 (fun W (hB:Below w.heap.size w W)=>aai (h.below hB) hb (by omega) (8+8*(k:Int)) (8+8*k) (by omega) (by omega) f hf);have hp2:p+32<=n:=by omega
 have hp3:184<=p:=by omega
 have s1:((f:Int)==(p:Int))=false:=by rw[beq_eq_false_iff_ne];omega
 have s2:((f:Int) !=0)=false:=by subst hf0;rfl
 have HBO:=hE0 (fun W (hB:Below w.heap.size w W)=>abt h hB);obtain⟨b1,hb1⟩:∃b,lyN bs (p+8) f=b:=⟨_,rfl⟩;have nb1:b1.length=n:=by rw[<-hb1,aah _ _ _ (by omega)];exact hn
 have HS1:=fun W (hB:Became 195 g base cap A bs w W)=>aaS hB hb (by omega) ((p:Int)+8) (p+8) (by omega) (by omega) f hfl;rw[hb1]at HS1 ⊢;have HS1:=hE0 HS1;obtain⟨b2,hb2⟩:∃b,lyN b1 (p+16) 0=b:=⟨_,rfl⟩;have nb2:b2.length=n:=by rw[<-hb2,aah _ _ _ (by omega)];exact nb1
 have HS2:=fun W (hB:Became 195 g base cap A b1 w W)=>aaS hB hb (by omega) ((p:Int)+16) (p+16) (by omega) (by omega) 0 (by omega);rw[hb2]at HS2 ⊢;have HS2:=hE0 HS2;have HSF:=hE0 (fun W (hB:Became 195 g base cap A b2 w W)=>abi hB hb n nb2 hl (by omega) k k22 p (by omega));clear hb1 nb1 hb2 nb2;clear h hk hf hn hf0;go_enter Tryz.func174,Tryz.ntmps174
 go_wp2_with fail
 with_reducible refine HF.out.mono ?_
 rintro e w1 ⟨rfl,hb1⟩;have HB:=hE0 hb1;clear hb1 HF;go_wp2_with fail
 refine(HFA.out _).mono ?_;rintro e w9 ⟨rfl,rfl⟩;go_wp2_with fail
 refine(HNF.out _ HB.out).mono ?_;rintro e w9 ⟨rfl,rfl⟩;clear HFA HNF;have G0:=hE0 (HBO.out _ HB.out);clear HBO HB;go_wp2_with fail
 refine(HS1.out _ G0.out).mono ?_;rintro e x1 ⟨rfl,bb⟩;have G1:=hE0 bb;clear bb HS1 G0;go_wp2_with fail
 refine(HS2.out _ G1.out).mono ?_;rintro e x2 ⟨rfl,bb⟩;have G2:=hE0 bb;clear bb HS2 G1;go_wp2_with fail
 refine(HSF.out _ G2.out).mono ?_;rintro e x9 ⟨rfl,bb⟩;have G9:=hE0 bb;clear bb HSF G2;go_wp2
 go_ret
 exact⟨rfl,G9.out⟩
theorem alx (h:Ar w 195 g base cap A c bs) (hb:base<=4611686018427387904) (n:Nat) (hn:bs.length=n) (hl:n<=16384) (p k f:Nat) (hk:aa2 bs (p:Int)=(k:Int)) (hf:aaf bs (8+8*k)=f) (hfp:f≠p) (hf0:f≠0) (hm:aap bs f (k:Int)=true):
 Calls Tryz.prog 174 #[.pointer (some ⟨g,0,none⟩), .int .i64 (p:Int)] w fun e w'=>e= .returned (aav true 3)/\Became 195 g base cap A (abJ (lyN (lyN (lyN (lyN bs (p+8) f) (p+16) 0) (f+16) p) (8+8*k) p) k) w w':=by
 obtain⟨p184,p32,k22⟩:=aa6 hk;have hfl:f<18446744073709551616:=by rw[<-hf];exact aan _ _
 have HF:=hE0 (aa0 h hb (by omega) (p:Int) (by omega) k hk);have HFA:=hE0 (fun W=>aaI W k k22);have HNF:=hE0 (fun W (hB:Below w.heap.size w W)=>aai (h.below hB) hb (by omega) (8+8*(k:Int)) (8+8*k) (by omega) (by omega) f hf);have hp2:p+32<=n:=by omega
 have hp3:184<=p:=by omega
 have HM:=hE0 (fun W (hB:Below w.heap.size w W)=>adz (h.below hB) hb (by omega) k f k22 hfl _ hm);have s1:((f:Int)==(p:Int))=false:=by rw[beq_eq_false_iff_ne];omega
 have s2:((f:Int) !=0)=true:=by rw[bne_iff_ne];omega
 have hfin:=aaN hm;have hf16:f+16+8<=n:=by omega
 have hf1:f<=16384:=by omega
 have HBO:=hE0 (fun W (hB:Below w.heap.size w W)=>abt h hB);obtain⟨b1,hb1⟩:∃b,lyN bs (p+8) f=b:=⟨_,rfl⟩;have nb1:b1.length=n:=by rw[<-hb1,aah _ _ _ (by omega)];exact hn
 have HS1:=fun W (hB:Became 195 g base cap A bs w W)=>aaS hB hb (by omega) ((p:Int)+8) (p+8) (by omega) (by omega) f hfl;rw[hb1]at HS1 ⊢;have HS1:=hE0 HS1;obtain⟨b2,hb2⟩:∃b,lyN b1 (p+16) 0=b:=⟨_,rfl⟩;have nb2:b2.length=n:=by rw[<-hb2,aah _ _ _ (by omega)];exact nb1
 have HS2:=fun W (hB:Became 195 g base cap A b1 w W)=>aaS hB hb (by omega) ((p:Int)+16) (p+16) (by omega) (by omega) 0 (by omega);rw[hb2]at HS2 ⊢;have HS2:=hE0 HS2;obtain⟨b3,hb3⟩:∃b,lyN b2 (f+16) p=b:=⟨_,rfl⟩;have nb3:b3.length=n:=by rw[<-hb3,aah _ _ _ (by omega)];exact nb2
 have HS3:=fun W (hB:Became 195 g base cap A b2 w W)=>aaS hB hb (by omega) ((f:Int)+16) (f+16) (by omega) (by omega) p (by omega);rw[hb3]at HS3 ⊢;have HS3:=hE0 HS3;have HSF:=hE0 (fun W (hB:Became 195 g base cap A b3 w W)=>abi hB hb n nb3 hl (by omega) k k22 p (by omega));clear hb1 nb1 hb2 nb2 hb3 nb3;clear h hk hf hn hm;go_enter Tryz.func174,Tryz.ntmps174
 go_wp2_with fail
 with_reducible refine HF.out.mono ?_
 rintro e w1 ⟨rfl,hb1⟩;have HB:=hE0 hb1;clear hb1 HF;go_wp2_with fail
 refine(HFA.out _).mono ?_;rintro e w9 ⟨rfl,rfl⟩;go_wp2_with fail
 refine(HNF.out _ HB.out).mono ?_;rintro e w9 ⟨rfl,rfl⟩;clear HFA HNF;go_wp2_with fail
 refine(HM.out _ HB.out).mono ?_;rintro e w2 ⟨rfl,hb2⟩;have HB2:=hE0 (HB.out.trans (hb2.mono HB.out.size));clear hb2 HM HB;have G0:=hE0 (HBO.out _ HB2.out);clear HBO HB2;go_wp2_with fail
 refine(HS1.out _ G0.out).mono ?_;rintro e x1 ⟨rfl,bb⟩;have G1:=hE0 bb;clear bb HS1 G0;go_wp2_with fail
 refine(HS2.out _ G1.out).mono ?_;rintro e x2 ⟨rfl,bb⟩;have G2:=hE0 bb;clear bb HS2 G1;go_wp2_with fail
 refine(HS3.out _ G2.out).mono ?_;rintro e x3 ⟨rfl,bb⟩;have G3:=hE0 bb;clear bb HS3 G2;go_wp2_with fail
 refine(HSF.out _ G3.out).mono ?_;rintro e x9 ⟨rfl,bb⟩;have G9:=hE0 bb;clear bb HSF G3;go_wp2
 go_ret
 exact⟨rfl,G9.out⟩
end
theorem awk:awr:=by
 intro w g base cap c A bs o y h hb hl ho hy;subst hy;rcases aeC bs o with hk | ⟨k,hk⟩
 · have e:ahH bs o=none:=by unfold ahH;rw[if_pos hk]
   rw[e];exact atN h hb _ rfl hl o ho hk
 · obtain⟨p184,p32,k22⟩:=aa6 hk;obtain⟨p,rfl⟩:∃p:Nat,o=(p:Int):=⟨o.toNat,by omega⟩;obtain⟨f,hf⟩:=nmE (aaf bs (8+8*k));have e:ahH bs (p:Int)=if (f:Int)=(p:Int)\/(f≠0/\aap bs f (k:Int)=false) then none else some (abJ (lyN (if f≠0 then lyN (lyN (lyN bs (p+8) f) (p+16) 0) (f+16) p else lyN (lyN bs (p+8) f) (p+16) 0) (8+8*k) p) k):=by
    unfold ahH;rw[hk,if_neg (by omega)];simp only[Int.toNat_natCast,hf]
   rw[e];by_cases hfp:f=p
   · rw[if_pos (.inl (by omega))];exact apI h hb _ rfl hl p k f hk hf hfp
   · by_cases hf0:f=0
     · rw[if_neg (by omega),if_neg (by omega)];exact anM h hb _ rfl hl p k f hk hf hf0
     · cases hm:aap bs f (k:Int)with
       | false=>
        rw[if_pos (.inr ⟨hf0,rfl⟩)];exact anL h hb _ rfl hl p k f hk hf hfp hf0 hm
       | true=>
        rw[if_neg (fun h1=>h1.elim (fun h2=>hfp (by omega)) (fun h2=>by cases h2.2)),if_pos hf0];exact alx h hb _ rfl hl p k f hk hf hfp hf0 hm
theorem abv{bs:List UInt8}{k v j u:Nat}(h:abr bs k v j u=true):aap bs v (k:Int)=true:=by
 unfold abr at h;rw[Bool.and_eq_true]at h;exact h.1
section
variable {w:World} {g base cap c:Nat} {A:Option Addr} {bs:List UInt8}
theorem arW (h:Ar w 195 g base cap A c bs) (hb:base<=4611686018427387904) (n:Nat) (hn:bs.length=n) (hl:n<=16384) (o:Int) (ho: -9223372036854775808<=o/\o<=9223372036854775807) (hk:aa2 bs o<0):
 Calls Tryz.prog 271 #[.pointer (some ⟨g,0,none⟩), .int .i64 o] w fun e w'=>e= .returned (aav false 3)/\Below w.heap.size w w':=by
 have HF:=hE0 (aiY h hb (by omega) o ho hk);clear h hk hn;go_enter Tryz.func271,Tryz.ntmps271
 go_wp2_with fail
 with_reducible refine HF.out.mono ?_
 rintro e w1 ⟨rfl,hb1⟩;have HB:=hE0 hb1;clear hb1;go_wp2
 go_ret
 exact⟨rfl,HB.out⟩
theorem aly (h:Ar w 195 g base cap A c bs) (hb:base<=4611686018427387904) (n:Nat) (hn:bs.length=n) (hl:n<=16384) (q k f m p:Nat) (hk:aa2 bs (q:Int)=(k:Int)) (hf:aaf bs (8+8*k)=f) (hm:aaf bs (q+8)=m) (hp:aaf bs (q+16)=p) (hp0:p=0) (hfq:f≠q):
 Calls Tryz.prog 271 #[.pointer (some ⟨g,0,none⟩), .int .i64 (q:Int)] w fun e w'=>e= .returned (aav false 3)/\Below w.heap.size w w':=by
 obtain⟨q184,q32,k22⟩:=aa6 hk;have hfl:f<18446744073709551616:=by rw[<-hf];exact aan _ _
 have hml:m<18446744073709551616:=by rw[<-hm];exact aan _ _
 have hpl:p<18446744073709551616:=by rw[<-hp];exact aan _ _
 have HF:=hE0 (aa0 h hb (by omega) (q:Int) (by omega) k hk);have HFA:=hE0 (fun W=>aaI W k k22);have HNF:=hE0 (fun W (hB:Below w.heap.size w W)=>aai (h.below hB) hb (by omega) (8+8*(k:Int)) (8+8*k) (by omega) (by omega) f hf);have HNM:=hE0 (fun W (hB:Below w.heap.size w W)=>aai (h.below hB) hb (by omega) ((q:Int)+8) (q+8) (by omega) (by omega) m hm);have HNP:=hE0 (fun W (hB:Below w.heap.size w W)=>aai (h.below hB) hb (by omega) ((q:Int)+16) (q+16) (by omega) (by omega) p hp);have hq2:q+32<=n:=by omega
 have hq3:184<=q:=by omega
 have s1:((p:Int)==0)=true:=by subst hp0;rfl
 have s1b:((p:Int) !=0)=false:=by subst hp0;rfl
 have s2:((f:Int) !=(q:Int))=true:=by rw[bne_iff_ne];omega
 clear h hk hf hn hm hp hp0;go_enter Tryz.func271,Tryz.ntmps271
 go_wp2_with fail
 with_reducible refine HF.out.mono ?_
 rintro e w1 ⟨rfl,hb1⟩;have HB:=hE0 hb1;clear hb1 HF;go_wp2_with fail
 refine(HFA.out _).mono ?_;rintro e w9 ⟨rfl,rfl⟩;go_wp2_with fail
 refine(HNF.out _ HB.out).mono ?_;rintro e w9 ⟨rfl,rfl⟩;go_wp2_with fail
 refine(HNM.out _ HB.out).mono ?_;rintro e w9 ⟨rfl,rfl⟩;go_wp2_with fail
 refine(HNP.out _ HB.out).mono ?_;rintro e w9 ⟨rfl,rfl⟩;clear HFA HNF HNM HNP;go_wp2
 go_ret
 exact⟨rfl,HB.out⟩
theorem anN (h:Ar w 195 g base cap A c bs) (hb:base<=4611686018427387904) (n:Nat) (hn:bs.length=n) (hl:n<=16384) (q k f m p:Nat) (hk:aa2 bs (q:Int)=(k:Int)) (hf:aaf bs (8+8*k)=f) (hm:aaf bs (q+8)=m) (hp:aaf bs (q+16)=p) (hp0:p≠0) (hpm:abr bs k p 8 q=false):
 Calls Tryz.prog 271 #[.pointer (some ⟨g,0,none⟩), .int .i64 (q:Int)] w fun e w'=>e= .returned (aav false 3)/\Below w.heap.size w w':=by
 obtain⟨q184,q32,k22⟩:=aa6 hk;have hfl:f<18446744073709551616:=by rw[<-hf];exact aan _ _
 have hml:m<18446744073709551616:=by rw[<-hm];exact aan _ _
 have hpl:p<18446744073709551616:=by rw[<-hp];exact aan _ _
 have HF:=hE0 (aa0 h hb (by omega) (q:Int) (by omega) k hk);have HFA:=hE0 (fun W=>aaI W k k22);have HNF:=hE0 (fun W (hB:Below w.heap.size w W)=>aai (h.below hB) hb (by omega) (8+8*(k:Int)) (8+8*k) (by omega) (by omega) f hf);have HNM:=hE0 (fun W (hB:Below w.heap.size w W)=>aai (h.below hB) hb (by omega) ((q:Int)+8) (q+8) (by omega) (by omega) m hm);have HNP:=hE0 (fun W (hB:Below w.heap.size w W)=>aai (h.below hB) hb (by omega) ((q:Int)+16) (q+16) (by omega) (by omega) p hp);have hq2:q+32<=n:=by omega
 have hq3:184<=q:=by omega
 have s1:((p:Int)==0)=false:=by rw[beq_eq_false_iff_ne];omega
 have s1b:((p:Int) !=0)=true:=by rw[bne_iff_ne];omega
 have HPM:=hE0 (fun W (hB:Below w.heap.size w W)=>abF (h.below hB) hb (by omega) k p 8 q k22 hpl (by omega) _ hpm);clear h hk hf hn hm hp hpm;go_enter Tryz.func271,Tryz.ntmps271
 go_wp2_with fail
 with_reducible refine HF.out.mono ?_
 rintro e w1 ⟨rfl,hb1⟩;have HB:=hE0 hb1;clear hb1 HF;go_wp2_with fail
 refine(HFA.out _).mono ?_;rintro e w9 ⟨rfl,rfl⟩;go_wp2_with fail
 refine(HNF.out _ HB.out).mono ?_;rintro e w9 ⟨rfl,rfl⟩;go_wp2_with fail
 refine(HNM.out _ HB.out).mono ?_;rintro e w9 ⟨rfl,rfl⟩;go_wp2_with fail
 refine(HNP.out _ HB.out).mono ?_;rintro e w9 ⟨rfl,rfl⟩;clear HFA HNF HNM HNP;go_wp2_with fail
 refine(HPM.out _ HB.out).mono ?_;rintro e w2 ⟨rfl,hb2⟩;have HB2:=hE0 (HB.out.trans (hb2.mono HB.out.size));clear hb2 HPM HB;go_wp2
 go_ret
 exact⟨rfl,HB2.out⟩
theorem alz (h:Ar w 195 g base cap A c bs) (hb:base<=4611686018427387904) (n:Nat) (hn:bs.length=n) (hl:n<=16384) (q k f m p:Nat) (hk:aa2 bs (q:Int)=(k:Int)) (hf:aaf bs (8+8*k)=f) (hm:aaf bs (q+8)=m) (hp:aaf bs (q+16)=p) (hp0:p=0) (hfq:f=q) (hn0:m≠0) (hnm:abr bs k m 16 q=false):
 Calls Tryz.prog 271 #[.pointer (some ⟨g,0,none⟩), .int .i64 (q:Int)] w fun e w'=>e= .returned (aav false 3)/\Below w.heap.size w w':=by
 obtain⟨q184,q32,k22⟩:=aa6 hk;have hfl:f<18446744073709551616:=by rw[<-hf];exact aan _ _
 have hml:m<18446744073709551616:=by rw[<-hm];exact aan _ _
 have hpl:p<18446744073709551616:=by rw[<-hp];exact aan _ _
 have HF:=hE0 (aa0 h hb (by omega) (q:Int) (by omega) k hk);have HFA:=hE0 (fun W=>aaI W k k22);have HNF:=hE0 (fun W (hB:Below w.heap.size w W)=>aai (h.below hB) hb (by omega) (8+8*(k:Int)) (8+8*k) (by omega) (by omega) f hf);have HNM:=hE0 (fun W (hB:Below w.heap.size w W)=>aai (h.below hB) hb (by omega) ((q:Int)+8) (q+8) (by omega) (by omega) m hm);have HNP:=hE0 (fun W (hB:Below w.heap.size w W)=>aai (h.below hB) hb (by omega) ((q:Int)+16) (q+16) (by omega) (by omega) p hp);have hq2:q+32<=n:=by omega
 have hq3:184<=q:=by omega
 have s1:((p:Int)==0)=true:=by subst hp0;rfl
 have s1b:((p:Int) !=0)=false:=by subst hp0;rfl
 have s2:((f:Int) !=(q:Int))=false:=by rw[bne_eq_false_iff_eq];omega
 have HNH:=hE0 (fun W (hB:Below w.heap.size w W)=>abF (h.below hB) hb (by omega) k m 16 q k22 hml (by omega) _ hnm);have s3:((m:Int) !=0)=true:=by rw[bne_iff_ne];omega
 clear h hk hf hn hm hp hnm hp0 hfq;go_enter Tryz.func271,Tryz.ntmps271
 go_wp2_with fail
 with_reducible refine HF.out.mono ?_
 rintro e w1 ⟨rfl,hb1⟩;have HB:=hE0 hb1;clear hb1 HF;go_wp2_with fail
 refine(HFA.out _).mono ?_;rintro e w9 ⟨rfl,rfl⟩;go_wp2_with fail
 refine(HNF.out _ HB.out).mono ?_;rintro e w9 ⟨rfl,rfl⟩;go_wp2_with fail
 refine(HNM.out _ HB.out).mono ?_;rintro e w9 ⟨rfl,rfl⟩;go_wp2_with fail
 refine(HNP.out _ HB.out).mono ?_;rintro e w9 ⟨rfl,rfl⟩;clear HFA HNF HNM HNP;go_wp2_with fail
 refine(HNH.out _ HB.out).mono ?_;rintro e w3 ⟨rfl,hb3⟩;have HB3:=hE0 (HB.out.trans (hb3.mono HB.out.size));clear hb3 HNH HB;go_wp2
 go_ret
 exact⟨rfl,HB3.out⟩
theorem alA (h:Ar w 195 g base cap A c bs) (hb:base<=4611686018427387904) (n:Nat) (hn:bs.length=n) (hl:n<=16384) (q k f m p:Nat) (hk:aa2 bs (q:Int)=(k:Int)) (hf:aaf bs (8+8*k)=f) (hm:aaf bs (q+8)=m) (hp:aaf bs (q+16)=p) (hp0:p≠0) (hpm:abr bs k p 8 q=true) (hn0:m≠0) (hnm:abr bs k m 16 q=false):
 Calls Tryz.prog 271 #[.pointer (some ⟨g,0,none⟩), .int .i64 (q:Int)] w fun e w'=>e= .returned (aav false 3)/\Below w.heap.size w w':=by
 obtain⟨q184,q32,k22⟩:=aa6 hk;have hfl:f<18446744073709551616:=by rw[<-hf];exact aan _ _
 have hml:m<18446744073709551616:=by rw[<-hm];exact aan _ _
 have hpl:p<18446744073709551616:=by rw[<-hp];exact aan _ _
 have HF:=hE0 (aa0 h hb (by omega) (q:Int) (by omega) k hk);have HFA:=hE0 (fun W=>aaI W k k22);have HNF:=hE0 (fun W (hB:Below w.heap.size w W)=>aai (h.below hB) hb (by omega) (8+8*(k:Int)) (8+8*k) (by omega) (by omega) f hf);have HNM:=hE0 (fun W (hB:Below w.heap.size w W)=>aai (h.below hB) hb (by omega) ((q:Int)+8) (q+8) (by omega) (by omega) m hm);have HNP:=hE0 (fun W (hB:Below w.heap.size w W)=>aai (h.below hB) hb (by omega) ((q:Int)+16) (q+16) (by omega) (by omega) p hp);have hq2:q+32<=n:=by omega
 have hq3:184<=q:=by omega
 have s1:((p:Int)==0)=false:=by rw[beq_eq_false_iff_ne];omega
 have s1b:((p:Int) !=0)=true:=by rw[bne_iff_ne];omega
 have HPM:=hE0 (fun W (hB:Below w.heap.size w W)=>abF (h.below hB) hb (by omega) k p 8 q k22 hpl (by omega) _ hpm);have HNH:=hE0 (fun W (hB:Below w.heap.size w W)=>abF (h.below hB) hb (by omega) k m 16 q k22 hml (by omega) _ hnm);have s3:((m:Int) !=0)=true:=by rw[bne_iff_ne];omega
 clear h hk hf hn hm hp hpm hnm;go_enter Tryz.func271,Tryz.ntmps271
 go_wp2_with fail
 with_reducible refine HF.out.mono ?_
 rintro e w1 ⟨rfl,hb1⟩;have HB:=hE0 hb1;clear hb1 HF;go_wp2_with fail
 refine(HFA.out _).mono ?_;rintro e w9 ⟨rfl,rfl⟩;go_wp2_with fail
 refine(HNF.out _ HB.out).mono ?_;rintro e w9 ⟨rfl,rfl⟩;go_wp2_with fail
 refine(HNM.out _ HB.out).mono ?_;rintro e w9 ⟨rfl,rfl⟩;go_wp2_with fail
 refine(HNP.out _ HB.out).mono ?_;rintro e w9 ⟨rfl,rfl⟩;clear HFA HNF HNM HNP;go_wp2_with fail
 refine(HPM.out _ HB.out).mono ?_;rintro e w2 ⟨rfl,hb2⟩;have HB2:=hE0 (HB.out.trans (hb2.mono HB.out.size));clear hb2 HPM HB;go_wp2_with fail
 refine(HNH.out _ HB2.out).mono ?_;rintro e w3 ⟨rfl,hb3⟩;have HB3:=hE0 (HB2.out.trans (hb3.mono HB2.out.size));clear hb3 HNH HB2;go_wp2
 go_ret
 exact⟨rfl,HB3.out⟩
theorem apJ (h:Ar w 195 g base cap A c bs) (hb:base<=4611686018427387904) (n:Nat) (hn:bs.length=n) (hl:n<=16384) (q k f m p:Nat) (hk:aa2 bs (q:Int)=(k:Int)) (hf:aaf bs (8+8*k)=f) (hm:aaf bs (q+8)=m) (hp:aaf bs (q+16)=p) (hp0:p=0) (hfq:f=q) (hn0:m=0):
 Calls Tryz.prog 271 #[.pointer (some ⟨g,0,none⟩), .int .i64 (q:Int)] w fun e w'=>e= .returned (aav true 3)/\Became 195 g base cap A (abJ (lyN bs (8+8*k) m) k) w w':=by
 obtain⟨q184,q32,k22⟩:=aa6 hk;have hfl:f<18446744073709551616:=by rw[<-hf];exact aan _ _
 have hml:m<18446744073709551616:=by rw[<-hm];exact aan _ _
 have hpl:p<18446744073709551616:=by rw[<-hp];exact aan _ _
 have HF:=hE0 (aa0 h hb (by omega) (q:Int) (by omega) k hk);have HFA:=hE0 (fun W=>aaI W k k22);have HNF:=hE0 (fun W (hB:Below w.heap.size w W)=>aai (h.below hB) hb (by omega) (8+8*(k:Int)) (8+8*k) (by omega) (by omega) f hf);have HNM:=hE0 (fun W (hB:Below w.heap.size w W)=>aai (h.below hB) hb (by omega) ((q:Int)+8) (q+8) (by omega) (by omega) m hm);have HNP:=hE0 (fun W (hB:Below w.heap.size w W)=>aai (h.below hB) hb (by omega) ((q:Int)+16) (q+16) (by omega) (by omega) p hp);have hq2:q+32<=n:=by omega
 have hq3:184<=q:=by omega
 have s1:((p:Int)==0)=true:=by subst hp0;rfl
 have s1b:((p:Int) !=0)=false:=by subst hp0;rfl
 have s2:((f:Int) !=(q:Int))=false:=by rw[bne_eq_false_iff_eq];omega
 have s3:((m:Int) !=0)=false:=by subst hn0;rfl
 have s4:((f:Int)==(q:Int))=true:=by rw[beq_iff_eq];omega
 have HBO:=hE0 (fun W (hB:Below w.heap.size w W)=>abt h hB);have HSF:=hE0 (fun W (hB:Became 195 g base cap A bs w W)=>abi hB hb n hn hl (by omega) k k22 m (by omega));clear h hk hf hn hm hp hp0 hfq hn0;go_enter Tryz.func271,Tryz.ntmps271
 go_wp2_with fail
 with_reducible refine HF.out.mono ?_
 rintro e w1 ⟨rfl,hb1⟩;have HB:=hE0 hb1;clear hb1 HF;go_wp2_with fail
 refine(HFA.out _).mono ?_;rintro e w9 ⟨rfl,rfl⟩;go_wp2_with fail
 refine(HNF.out _ HB.out).mono ?_;rintro e w9 ⟨rfl,rfl⟩;go_wp2_with fail
 refine(HNM.out _ HB.out).mono ?_;rintro e w9 ⟨rfl,rfl⟩;go_wp2_with fail
 refine(HNP.out _ HB.out).mono ?_;rintro e w9 ⟨rfl,rfl⟩;clear HFA HNF HNM HNP;have G0:=hE0 (HBO.out _ HB.out);clear HBO HB;go_wp2_with fail
 refine(HSF.out _ G0.out).mono ?_;rintro e x9 ⟨rfl,bb⟩;have G9:=hE0 bb;clear bb HSF G0;go_wp2
 go_ret
 exact⟨rfl,G9.out⟩
theorem apK (h:Ar w 195 g base cap A c bs) (hb:base<=4611686018427387904) (n:Nat) (hn:bs.length=n) (hl:n<=16384) (q k f m p:Nat) (hk:aa2 bs (q:Int)=(k:Int)) (hf:aaf bs (8+8*k)=f) (hm:aaf bs (q+8)=m) (hp:aaf bs (q+16)=p) (hp0:p=0) (hfq:f=q) (hn0:m≠0) (hnm:abr bs k m 16 q=true):
 Calls Tryz.prog 271 #[.pointer (some ⟨g,0,none⟩), .int .i64 (q:Int)] w fun e w'=>e= .returned (aav true 3)/\Became 195 g base cap A (abJ (lyN (lyN bs (m+16) p) (8+8*k) m) k) w w':=by
 obtain⟨q184,q32,k22⟩:=aa6 hk;have hfl:f<18446744073709551616:=by rw[<-hf];exact aan _ _
 have hml:m<18446744073709551616:=by rw[<-hm];exact aan _ _
 have hpl:p<18446744073709551616:=by rw[<-hp];exact aan _ _
 have HF:=hE0 (aa0 h hb (by omega) (q:Int) (by omega) k hk);have HFA:=hE0 (fun W=>aaI W k k22);have HNF:=hE0 (fun W (hB:Below w.heap.size w W)=>aai (h.below hB) hb (by omega) (8+8*(k:Int)) (8+8*k) (by omega) (by omega) f hf);have HNM:=hE0 (fun W (hB:Below w.heap.size w W)=>aai (h.below hB) hb (by omega) ((q:Int)+8) (q+8) (by omega) (by omega) m hm);have HNP:=hE0 (fun W (hB:Below w.heap.size w W)=>aai (h.below hB) hb (by omega) ((q:Int)+16) (q+16) (by omega) (by omega) p hp);have hq2:q+32<=n:=by omega
 have hq3:184<=q:=by omega
 have s1:((p:Int)==0)=true:=by subst hp0;rfl
 have s1b:((p:Int) !=0)=false:=by subst hp0;rfl
 have s2:((f:Int) !=(q:Int))=false:=by rw[bne_eq_false_iff_eq];omega
 have HNH:=hE0 (fun W (hB:Below w.heap.size w W)=>abF (h.below hB) hb (by omega) k m 16 q k22 hml (by omega) _ hnm);have s3:((m:Int) !=0)=true:=by rw[bne_iff_ne];omega
 have s4:((f:Int)==(q:Int))=true:=by rw[beq_iff_eq];omega
 have hnin:=aaN (abv hnm);have hn16:m+32<=n:=by omega
 have HBO:=hE0 (fun W (hB:Below w.heap.size w W)=>abt h hB);obtain⟨b1,hb1⟩:∃b,lyN bs (m+16) p=b:=⟨_,rfl⟩;have nb1:b1.length=n:=by rw[<-hb1,aah _ _ _ (by omega)];exact hn
 have HS1:=fun W (hB:Became 195 g base cap A bs w W)=>aaS hB hb (by omega) ((m:Int)+16) (m+16) (by omega) (by omega) p hpl;rw[hb1]at HS1 ⊢;have HS1:=hE0 HS1;have HSF:=hE0 (fun W (hB:Became 195 g base cap A b1 w W)=>abi hB hb n nb1 hl (by omega) k k22 m (by omega));clear hb1 nb1;clear h hk hf hn hm hp hnm hp0 hfq;go_enter Tryz.func271,Tryz.ntmps271
 go_wp2_with fail
 with_reducible refine HF.out.mono ?_
 rintro e w1 ⟨rfl,hb1⟩;have HB:=hE0 hb1;clear hb1 HF;go_wp2_with fail
 refine(HFA.out _).mono ?_;rintro e w9 ⟨rfl,rfl⟩;go_wp2_with fail
 refine(HNF.out _ HB.out).mono ?_;rintro e w9 ⟨rfl,rfl⟩;go_wp2_with fail
 refine(HNM.out _ HB.out).mono ?_;rintro e w9 ⟨rfl,rfl⟩;go_wp2_with fail
 refine(HNP.out _ HB.out).mono ?_;rintro e w9 ⟨rfl,rfl⟩;clear HFA HNF HNM HNP;go_wp2_with fail
 refine(HNH.out _ HB.out).mono ?_;rintro e w3 ⟨rfl,hb3⟩;have HB3:=hE0 (HB.out.trans (hb3.mono HB.out.size));clear hb3 HNH HB;have G0:=hE0 (HBO.out _ HB3.out);clear HBO HB3;go_wp2_with fail
 refine(HS1.out _ G0.out).mono ?_;rintro e x1 ⟨rfl,bb⟩;have G1:=hE0 bb;clear bb HS1 G0;go_wp2_with fail
 refine(HSF.out _ G1.out).mono ?_;rintro e x9 ⟨rfl,bb⟩;have G9:=hE0 bb;clear bb HSF G1;go_wp2
 go_ret
 exact⟨rfl,G9.out⟩
theorem agQ{P:Prop}(h:P:=by
 go_enter Tryz.func271,Tryz.ntmps271
 go_wp2_with fail
 with_reducible refine HF.out.mono ?_
 rintro e w1 ⟨rfl,hb1⟩;have HB:=hE0 hb1;clear hb1 HF;go_wp2_with fail
 refine(HFA.out _).mono ?_;rintro e w9 ⟨rfl,rfl⟩;go_wp2_with fail
 refine(HNF.out _ HB.out).mono ?_;rintro e w9 ⟨rfl,rfl⟩;go_wp2_with fail
 refine(HNM.out _ HB.out).mono ?_;rintro e w9 ⟨rfl,rfl⟩;go_wp2_with fail
 refine(HNP.out _ HB.out).mono ?_;rintro e w9 ⟨rfl,rfl⟩;clear HFA HNF HNM HNP;go_wp2_with fail
 refine(HPM.out _ HB.out).mono ?_;rintro e w2 ⟨rfl,hb2⟩;have HB2:=hE0 (HB.out.trans (hb2.mono HB.out.size));clear hb2 HPM HB;have G0:=hE0 (HBO.out _ HB2.out);clear HBO HB2;go_wp2_with fail
 refine(HS1.out _ G0.out).mono ?_;rintro e x1 ⟨rfl,bb⟩;have G1:=hE0 bb;clear bb HS1 G0;go_wp2_with fail
 refine(HSF.out _ G1.out).mono ?_;rintro e x9 ⟨rfl,bb⟩;have G9:=hE0 bb;clear bb HSF G1;go_wp2
 go_ret
 exact⟨rfl,G9.out⟩
 ):P:=h
theorem apL (h:Ar w 195 g base cap A c bs) (hb:base<=4611686018427387904) (n:Nat) (hn:bs.length=n) (hl:n<=16384) (q k f m p:Nat) (hk:aa2 bs (q:Int)=(k:Int)) (hf:aaf bs (8+8*k)=f) (hm:aaf bs (q+8)=m) (hp:aaf bs (q+16)=p) (hp0:p≠0) (hpm:abr bs k p 8 q=true) (hn0:m=0) (hfq:f=q):
 Calls Tryz.prog 271 #[.pointer (some ⟨g,0,none⟩), .int .i64 (q:Int)] w fun e w'=>e= .returned (aav true 3)/\Became 195 g base cap A (abJ (lyN (lyN bs (p+8) m) (8+8*k) m) k) w w':=by
 obtain⟨q184,q32,k22⟩:=aa6 hk;have hfl:f<18446744073709551616:=by rw[<-hf];exact aan _ _
 have hml:m<18446744073709551616:=by rw[<-hm];exact aan _ _
 have hpl:p<18446744073709551616:=by rw[<-hp];exact aan _ _
 have HF:=hE0 (aa0 h hb (by omega) (q:Int) (by omega) k hk);have HFA:=hE0 (fun W=>aaI W k k22);have HNF:=hE0 (fun W (hB:Below w.heap.size w W)=>aai (h.below hB) hb (by omega) (8+8*(k:Int)) (8+8*k) (by omega) (by omega) f hf);have HNM:=hE0 (fun W (hB:Below w.heap.size w W)=>aai (h.below hB) hb (by omega) ((q:Int)+8) (q+8) (by omega) (by omega) m hm);have HNP:=hE0 (fun W (hB:Below w.heap.size w W)=>aai (h.below hB) hb (by omega) ((q:Int)+16) (q+16) (by omega) (by omega) p hp);have hq2:q+32<=n:=by omega
 have hq3:184<=q:=by omega
 have s1:((p:Int)==0)=false:=by rw[beq_eq_false_iff_ne];omega
 have s1b:((p:Int) !=0)=true:=by rw[bne_iff_ne];omega
 have HPM:=hE0 (fun W (hB:Below w.heap.size w W)=>abF (h.below hB) hb (by omega) k p 8 q k22 hpl (by omega) _ hpm);have s3:((m:Int) !=0)=false:=by subst hn0;rfl
 have s4:((f:Int)==(q:Int))=true:=by rw[beq_iff_eq];omega
 have hpin:=aaN (abv hpm);have hp8:p+32<=n:=by omega
 have HBO:=hE0 (fun W (hB:Below w.heap.size w W)=>abt h hB);obtain⟨b1,hb1⟩:∃b,lyN bs (p+8) m=b:=⟨_,rfl⟩;have nb1:b1.length=n:=by rw[<-hb1,aah _ _ _ (by omega)];exact hn
 have HS1:=fun W (hB:Became 195 g base cap A bs w W)=>aaS hB hb (by omega) ((p:Int)+8) (p+8) (by omega) (by omega) m hml;rw[hb1]at HS1 ⊢;have HS1:=hE0 HS1;have HSF:=hE0 (fun W (hB:Became 195 g base cap A b1 w W)=>abi hB hb n nb1 hl (by omega) k k22 m (by omega));clear hb1 nb1;clear h hk hf hn hm hp hpm hfq hn0;exact agQ
theorem agR{P:Prop}(h:P:=by
 go_enter Tryz.func271,Tryz.ntmps271
 go_wp2_with fail
 with_reducible refine HF.out.mono ?_
 rintro e w1 ⟨rfl,hb1⟩;have HB:=hE0 hb1;clear hb1 HF;go_wp2_with fail
 refine(HFA.out _).mono ?_;rintro e w9 ⟨rfl,rfl⟩;go_wp2_with fail
 refine(HNF.out _ HB.out).mono ?_;rintro e w9 ⟨rfl,rfl⟩;go_wp2_with fail
 refine(HNM.out _ HB.out).mono ?_;rintro e w9 ⟨rfl,rfl⟩;go_wp2_with fail
 refine(HNP.out _ HB.out).mono ?_;rintro e w9 ⟨rfl,rfl⟩;clear HFA HNF HNM HNP;go_wp2_with fail
 refine(HPM.out _ HB.out).mono ?_;rintro e w2 ⟨rfl,hb2⟩;have HB2:=hE0 (HB.out.trans (hb2.mono HB.out.size));clear hb2 HPM HB;go_wp2_with fail
 refine(HNH.out _ HB2.out).mono ?_;rintro e w3 ⟨rfl,hb3⟩;have HB3:=hE0 (HB2.out.trans (hb3.mono HB2.out.size));clear hb3 HNH HB2;have G0:=hE0 (HBO.out _ HB3.out);clear HBO HB3;go_wp2_with fail
 refine(HS1.out _ G0.out).mono ?_;rintro e x1 ⟨rfl,bb⟩;have G1:=hE0 bb;clear bb HS1 G0;go_wp2_with fail
 refine(HS2.out _ G1.out).mono ?_;rintro e x2 ⟨rfl,bb⟩;have G2:=hE0 bb;clear bb HS2 G1;go_wp2_with fail
 refine(HSF.out _ G2.out).mono ?_;rintro e x9 ⟨rfl,bb⟩;have G9:=hE0 bb;clear bb HSF G2;go_wp2
 go_ret
 exact⟨rfl,G9.out⟩
 ):P:=h
theorem apM (h:Ar w 195 g base cap A c bs) (hb:base<=4611686018427387904) (n:Nat) (hn:bs.length=n) (hl:n<=16384) (q k f m p:Nat) (hk:aa2 bs (q:Int)=(k:Int)) (hf:aaf bs (8+8*k)=f) (hm:aaf bs (q+8)=m) (hp:aaf bs (q+16)=p) (hp0:p≠0) (hpm:abr bs k p 8 q=true) (hn0:m≠0) (hnm:abr bs k m 16 q=true) (hfq:f=q):
 Calls Tryz.prog 271 #[.pointer (some ⟨g,0,none⟩), .int .i64 (q:Int)] w fun e w'=>e= .returned (aav true 3)/\Became 195 g base cap A (abJ (lyN (lyN (lyN bs (p+8) m) (m+16) p) (8+8*k) m) k) w w':=by
 obtain⟨q184,q32,k22⟩:=aa6 hk;have hfl:f<18446744073709551616:=by rw[<-hf];exact aan _ _
 have hml:m<18446744073709551616:=by rw[<-hm];exact aan _ _
 have hpl:p<18446744073709551616:=by rw[<-hp];exact aan _ _
 have HF:=hE0 (aa0 h hb (by omega) (q:Int) (by omega) k hk);have HFA:=hE0 (fun W=>aaI W k k22);have HNF:=hE0 (fun W (hB:Below w.heap.size w W)=>aai (h.below hB) hb (by omega) (8+8*(k:Int)) (8+8*k) (by omega) (by omega) f hf);have HNM:=hE0 (fun W (hB:Below w.heap.size w W)=>aai (h.below hB) hb (by omega) ((q:Int)+8) (q+8) (by omega) (by omega) m hm);have HNP:=hE0 (fun W (hB:Below w.heap.size w W)=>aai (h.below hB) hb (by omega) ((q:Int)+16) (q+16) (by omega) (by omega) p hp);have hq2:q+32<=n:=by omega
 have hq3:184<=q:=by omega
 have s1:((p:Int)==0)=false:=by rw[beq_eq_false_iff_ne];omega
 have s1b:((p:Int) !=0)=true:=by rw[bne_iff_ne];omega
 have HPM:=hE0 (fun W (hB:Below w.heap.size w W)=>abF (h.below hB) hb (by omega) k p 8 q k22 hpl (by omega) _ hpm);have HNH:=hE0 (fun W (hB:Below w.heap.size w W)=>abF (h.below hB) hb (by omega) k m 16 q k22 hml (by omega) _ hnm);have s3:((m:Int) !=0)=true:=by rw[bne_iff_ne];omega
 have s4:((f:Int)==(q:Int))=true:=by rw[beq_iff_eq];omega
 have hpin:=aaN (abv hpm);have hp8:p+32<=n:=by omega
 have hnin:=aaN (abv hnm);have hn16:m+32<=n:=by omega
 have HBO:=hE0 (fun W (hB:Below w.heap.size w W)=>abt h hB);obtain⟨b1,hb1⟩:∃b,lyN bs (p+8) m=b:=⟨_,rfl⟩;have nb1:b1.length=n:=by rw[<-hb1,aah _ _ _ (by omega)];exact hn
 have HS1:=fun W (hB:Became 195 g base cap A bs w W)=>aaS hB hb (by omega) ((p:Int)+8) (p+8) (by omega) (by omega) m hml;rw[hb1]at HS1 ⊢;have HS1:=hE0 HS1;obtain⟨b2,hb2⟩:∃b,lyN b1 (m+16) p=b:=⟨_,rfl⟩;have nb2:b2.length=n:=by rw[<-hb2,aah _ _ _ (by omega)];exact nb1
 have HS2:=fun W (hB:Became 195 g base cap A b1 w W)=>aaS hB hb (by omega) ((m:Int)+16) (m+16) (by omega) (by omega) p hpl;rw[hb2]at HS2 ⊢;have HS2:=hE0 HS2;have HSF:=hE0 (fun W (hB:Became 195 g base cap A b2 w W)=>abi hB hb n nb2 hl (by omega) k k22 m (by omega));clear hb1 nb1 hb2 nb2;clear h hk hf hn hm hp hpm hnm hfq;exact agR
theorem apN (h:Ar w 195 g base cap A c bs) (hb:base<=4611686018427387904) (n:Nat) (hn:bs.length=n) (hl:n<=16384) (q k f m p:Nat) (hk:aa2 bs (q:Int)=(k:Int)) (hf:aaf bs (8+8*k)=f) (hm:aaf bs (q+8)=m) (hp:aaf bs (q+16)=p) (hp0:p≠0) (hpm:abr bs k p 8 q=true) (hn0:m=0) (hfq:f≠q):
 Calls Tryz.prog 271 #[.pointer (some ⟨g,0,none⟩), .int .i64 (q:Int)] w fun e w'=>e= .returned (aav true 3)/\Became 195 g base cap A (abJ (lyN (lyN bs (p+8) m) (8+8*k) f) k) w w':=by
 obtain⟨q184,q32,k22⟩:=aa6 hk;have hfl:f<18446744073709551616:=by rw[<-hf];exact aan _ _
 have hml:m<18446744073709551616:=by rw[<-hm];exact aan _ _
 have hpl:p<18446744073709551616:=by rw[<-hp];exact aan _ _
 have HF:=hE0 (aa0 h hb (by omega) (q:Int) (by omega) k hk);have HFA:=hE0 (fun W=>aaI W k k22);have HNF:=hE0 (fun W (hB:Below w.heap.size w W)=>aai (h.below hB) hb (by omega) (8+8*(k:Int)) (8+8*k) (by omega) (by omega) f hf);have HNM:=hE0 (fun W (hB:Below w.heap.size w W)=>aai (h.below hB) hb (by omega) ((q:Int)+8) (q+8) (by omega) (by omega) m hm);have HNP:=hE0 (fun W (hB:Below w.heap.size w W)=>aai (h.below hB) hb (by omega) ((q:Int)+16) (q+16) (by omega) (by omega) p hp);have hq2:q+32<=n:=by omega
 have hq3:184<=q:=by omega
 have s1:((p:Int)==0)=false:=by rw[beq_eq_false_iff_ne];omega
 have s1b:((p:Int) !=0)=true:=by rw[bne_iff_ne];omega
 have HPM:=hE0 (fun W (hB:Below w.heap.size w W)=>abF (h.below hB) hb (by omega) k p 8 q k22 hpl (by omega) _ hpm);have s3:((m:Int) !=0)=false:=by subst hn0;rfl
 have s4:((f:Int)==(q:Int))=false:=by rw[beq_eq_false_iff_ne];omega
 have hpin:=aaN (abv hpm);have hp8:p+32<=n:=by omega
 have HBO:=hE0 (fun W (hB:Below w.heap.size w W)=>abt h hB);obtain⟨b1,hb1⟩:∃b,lyN bs (p+8) m=b:=⟨_,rfl⟩;have nb1:b1.length=n:=by rw[<-hb1,aah _ _ _ (by omega)];exact hn
 have HS1:=fun W (hB:Became 195 g base cap A bs w W)=>aaS hB hb (by omega) ((p:Int)+8) (p+8) (by omega) (by omega) m hml;rw[hb1]at HS1 ⊢;have HS1:=hE0 HS1;have HSF:=hE0 (fun W (hB:Became 195 g base cap A b1 w W)=>abi hB hb n nb1 hl (by omega) k k22 f (by omega));clear hb1 nb1;clear h hk hf hn hm hp hpm hn0;exact agQ
theorem apO (h:Ar w 195 g base cap A c bs) (hb:base<=4611686018427387904) (n:Nat) (hn:bs.length=n) (hl:n<=16384) (q k f m p:Nat) (hk:aa2 bs (q:Int)=(k:Int)) (hf:aaf bs (8+8*k)=f) (hm:aaf bs (q+8)=m) (hp:aaf bs (q+16)=p) (hp0:p≠0) (hpm:abr bs k p 8 q=true) (hn0:m≠0) (hnm:abr bs k m 16 q=true) (hfq:f≠q):
 Calls Tryz.prog 271 #[.pointer (some ⟨g,0,none⟩), .int .i64 (q:Int)] w fun e w'=>e= .returned (aav true 3)/\Became 195 g base cap A (abJ (lyN (lyN (lyN bs (p+8) m) (m+16) p) (8+8*k) f) k) w w':=by
 obtain⟨q184,q32,k22⟩:=aa6 hk;have hfl:f<18446744073709551616:=by rw[<-hf];exact aan _ _
 have hml:m<18446744073709551616:=by rw[<-hm];exact aan _ _
 have hpl:p<18446744073709551616:=by rw[<-hp];exact aan _ _
 have HF:=hE0 (aa0 h hb (by omega) (q:Int) (by omega) k hk);have HFA:=hE0 (fun W=>aaI W k k22);have HNF:=hE0 (fun W (hB:Below w.heap.size w W)=>aai (h.below hB) hb (by omega) (8+8*(k:Int)) (8+8*k) (by omega) (by omega) f hf);have HNM:=hE0 (fun W (hB:Below w.heap.size w W)=>aai (h.below hB) hb (by omega) ((q:Int)+8) (q+8) (by omega) (by omega) m hm);have HNP:=hE0 (fun W (hB:Below w.heap.size w W)=>aai (h.below hB) hb (by omega) ((q:Int)+16) (q+16) (by omega) (by omega) p hp);have hq2:q+32<=n:=by omega
 have hq3:184<=q:=by omega
 have s1:((p:Int)==0)=false:=by rw[beq_eq_false_iff_ne];omega
 have s1b:((p:Int) !=0)=true:=by rw[bne_iff_ne];omega
 have HPM:=hE0 (fun W (hB:Below w.heap.size w W)=>abF (h.below hB) hb (by omega) k p 8 q k22 hpl (by omega) _ hpm);have HNH:=hE0 (fun W (hB:Below w.heap.size w W)=>abF (h.below hB) hb (by omega) k m 16 q k22 hml (by omega) _ hnm);have s3:((m:Int) !=0)=true:=by rw[bne_iff_ne];omega
 have s4:((f:Int)==(q:Int))=false:=by rw[beq_eq_false_iff_ne];omega
 have hpin:=aaN (abv hpm);have hp8:p+32<=n:=by omega
 have hnin:=aaN (abv hnm);have hn16:m+32<=n:=by omega
 have HBO:=hE0 (fun W (hB:Below w.heap.size w W)=>abt h hB);obtain⟨b1,hb1⟩:∃b,lyN bs (p+8) m=b:=⟨_,rfl⟩;have nb1:b1.length=n:=by rw[<-hb1,aah _ _ _ (by omega)];exact hn
 have HS1:=fun W (hB:Became 195 g base cap A bs w W)=>aaS hB hb (by omega) ((p:Int)+8) (p+8) (by omega) (by omega) m hml;rw[hb1]at HS1 ⊢;have HS1:=hE0 HS1;obtain⟨b2,hb2⟩:∃b,lyN b1 (m+16) p=b:=⟨_,rfl⟩;have nb2:b2.length=n:=by rw[<-hb2,aah _ _ _ (by omega)];exact nb1
 have HS2:=fun W (hB:Became 195 g base cap A b1 w W)=>aaS hB hb (by omega) ((m:Int)+16) (m+16) (by omega) (by omega) p hpl;rw[hb2]at HS2 ⊢;have HS2:=hE0 HS2;have HSF:=hE0 (fun W (hB:Became 195 g base cap A b2 w W)=>abi hB hb n nb2 hl (by omega) k k22 f (by omega));clear hb1 nb1 hb2 nb2;clear h hk hf hn hm hp hpm hnm;exact agR
end
theorem ad7{bs:List UInt8}{k v j u:Nat}(h:abr bs k v j u=false):aap bs v (k:Int)=false\/(aaf bs (v+j):Int)≠(u:Int):=by
 unfold abr at h;rw[Bool.and_eq_false_iff,beq_eq_false_iff_ne]at h;rcases h with h | h
 · exact .inl h
 · exact .inr (by omega)
theorem aeM{bs:List UInt8}{k v j u:Nat}(h:abr bs k v j u=true):¬(aap bs v (k:Int)=false\/(aaf bs (v+j):Int)≠(u:Int)):=by
 unfold abr at h;rw[Bool.and_eq_true,beq_iff_eq]at h;rintro(h1 | h1)
 · rw[h.1]at h1;cases h1
 · exact h1 (by omega)
theorem arX (bs:List UInt8) (o v e k:Nat) (h1:o+8<=e) (h2:e+8<=bs.length):lyN (lyN bs e k) o v=lyN (lyN bs o v) e k:=by
 have:=akb bs o v e k h1 h2;simpa only[aiP]using this
theorem auZ:avX:=by
 intro w g base cap c A bs o y h hb hl ho hy;subst hy;rcases aeC bs o with hk | ⟨k,hk⟩
 · have e:aeB bs o=none:=by unfold aeB;rw[if_pos hk]
   rw[e];exact arW h hb _ rfl hl o ho hk
 · obtain⟨q184,q32,k22⟩:=aa6 hk;obtain⟨q,rfl⟩:∃q:Nat,o=(q:Int):=⟨o.toNat,by omega⟩;obtain⟨f,hf⟩:=nmE (aaf bs (8+8*k));obtain⟨m,hm⟩:=nmE (aaf bs (q+8));obtain⟨p,hp⟩:=nmE (aaf bs (q+16));have e:aeB bs (q:Int)=if p=0/\(f:Int)≠(q:Int) then none
    else if p≠0/\(aap bs p (k:Int)=false\/(aaf bs (p+8):Int)≠(q:Int)) then none
    else if m≠0/\(aap bs m (k:Int)=false\/(aaf bs (m+16):Int)≠(q:Int)) then none
    else some (abJ (if p≠0/\(f:Int)=(q:Int) then lyN (if m≠0 then lyN (if p=0 then lyN bs (8+8*k) m else lyN bs (p+8) m) (m+16) p else (if p=0 then lyN bs (8+8*k) m else lyN bs (p+8) m)) (8+8*k) m else (if m≠0 then lyN (if p=0 then lyN bs (8+8*k) m else lyN bs (p+8) m) (m+16) p else (if p=0 then lyN bs (8+8*k) m else lyN bs (p+8) m))) k):=by
    unfold aeB;rw[hk,if_neg (by omega)];simp only[Int.toNat_natCast,hf,hm,hp]
   rw[e];by_cases hp0:p=0
   · by_cases hfq:f=q
     · rw[if_neg (by omega),if_neg (by omega)];by_cases hm0:m=0
       · rw[if_neg (by omega),if_neg (by omega),if_neg (by omega),if_pos hp0];exact apJ h hb _ rfl hl q k f m p hk hf hm hp hp0 hfq hm0
       · cases hmh:abr bs k m 16 q with
         | false=>
          rw[if_pos ⟨hm0,ad7 hmh⟩];exact alz h hb _ rfl hl q k f m p hk hf hm hp hp0 hfq hm0 hmh
         | true=>
          have hin:=aaN (abv hmh);rw[if_neg (fun h=>aeM hmh h.2),if_neg (by omega),if_pos hm0,if_pos hp0,<-arX bs (8+8*k) m (m+16) p (by omega) (by omega)];exact apK h hb _ rfl hl q k f m p hk hf hm hp hp0 hfq hm0 hmh
     · rw[if_pos ⟨hp0,by omega⟩];exact aly h hb _ rfl hl q k f m p hk hf hm hp hp0 hfq
   · rw[if_neg (fun h=>hp0 h.1)]
     cases hph:abr bs k p 8 q with
     | false=>
      rw[if_pos ⟨hp0,ad7 hph⟩];exact anN h hb _ rfl hl q k f m p hk hf hm hp hp0 hph
     | true=>
      have hpin:=aaN (abv hph);rw[if_neg (fun h=>aeM hph h.2)];by_cases hm0:m=0
      · rw[if_neg (fun h=>h.1 hm0)];by_cases hfq:f=q
        · rw[if_pos ⟨hp0,by omega⟩,if_neg (fun h=>h hm0),if_neg hp0];exact apL h hb _ rfl hl q k f m p hk hf hm hp hp0 hph hm0 hfq
        · rw[if_neg (fun h=>hfq (by omega)),if_neg (fun h=>h hm0),if_neg hp0];have e2:lyN (lyN bs (p+8) m) (8+8*k) f=lyN bs (p+8) m:=by
           have h1:aaf (lyN bs (p+8) m) (8+8*k)=f:=by rw[aaz _ _ _ _ (by omega) (by omega)];exact hf
           rw[<-h1];exact aiI _ _ (by rw[aah _ _ _ (by omega)];omega)
          have:=apN h hb _ rfl hl q k f m p hk hf hm hp hp0 hph hm0 hfq;rw[e2]at this;exact this
      · cases hmh:abr bs k m 16 q with
        | false=>
         rw[if_pos ⟨hm0,ad7 hmh⟩];exact alA h hb _ rfl hl q k f m p hk hf hm hp hp0 hph hm0 hmh
        | true=>
         have hin:=aaN (abv hmh);rw[if_neg (fun h=>aeM hmh h.2)];by_cases hfq:f=q
         · rw[if_pos ⟨hp0,by omega⟩,if_pos hm0,if_neg hp0];exact apM h hb _ rfl hl q k f m p hk hf hm hp hp0 hph hm0 hmh hfq
         · rw[if_neg (fun h=>hfq (by omega)),if_pos hm0,if_neg hp0];have hl1:(lyN bs (p+8) m).length=bs.length:=aah _ _ _ (by omega);have e2:lyN (lyN (lyN bs (p+8) m) (m+16) p) (8+8*k) f=lyN (lyN bs (p+8) m) (m+16) p:=by
            have h1:aaf (lyN (lyN bs (p+8) m) (m+16) p) (8+8*k)=f:=by rw[aaz _ _ _ _ (by omega) (by omega),aaz _ _ _ _ (by omega) (by omega)];exact hf
            rw[<-h1];exact aiI _ _ (by rw[aah _ _ _ (by omega)];omega)
           have:=apO h hb _ rfl hl q k f m p hk hf hm hp hp0 hph hm0 hmh hfq;rw[e2]at this;exact this
theorem avF:aws:=by
 intro w g base cap c A bs k x h hb hl hk hx;have hk1:¬(k:Int)<0:=by omega
 have hk2:¬22<=(k:Int):=by omega
 by_cases h0:bs.length<184
 · obtain rfl:none=x:=by rw[<-hx];unfold afH;rw[if_pos h0]
   have HL:=hE0 (abO h);clear hx h;go_enter Tryz.func102,Tryz.ntmps102
   go_wp2_with fail
   with_reducible refine HL.out.mono ?_
   rintro e w1 ⟨rfl,rfl⟩;go_wp2
   go_ret2
   exact⟨none,0,rfl,World.ownsRow_nil _ _ _ _,Below.refl _ _⟩
 · obtain⟨f,hf⟩:=nmE (aaf bs (8+8*k));obtain⟨b,hbt⟩:=nmE (acC (aaf bs 0) k);have hfl:f<18446744073709551616:=by rw[<-hf];exact aan _ _
   have hx':(if b≠decide (f≠0) then none else aeR bs k 1024 0 f)=x:=by rw[<-hx];unfold afH;rw[if_neg h0,hf,hbt]
   have HL:=hE0 (abO h);have HFA:=hE0 (aaI w k hk);have HNF:=hE0 (aai h hb hl (8+8*(k:Int)) (8+8*k) (by omega) (by omega) f hf);have HBT:=hE0 (alw h hb hl (by omega) k hk b hbt);have HAR:=hE0 h;have HBASE:=hE0 hb;obtain⟨d,hd⟩:=nmE (decide (f≠0));have hd2:((f:Int) !=0)=d:=by
    rw[<-hd,Bool.eq_iff_iff,bne_iff_ne,decide_eq_true_eq];omega
   rw[hd]at hx';clear hf hbt hx h hb;by_cases hbd:b=d
   · subst hbd;rw[if_neg (by simp)]at hx';obtain⟨i0,hi,hz0,hz1,hz2⟩:=info_parts atu;have HX:=hE0 hx';obtain⟨B0,hB0⟩:=nmE w.heap.size;have HB0:=hE0 hB0;have hbb:(b !=b)=false:=by simp
     clear hx' hB0 hd;go_enter Tryz.func102,Tryz.ntmps102
     go_wp2_with fail
     with_reducible refine HL.out.mono ?_
     rintro e w1 ⟨rfl,rfl⟩;go_wp2_with fail
     with_reducible refine HFA.out.mono ?_
     rintro e w1 ⟨rfl,rfl⟩;go_wp2_with fail
     with_reducible refine HNF.out.mono ?_
     rintro e w1 ⟨rfl,rfl⟩;go_wp2_with fail
     with_reducible refine HBT.out.mono ?_
     rintro e w1 ⟨rfl,rfl⟩;clear HL HFA HNF HBT;go_wp2
     clear hd2;go_loopw [6,7,8] (fun q o t wr=>∃(p last n:Nat) (l:List Nat),q= .int .u64 (p:Int)/\t= .int .u64 (last:Int)/\p<18446744073709551616/\last<18446744073709551616/\n+l.length=1024/\x=(aeR bs k n last p).map (l++ ·)/\wr.ownsRow B0 3 1 o l.length (l.map iV)/\Below B0 w wr) (fun _ o _ _=>match o with | .slice _ n _=>1024-n | _=>0)
     case atStart=>exact⟨f,0,1024,[],rfl,rfl,hfl,by omega,rfl,by rw[HX.out];simp,World.ownsRow_nil _ _ _ _,Below.refl _ _⟩
     case round=>
      obtain⟨p,last,n,l,rfl,rfl,hp,hlast,hn,hxl,hown,hbw⟩:=hrel;obtain⟨A7,c7,rfl⟩:=adY hown;have hBw:B0<=wr.heap.size:=by have:=hbw.size;have:=HB0.out;omega
      by_cases hp0:p=0
      · subst hp0;obtain rfl:x=some l:=by rw[hxl];cases n<;>simp[aeR]
        have HB:=hE0 hbw;have HO:=hE0 hown;clear hxl hown hbw HX HAR HBASE;go_wp2
        go_ret2
        exact⟨A7,c7,rfl,by rw[HB0.out];exact HO.out,by rw[HB0.out];exact HB.out⟩
      · have hq0:((p:Int) !=0)=true:=by rw[bne_iff_ne];omega
        have har:=HAR.out.below (by rw[HB0.out];exact hbw);by_cases hn0:n=0
        · subst hn0;obtain rfl:x=none:=by rw[hxl];simp[aeR,hp0]
          have e1:((l.length:Int)==1024)=true:=by rw[beq_iff_eq];omega
          have HB:=hE0 hbw;clear hxl hown hbw HX HAR HBASE har;go_wp2
          go_ret2
          exact⟨none,0,rfl,World.ownsRow_nil _ _ _ _,by rw[HB0.out];exact HB.out⟩
        · obtain⟨n,rfl⟩:∃n',n=n'+1:=⟨n-1,by omega⟩;have e1:((l.length:Int)==1024)=false:=by rw[beq_eq_false_iff_ne];omega
          have hstep:x=(if aap bs p (k:Int)=true/\aaf bs (p+16)=last then (aeR bs k n p (aaf bs (p+8))).map (p:: ·) else none).map (l++ ·):=by
           rw[hxl];conv=>lhs;unfold aeR
           rw[if_neg hp0]
          cases hm:abr bs k p 16 last with
          | false=>
           rw[if_neg (by
            rintro⟨h1,h2⟩;unfold abr at hm;rw[h1,h2]at hm;simp at hm)]at hstep
           obtain rfl:x=none:=hstep;have HM:=hE0 (abF har HBASE.out hl k p 16 last hk hp (by omega) false hm);have HB:=hE0 hbw;clear hxl hown hbw HX HAR HBASE har hm;go_wp2_with fail
           refine HM.out.mono ?_;rintro e w2 ⟨rfl,hb2⟩;have HB2:=hE0 (HB.out.trans (hb2.mono hBw));clear hb2;go_wp2
           go_ret2
           exact⟨none,0,rfl,World.ownsRow_nil _ _ _ _,by rw[HB0.out];exact HB2.out⟩
          | true=>
           obtain⟨hm1,hm2⟩:aap bs p (k:Int)=true/\aaf bs (p+16)=last:=by
            unfold abr at hm;rw[Bool.and_eq_true,beq_iff_eq]at hm;exact hm
           have hpf:=aaN hm1;obtain⟨nx,hnx⟩:=nmE (aaf bs (p+8));have hnl:nx<18446744073709551616:=by rw[<-hnx];exact aan _ _
           rw[if_pos ⟨hm1,hm2⟩,hnx]at hstep;have hstep':x=(aeR bs k n p nx).map ((l++ [p])++ ·):=by
            rw[hstep,Option.map_map];congr 1;funext r;simp
           have hp16:p<=16384:=by omega
           have hww:w.heap.size<=wr.heap.size:=by have:=HB0.out;omega
           have HN:=hE0 (fun W (hB:Below w.heap.size w W)=>aai (HAR.out.below hB) HBASE.out hl ((p:Int)+8) (p+8) (by omega) (by omega) nx hnx);have HM:=hE0 (abF har HBASE.out hl k p 16 last hk hp (by omega) true hm);have HB:=hE0 hbw;have HS:=hE0 hstep';have HOWN:=hE0 hown;have HALT:Hid (∀k,(Value.slice A7 l.length c7).ownBlock=some k->B0<=k/\k<wr.heap.size):=hown.lt;clear hxl hstep hstep' hown hbw HX hm hm1 hm2 hnx har HAR HBASE;go_wp2_with fail
           refine HM.out.mono ?_;rintro e w2 ⟨rfl,hb2⟩;have H2:=hE0 hb2;have own4:=aaw (aaw HOWN.out hb2) ((Below.refl w2.heap.size w2).alloc (Nat.le_refl _) (.cells #[.int .i64 (p:Int)] 3));have n4:(w2.alloc (.cells #[.int .i64 (p:Int)] 3)).heap[w2.heap.size]?=some (.cells #[.int .i64 (p:Int)] 3 (0,0)):=heap_alloc_new w2 _;have HNEW:Hid (∀j u,[Value.int .i64 (p:Int)][j]?=some u->(w2.alloc (.cells #[.int .i64 (p:Int)] 3)).cell? ((⟨w2.heap.size,0,none⟩:Addr).add j)=some u):=fun j u hu=>by
            have e:(⟨w2.heap.size,0,none⟩:Addr).add j=⟨w2.heap.size,j,none⟩:=by unfold Addr.add;split<;>simp_all
            rw[e,cell_of_row _ _ j _ _ (0,0) n4];simpa using hu
           have HONE:Hid (∀u∈ [Value.int .i64 (p:Int)],u.oneCell'=true):=fun u hu=>by
            simp at hu;subst hu;rfl
           have hB4:B0<=(w2.alloc (.cells #[.int .i64 (p:Int)] 3)).heap.size:=by simp;have:=hb2.size;omega
           have HB4:Hid (Below w2.heap.size w2 (w2.alloc (.cells #[.int .i64 (p:Int)] 3))):=(Below.refl w2.heap.size w2).alloc (Nat.le_refl _) _;have OWN4:=hE0 own4;have hsz2:=hb2.size;clear own4 n4 hb2 HOWN HM;go_wp2_with (first
            | (at_builtin;go_must (refine wpList_append_own _ rfl _ _ 23 rfl B0 3 i0 _ 1 8 Tryz.underlying23 hi hz0 hz1 hz2 rfl (by decide) _ l.length (l.map iV) rfl OWN4.out ⟨w2.heap.size,0,none⟩ 1 1 [.int .i64 (p:Int)] rfl rfl HNEW.out HONE.out (by unfold maxLen;omega) (by omega) hB4 ?_);intro x5 w5 own5 gr5 at5
               have gr5':(w2.alloc (.cells #[.int .i64 (p:Int)] 3)).grownBy w5 (Value.slice A7 l.length c7).ownBlock:=gr5;have HB5:Hid (Below B0 wr w5):=((H2.out.mono hBw).trans (HB4.out.mono (by omega))).grown gr5' hB4 (fun k hk=>(HALT.out k hk).1);have HW5:Hid (Below w.heap.size w w5):=(show Below w.heap.size w w5 by rw[HB0.out];exact HB.out.trans HB5.out);have OWN5:Hid (w5.ownsRow B0 3 1 x5 (l.length+1) ((l++ [p]).map iV)):=(show World.ownsRow _ _ _ _ _ _ _ by rw[List.map_append];exact own5);clear own5 gr5 gr5' at5)
            | fail)
           refine(HN.out w5 HW5.out).mono ?_;rintro e w6 ⟨rfl,rfl⟩;have HBE:=hE0 (HB.out.trans HB5.out);clear HN H2 HB4 OWN4 HNEW HONE;go_wp2
           go_roundw
           case rel=>exact⟨nx,p,n,l++ [p],rfl,rfl,hnl,hp,by rw[List.length_append,List.length_singleton];omega,HS.out,by rw[List.length_append,List.length_singleton];exact OWN5.out,HBE.out⟩
           case measure=>
            obtain⟨A8,c8,rfl⟩:=adY OWN5.out;simp;omega
   · rw[if_pos hbd]at hx';obtain rfl:none=x:=hx';have hcs:(b=true/\d=false)\/(b=false/\d=true):=by cases b<;>cases d<;>simp_all
     clear hd hbd HAR HBASE;rcases hcs with⟨rfl,rfl⟩ | ⟨rfl,rfl⟩;all_goals
      go_enter Tryz.func102,Tryz.ntmps102
      go_wp2_with fail
      with_reducible refine HL.out.mono ?_
      rintro e w1 ⟨rfl,rfl⟩;go_wp2_with fail
      with_reducible refine HFA.out.mono ?_
      rintro e w1 ⟨rfl,rfl⟩;go_wp2_with fail
      with_reducible refine HNF.out.mono ?_
      rintro e w1 ⟨rfl,rfl⟩;go_wp2_with fail
      with_reducible refine HBT.out.mono ?_
      rintro e w1 ⟨rfl,rfl⟩;clear HL HFA HNF HBT;go_wp2
      go_ret2
      exact⟨none,0,rfl,World.ownsRow_nil _ _ _ _,Below.refl _ _⟩
def ake (bs:List UInt8) (s:Int):Value:=if aaG s=true then .tuple #[.int .i64 (((aoT bs s).getD 0:Nat):Int),aav (aoT bs s).isSome 3] else .tuple #[.int .i64 0,aav false 1]
def avY:Prop:=∀(w:World) (g base cap c:Nat) (A:Option Addr) (bs:List UInt8) (s:Int),Ar w 195 g base cap A c bs->base<=4611686018427387904->bs.length<=16384->(-9223372036854775808<=s/\s<=9223372036854775807)->
 Calls Tryz.prog 233 #[.pointer (some ⟨g,0,none⟩), .int .i64 s] w fun e w'=>e= .returned (ake bs s)/\Below w.heap.size w w'
def arY:Prop:=∀(w:World) (g base cap c:Nat) (A:Option Addr) (bs:List UInt8) (y:Option (List UInt8)),Ar w 195 g base cap A c bs->base<=4611686018427387904->bs.length<=16384->ab5 bs=y->
 Calls Tryz.prog 109 #[.pointer (some ⟨g,0,none⟩)] w fun e w'=>apD 3 195 g base cap A y w e w'
section
variable {w:World} {g base cap c:Nat} {A:Option Addr} {bs:List UInt8}
theorem anO (h:Ar w 195 g base cap A c bs) (hb:base<=4611686018427387904) (hl:bs.length<=16384) (h184:184<=bs.length) (z:List UInt8) (hz:List.replicate 184 (0:UInt8)++bs.drop 184=z):
 Calls Tryz.prog 173 #[.pointer (some ⟨g,0,none⟩)] w fun e w'=>e= .returned .nilIface/\Became 195 g base cap A z w w':=by
 have HA:=hE0 (acj h);have hf:=aoK h (by omega) base 184 0 0 (by omega) (by omega) (by omega) (by omega);have e:lay bs 0 (List.replicate 184 (0:UInt8))=z:=by
  have e1:(List.replicate 184 (0:UInt8)).length=184:=List.length_replicate;rw[<-hz];unfold lay;rw[e1,Nat.zero_add,List.take_zero,List.nil_append]
 rw[e]at hf;have HF:Hid (Calls Tryz.prog 194 #[.pointer (some ⟨g,0,none⟩), .int .u64 (base:Int), .int .u64 184, .int .u8 0] w fun e w'=>e= .returned .nilIface/\Became 195 g base cap A z w w'):=hf;clear hf e hz h;go_enter Tryz.func173,Tryz.ntmps173
 go_wp2_with fail
 with_reducible refine HA.out.mono ?_
 rintro e w1 ⟨rfl,rfl⟩;go_wp2_with fail
 refine HF.out.mono ?_;rintro e w1 ⟨rfl,hbe⟩;have HB:=hE0 hbe;clear hbe;go_wp2
 go_ret
 exact⟨rfl,HB.out⟩
end
section
variable {w w1 w2:World} {g base cap:Nat} {A:Option Addr} {out:List UInt8}
theorem aaB (h:Became 195 g base cap A out w w1) (hb:Below w1.heap.size w1 w2):Became 195 g base cap A out w w2:=by
 obtain⟨A',c',a,tc,k⟩:=h;exact Became.trans a tc k (abt a hb)
theorem arZ (h:184<=out.length) (o:Int):((ahH out o).getD out).length=out.length:=by
 cases hp:ahH out o with
 | none=>rfl
 | some y=>exact(agv h hp).1
theorem anP (h:Became 195 g base cap A out w w1) (hb:base<=4611686018427387904) (hl:out.length<=16384) (o:Int) (ho: -9223372036854775808<=o/\o<=9223372036854775807):
 Calls Tryz.prog 174 #[.pointer (some ⟨g,0,none⟩), .int .i64 o] w1 fun e w2=>(∃v,e= .returned v)/\Became 195 g base cap A ((ahH out o).getD out) w w2:=by
 obtain⟨A',c',a,tc,k⟩:=h;refine(awk w1 g base cap c' A' out o _ a hb hl ho rfl).mono ?_;intro e w2 hd;unfold apD at hd
 cases hp:ahH out o with
 | none=>
  rw[hp]at hd;exact⟨⟨_,hd.1⟩,Became.trans a tc k (abt a hd.2)⟩
 | some y=>
  rw[hp]at hd;exact⟨⟨_,hd.1⟩,Became.trans a tc k hd.2⟩
end
section
variable {w:World} {g base cap c:Nat} {A:Option Addr} {bs:List UInt8}
theorem anQ (h:Ar w 195 g base cap A c bs) (hb:base<=4611686018427387904) (hl:bs.length<=16384) (A2:Option Addr) (c2 B1:Nat) (l:List Nat) (ho:w.ownsRow B1 3 1 (.slice A2 l.length c2) l.length (l.map iV)) (hm:∀o∈l,o<=20000/\∃x,aa8 bs (o:Int)=some x) (s:Int) (x:Nat) (hx:(l.find? fun o=>decide (s<=(szB bs o:Int))).getD 0=x):
 Calls Tryz.prog 269 #[.pointer (some ⟨g,0,none⟩), .slice A2 l.length c2, .int .i64 s] w fun e w'=>e= .returned (.int .i64 (x:Int))/\Below w.heap.size w w':=by
 have hcl:l.length<=c2/\c2<=9223372036854775807:=by
  rcases ho.2 with⟨h',h0⟩ | ⟨_,_,_,h',_,_,h1,h2,_⟩
  · injection h' with _ _ e;rw[h0,e];omega
  · injection h' with _ _ e;unfold maxLen at h2;omega
 have HX:=hE0 hx;have HAR:=hE0 h;have HO:=hE0 ho;have HMEM:=hE0 hm;have HBASE:=hE0 hb;obtain⟨B0,hB0⟩:=nmE w.heap.size;have HB0:=hE0 hB0;clear hx h ho hm hb hB0;go_enter Tryz.func269,Tryz.ntmps269
 go_wp2
 go_loopw [13] (fun i wr=>∃j:Nat,j<=l.length/\i= .int .i64 (j:Int)/\(∀q∈l.take j,decide (s<=(szB bs q:Int))=false)/\Below B0 w wr) (fun i _=>l.length-(intOf i).toNat)
 case atStart=>exact⟨0,Nat.zero_le _,rfl,by simp,Below.refl _ _⟩
 case round=>
  obtain⟨j,hj,rfl,hall,hb3⟩:=hrel;have hBw:B0<=wr.heap.size:=by have:=hb3.size;have:=HB0.out;omega
  by_cases hlt:j<l.length
  · obtain⟨o,ho⟩:∃o,l[j]?=some o:=⟨l[j],List.getElem?_eq_getElem hlt⟩;have hb4:Below w.heap.size w wr:=by rw[HB0.out];exact hb3
    have own3:=aaw HO.out hb4;obtain⟨b2,rfl⟩:∃b2,A2=some ⟨b2,0,none⟩:=by
     rcases own3.2 with⟨_,h0⟩ | ⟨g,_,_,h',_⟩
     · omega
     · injection h' with e;exact⟨g,e⟩
    have hcell:wr.cell? ⟨b2,j,none⟩=some (.int .i64 (o:Int)):=by
     rw[own3.cellAt j (by omega),List.getElem?_map,ho];rfl
    have har:=HAR.out.below hb4;obtain⟨ho20,⟨xo,xs,xu⟩,hg⟩:=HMEM.out o (List.mem_of_getElem? ho);have hsz:=asX hg;dsimp only at hsz;have hG:=alu wr g base cap c A bs (o:Int) _ har HBASE.out hl (by omega) hg;dsimp only[aaE,bkV,Bk.val,Option.isSome,aav]at hG;have q:=(aab _).1 (aay hg).2.2.2.2.1;dsimp only at q;have HG:=hE0 hG;have HALL:=hE0 hall;have HOO:=hE0 ho;have HB2R:=hE0 hb3;clear hG hg hb3 hb4 own3 hall har ho;by_cases hge:s<=(xs:Int)
    · have hx1:x=o:=by
       rw[<-HX.out,ao1 HALL.out HOO.out (by rw[hsz];simpa using hge)];rfl
      subst hx1;clear HX;go_wp2_with fail
      with_reducible refine HG.out.mono ?_
      rintro e w4 ⟨rfl,hb4⟩;have HB4:=hE0 (HB2R.out.trans (hb4.mono hBw));have HS4:=hE0 hb4.size;clear hb4;go_wp2
      go_ret
      exact⟨rfl,by rw[HB0.out];exact HB4.out.alloc (by have:=HS4.out;omega) _⟩
    · go_wp2_with fail
      with_reducible refine HG.out.mono ?_
      rintro e w4 ⟨rfl,hb4⟩;have HB4:=hE0 (HB2R.out.trans (hb4.mono hBw));have HS4:=hE0 hb4.size;clear hb4;go_wp2
      go_roundw
      case rel=>exact⟨j+1,by omega,rfl,by
       intro q hq;rw[List.take_add_one,HOO.out]at hq;rcases List.mem_append.1 hq with hq | hq
       · exact HALL.out q hq
       · simp at hq;rw[hq,hsz];simpa using hge,HB4.out.alloc (by have:=HS4.out;omega) _⟩
      case measure=>simp only[intOf];omega
  · obtain rfl:j=l.length:=by omega
    have hx2:x=0:=by
     rw[<-HX.out,ano (by rw[List.take_length]at hall;exact hall)];rfl
    subst hx2;have HB4:=hE0 hb3;clear HX hall hb3;go_wp2
    go_ret
    exact⟨rfl,by rw[HB0.out];exact HB4.out⟩
end
theorem findC:avY:=by
 intro w g base cap c A bs s h hb hl hs
 cases hz:aaG s
 · have hv:ake bs s= .tuple #[.int .i64 0,aav false 1]:=by unfold ake;rw[if_neg (by rw[hz];simp)]
   have hc:aaq s= -1:=by simp[aaq,hz]
   rw[hv];have hC:=ajV w s hs;rw[hc]at hC;have HC:=hE0 hC;clear hz hv hc hC h hb;go_enter Tryz.func233,Tryz.ntmps233
   go_wp2_with fail
   with_reducible refine HC.out.mono ?_
   rintro e w1 ⟨rfl,hb1⟩;have HB:=hE0 hb1;clear hb1;go_wp2
   go_ret2
   exact⟨rfl,HB.out⟩
 · obtain⟨k0,hk0,hk22⟩:∃k0:Nat,aaq s=(k0:Int)/\k0<22:=by
    have h1:=acE s;have h2:¬aaq s<0:=by rw[ahC];simp[hz]
    exact⟨(aaq s).toNat,by omega,by omega⟩
   obtain⟨x,hx⟩:=nmE (ahp bs s (22-k0) k0);have hv:ake bs s= .tuple #[.int .i64 ((x.getD 0:Nat):Int),aav x.isSome 3]:=by
    unfold ake aoT;rw[if_pos hz,hk0,Int.toNat_natCast,hx]
   rw[hv];have hC:=ajV w s hs;rw[hk0]at hC;have HC:=hE0 hC;have HX:=hE0 hx;have HAR:=hE0 h;have HBASE:=hE0 hb;obtain⟨B0,hB0⟩:=nmE w.heap.size;have HB0:=hE0 hB0;clear hz hv hk0 hC h hx hB0 hb;go_enter Tryz.func233,Tryz.ntmps233
   go_wp2_with fail
   with_reducible refine HC.out.mono ?_
   rintro e w1 ⟨rfl,hb1⟩;have HB1:=hE0 hb1;clear hb1 HC;go_wp2
   go_loopw [7] (fun t wr=>∃d k:Nat,t= .int .i64 (d:Int)/\d+k=22/\x=ahp bs s k d/\Below B0 w wr) (fun t _=>22-(intOf t).toNat)
   case atStart=>exact⟨k0,22-k0,rfl,by omega,HX.out.symm,by rw[<-HB0.out];exact HB1.out⟩
   case round=>
    obtain⟨d,k,rfl,hdk,hxf,hb2⟩:=hrel;have hBw:B0<=wr.heap.size:=by have:=hb2.size;have:=HB0.out;omega
    by_cases hd22:d<22
    · obtain⟨k,rfl⟩:∃k',k=k'+1:=⟨k-1,by omega⟩;have har:Ar wr 195 g base cap A c bs:=HAR.out.below (by rw[HB0.out];exact hb2)
      cases ha:afH bs d with
      | none=>
       obtain rfl:x=none:=by rw[hxf];simp[ahp,ha]
       have hA:=avF wr g base cap c A bs d _ har HBASE.out hl hd22 ha;dsimp only[afb,Option.isSome,Option.getD,aav]at hA;have HA:=hE0 hA;have HB:=hE0 hb2;clear hA hb2 hxf har HX ha HAR;go_wp2_with fail
       with_reducible refine HA.out.mono ?_
       rintro e w2 ⟨A',c',rfl,_,hb3⟩;have HB2:=hE0 (HB.out.trans (hb3.mono hBw));clear hb3;go_wp2
       go_ret2
       exact⟨rfl,by rw[HB0.out];exact HB2.out⟩
      | some l=>
       have hA:=avF wr g base cap c A bs d _ har HBASE.out hl hd22 ha;dsimp only[afb,Option.isSome,Option.getD,aav]at hA;have hxf':x=(match l.find? (fun o=>decide (s<=(szB bs o:Int)))with
        | some o=>some o
        | none=>ahp bs s k (d+1)):=by
        rw[hxf];conv=>lhs;unfold ahp
        rw[ha]<;>rfl
       have hmem:∀o∈l,184<=o/\o<=20000/\∃x,aa8 bs (o:Int)=some x:=fun o ho=>by
        have hm:=acM ha o ho;obtain⟨h1,x,h2⟩:=aeE hm;have:=(aaN hm);exact⟨by omega,h1,x,h2⟩
       have HF:=hE0 (fun(W:World) (hB:Below wr.heap.size wr W) (A2:Option Addr) (c2 B1:Nat) (ho:W.ownsRow B1 3 1 (.slice A2 l.length c2) l.length (l.map iV))=>anQ (har.below hB) HBASE.out hl A2 c2 B1 l ho (fun o ho=>(hmem o ho).2) s);have HA:=hE0 hA;have HB:=hE0 hb2;have HXF:=hE0 hxf';have HMEM:=hE0 hmem;clear hA hb2 hxf hxf' har HX ha hmem HAR
       cases hfd:l.find? (fun o=>decide (s<=(szB bs o:Int)))with
       | some o=>
        obtain rfl:x=some o:=by rw[HXF.out,hfd]
        obtain⟨o184,o20,_⟩:=HMEM.out o (List.mem_of_find?_eq_some hfd);have ho0:((o:Int) !=0)=true:=by rw[bne_iff_ne];omega
        have HF2:=hE0 (fun W hB A2 c2 B1 ho=>HF.out W hB A2 c2 B1 ho o (by rw[hfd];rfl));clear HF HXF hfd HMEM;go_wp2_with fail
        with_reducible refine HA.out.mono ?_
        rintro e w2 ⟨A2,c2,rfl,ho2,hb3⟩;have HFF:=hE0 (HF2.out w2 hb3 A2 c2 _ ho2);have HB2:=hE0 (HB.out.trans (hb3.mono hBw));have hs2:=hb3.size;clear hb3 ho2 HA HF2;go_wp2_with fail
        with_reducible refine HFF.out.mono ?_
        rintro e w3 ⟨rfl,hb4⟩;have HB3:=hE0 (HB2.out.trans (hb4.mono (by omega)));clear hb4 HFF;go_wp2
        go_ret2
        exact⟨rfl,by rw[HB0.out];exact HB3.out⟩
       | none=>
        have hx2:x=ahp bs s k (d+1):=by rw[HXF.out,hfd]
        have HF2:=hE0 (fun W hB A2 c2 B1 ho=>HF.out W hB A2 c2 B1 ho 0 (by rw[hfd];rfl));have HX2:=hE0 hx2;clear HF HXF hfd HMEM hx2;go_wp2_with fail
        with_reducible refine HA.out.mono ?_
        rintro e w2 ⟨A2,c2,rfl,ho2,hb3⟩;have HFF:Hid (Calls Tryz.prog 269 #[.pointer (some ⟨g,0,none⟩), .slice A2 l.length c2, .int .i64 s] w2 fun e w'=>e= .returned (.int .i64 0)/\Below w2.heap.size w2 w'):=HF2.out w2 hb3 A2 c2 _ ho2;have HB2:=hE0 (HB.out.trans (hb3.mono hBw));have hs2:=hb3.size;clear hb3 ho2 HA HF2;go_wp2_with fail
        with_reducible refine HFF.out.mono ?_
        rintro e w3 ⟨rfl,hb4⟩;have HB3:=hE0 (HB2.out.trans (hb4.mono (by omega)));clear hb4 HFF;go_wp2
        go_roundw
        case rel=>exact⟨d+1,k,by go_num,by omega,HX2.out,HB3.out⟩
        case measure=>simp only[intOf];omega
    · obtain⟨rfl,rfl⟩:d=22/\k=0:=by omega
      obtain rfl:x=some 0:=by rw[hxf];rfl
      have HB:=hE0 hb2;clear hxf hb2 HX;go_wp2
      go_ret2
      exact⟨rfl,by rw[HB0.out];exact HB.out⟩
theorem amH{out:List UInt8}(h:184<=out.length) (x:Bk):(afT out x).length=out.length:=by
 unfold afT;split
 · rfl
 · exact arZ h _
theorem amI:∀(l:List Bk){out:List UInt8},184<=out.length->(l.foldl afT out).length=out.length
 | [],_,_=>rfl
 | x::r,out,h=>by
  rw[List.foldl_cons,amI r (by rw[amH h];exact h),amH h]
theorem ai0{S:Nat->Prop}{w w':World}(h:Tch S w w'){b j:Nat}{v:Value}(hc:w.cell? ⟨b,j,none⟩=some v) (hb:b<w.heap.size) (hn:¬S b):w'.cell? ⟨b,j,none⟩=some v:=
 (World.cell?_of_block (w:=w) (a:=⟨b,j,none⟩) (h.block b hb hn)).trans hc
theorem ar0:arY:=by
 intro w g base cap c A bs y h hb hl hy
 cases hw:abI bs with
 | none=>
  obtain rfl:none=y:=by rw[<-hy];unfold ab5;rw[hw];rfl
  have hW:=alv w g base cap c A bs _ h hb hl hw;dsimp only[ac0,Option.isSome,Option.getD,aav]at hW;dsimp only[apD,aav];have HW:=hE0 hW;clear hW hw hy h hb;go_enter Tryz.func109,Tryz.ntmps109
  go_wp2_with fail
  with_reducible refine HW.out.mono ?_
  rintro e w2 ⟨A',c',rfl,_,hb2⟩;have HB2:=hE0 hb2;clear hb2;go_wp2
  go_ret
  exact⟨rfl,HB2.out⟩
 | some l=>
  obtain⟨h184,hmem⟩:=ao2 hw;obtain⟨z,hz⟩:=nmE (List.replicate 184 (0:UInt8)++bs.drop 184);have hzl:z.length=bs.length:=by rw[<-hz,List.length_append,List.length_replicate,List.length_drop];omega
  obtain rfl:some (l.foldl afT z)=y:=by rw[<-hy,<-hz];unfold ab5;rw[hw];rfl
  have hW:=alv w g base cap c A bs _ h hb hl hw;dsimp only[ac0,Option.isSome,Option.getD,aav]at hW;dsimp only[apD,aav];have HCL:=hE0 (fun(W:World) (hB:Below w.heap.size w W)=>anO (h.below hB) hb hl h184 z hz);have HW:=hE0 hW;have HMEM:=hE0 hmem;have HAR:=hE0 h;have HBASE:=hE0 hb;have HZL:=hE0 hzl;obtain⟨B0,hB0⟩:=nmE w.heap.size;have HB0:=hE0 hB0;clear hW hw hy h hb hz hmem hzl hB0;go_enter Tryz.func109,Tryz.ntmps109
  go_wp2_with fail
  with_reducible refine HW.out.mono ?_
  rintro e w2 ⟨A2,c2,rfl,ho2,hb2⟩;have hcl:l.length<=c2/\c2<=9223372036854775807:=by
   rcases ho2.2 with⟨h',h0⟩ | ⟨_,_,_,h',_,_,h1,h2,_⟩
   · injection h' with _ _ e;rw[h0,e];omega
   · injection h' with _ _ e;unfold maxLen at h2;omega
  have HO2:=hE0 ho2;have HB2:=hE0 hb2;have HAR2:=hE0 (HAR.out.below hb2);have HCL2:=hE0 (HCL.out w2 hb2);clear hb2 ho2 HW HCL;go_wp2_with fail
  refine HCL2.out.mono ?_;rintro e w3 ⟨rfl,hbe⟩;have HBE:=hE0 hbe;clear hbe HCL2;go_wp2
  go_loopw [19] (fun t wr=>∃j:Nat,t= .int .i64 (j:Int)/\j<=l.length/\Became 195 g base cap A ((l.take j).foldl afT z) w2 wr) (fun t _=>l.length-(intOf t).toNat)
  case atStart=>exact⟨0,rfl,Nat.zero_le _,HBE.out⟩
  case round=>
   obtain⟨j,rfl,hj,hbe⟩:=hrel;by_cases hlt:j<l.length
   · obtain⟨x,hx⟩:∃x,l[j]?=some x:=⟨l[j],List.getElem?_eq_getElem hlt⟩;obtain⟨b,o,rfl,hbb,hc⟩:=ao3 HO2.out rfl (by omega);have hbB:B0<=b:=by have:=(HO2.out.lt b rfl).1;have:=HB0.out;omega
     have hnf:¬foot g A b:=fun hf=>by
      have h1:b<w.heap.size:=HAR.out.foot_lt hf;have:=HB0.out;omega
     obtain⟨p0,p1,p2⟩:=hc j x hx;have hg:=HMEM.out x (List.mem_of_getElem? hx);obtain⟨_,_,_,q3,_⟩:=aay hg;obtain⟨out,hout⟩:=nmE ((l.take j).foldl afT z);have hol:out.length=bs.length:=by rw[<-hout,amI _ (by have:=HZL.out;omega)];exact HZL.out
     have hnext:(l.take (j+1)).foldl afT z=afT out x:=by
      rw[List.take_add_one,hx,List.foldl_append,hout];rfl
     rw[hout]at hbe;have htc:Tch (foot g A) w2 wr:=by obtain⟨_,_,_,t,_⟩:=hbe;exact t
     have r0:=ai0 htc p0 hbb hnf;have r1:=ai0 htc p1 hbb hnf;have r2:=ai0 htc p2 hbb hnf;obtain⟨xo,xs,xu⟩:=x;dsimp only at p0 p1 p2 q3 r0 r1 r2;have hq:=(aab _).1 (aay hg).2.2.2.2.1;dsimp only at hq;obtain⟨w4,hw4⟩:=nmE (wr.alloc (.cells #[.int .i64 (xo:Int), .int .i64 (xs:Int), .bool xu] 112));have hb4:=abE hw4;have n4:=anE hw4;obtain⟨⟨d0,d1,d2⟩,_⟩:=aad n4;have HBE4:=hE0 (aaB hbe hb4);have HW4:=hE0 hw4;have HP:=hE0 (anP HBE4.out HBASE.out (by rw[hol];exact hl) (xo:Int) (by omega))
     cases xu with
     | true=>
      have HN:Hid ((l.take (j+1)).foldl afT z=out):=hnext;clear hnext hx hc hbe hout htc hg p0 p1 p2 hb4 n4 HP hw4 HAR HAR2;go_wp2_with (first | (rw[HW4.out]) | fail)
      go_roundw
      case rel=>exact⟨j+1,by go_num,by omega,by rw[HN.out];exact HBE4.out⟩
      case measure=>simp only[intOf];omega
     | false=>
      have HN:Hid ((l.take (j+1)).foldl afT z=(ahH out (xo:Int)).getD out):=hnext;clear hnext hx hc hbe hout htc hg p0 p1 p2 hb4 n4 hw4 HAR HAR2;go_wp2_with (first | (rw[HW4.out]) | fail)
      refine HP.out.mono ?_;rintro e w5 ⟨⟨v,rfl⟩,hbe5⟩;have HBE5:=hE0 hbe5;clear hbe5 HP;go_wp2
      go_roundw
      case rel=>exact⟨j+1,by go_num,by omega,by rw[HN.out];exact HBE5.out⟩
      case measure=>simp only[intOf];omega
   · obtain hjl:j=l.length:=by omega
     rw[hjl,List.take_length]at hbe;have HF:=hE0 (hbe.after HB2.out);clear hbe hjl;go_wp2
     go_ret
     exact⟨rfl,HF.out⟩
def au0:Prop:=∀(w:World) (g base cap c:Nat) (A:Option Addr) (bs:List UInt8) (x:Bool),Ar w 195 g base cap A c bs->base<=4611686018427387904->bs.length<=16384->ace bs=x->
 Calls Tryz.prog 55 #[.pointer (some ⟨g,0,none⟩)] w fun e w'=>e= .returned (aav x 3)/\Below w.heap.size w w'
theorem ar1:laidOutB Tryz.prog=true:=by kernel_rfl
theorem plc_law:Maps.Keyed Tryz.prog 251:=
 Maps.Keyed.of_law (deep_law_laid ar1 (m:=2) (by omega) (of_decide_eq_true (by kernel_rfl)) (by kernel_rfl) (by rw[Tryz.underlying251]))
def pk (o k:Nat):Lit:= .string (keyBytes [.int .i64 (o:Int), .int .i64 (k:Int)])
abbrev pv (o k:Nat):Value:= .agg #[.int .i64 (o:Int), .int .i64 (k:Int)]
theorem ahZ{o k:Nat}(ho:o<=100000) (hk:k<=100):keyOf Tryz.prog 251 (pv o k)=some (pk o k):=by
 have w1:(Lit.int .i64 (o:Int)).wf=true:=WalkArith.wf_i64 (by omega);have w2:(Lit.int .i64 (k:Int)).wf=true:=WalkArith.wf_i64 (by omega);have hkt:Tryz.prog.keyType 251=true:=by kernel_rfl
 have hc:Tryz.prog.cellsOf 251=2:=by kernel_rfl
 have hi:Tryz.prog.cellsOf 3=1:=by kernel_rfl
 obtain⟨m,hm⟩:∃m,Tryz.prog.types.size=m+1:=⟨Tryz.prog.types.size-1,by have:0<Tryz.prog.types.size:=of_decide_eq_true (by kernel_rfl);omega⟩;unfold keyOf;simp only[Tryz.underlying251];rw[if_pos (by simp[hkt,Value.formed,Tryz.underlying251,hc]),hm];unfold Program.keyLits;simp only[Tryz.underlying251,Value.cells];rw[if_pos ⟨by rw[hc];rfl,by kernel_rfl⟩];simp[hi,Program.keyLits,Tryz.underlying3,w1,w2,pk]
theorem as2{o k o' k':Nat}(ho:o<=100000) (hk:k<=100) (ho':o'<=100000) (hk':k'<=100) (h:pk o k=pk o' k'):o=o'/\k=k':=by
 have h1:=ahZ ho hk;rw[h]at h1;have h2:=plc_law.inj h1 (ahZ ho' hk');simp only[pv,Value.agg.injEq,Array.mk.injEq,List.cons.injEq,Value.int.injEq,and_true,true_and]at h2;omega
theorem au1{o k:Nat}(ho:o<=100000) (hk:k<=100):WideAt.IsKeyLit (pk o k):=plc_law.key (ahZ ho hk)
def PSet (w:World) (B n:Nat) (f:Nat->Nat->Bool) (z:Nat):Prop:=∃D:DataW Unit,w.ownsMap Tryz.prog 251 (plainElem Tryz.prog 4) B n D/\
 (∀kl,Maps.has D kl=true->∀y,D.atKey kl y= .lit (.bool true))/\(∀o k,o<=100000->k<=100->Maps.has D (pk o k)=f o k)/\Maps.size D=z
theorem akf (b:Bool):plainElem (H:=Unit) Tryz.prog 4 (.bool b)=some (.lit (.bool b),[]):=plainElem_bool Tryz.underlying4 b
theorem apP (w:World):(zeroValue 4).run Tryz.prog w= .ok (.bool false) w:=by kernel_rfl
theorem ai1{P:Program}{e:TypeId}(he:P.underlying e=some .bool){v:Value}{d:DataW Unit}{ps:List MemPlace}(h:plainElem P e v=some (d,ps)):∃b,v= .bool b/\d= .lit (.bool b):=by
 unfold plainElem at h;rw[he]at h
 cases v<;>simp at h;exact⟨_,rfl,h.1.symm⟩
theorem ar2{v:Value}{d:DataW Unit}{ps:List MemPlace}(h:plainElem Tryz.prog 4 v=some (d,ps)):∃b,v= .bool b/\d= .lit (.bool b):=ai1 Tryz.underlying4 h
section
variable {w w':World} {B n z:Nat} {f:Nat->Nat->Bool}
theorem PSet.made (w:World):PSet (w.alloc (.map #[] 0)) w.heap.size 0 (fun _ _=>false) 0:=
 ⟨.map [],World.ownsMap_made _ _ _ _,fun kl h=>absurd h (by simp[Maps.has]),fun _ _ _ _=>rfl,rfl⟩
theorem PSet.lt (h:PSet w B n f z):B<w.heap.size:=by
 obtain⟨D,ho,_⟩:=h;exact ho.lt
theorem PSet.keep (h:PSet w B n f z) (hb:w'.heap[B]?=w.heap[B]?):PSet w' B n f z:=by
 obtain⟨D,⟨es,clock,h1,h2⟩,h3⟩:=h;exact⟨D,⟨es,clock,hb.trans h1,h2⟩,h3⟩
theorem PSet.mono{n':Nat}(h:PSet w B n f z) (hn:n<=n'):PSet w B n' f z:=by
 obtain⟨D,h1,h2⟩:=h;exact⟨D,h1.mono hn,h2⟩
theorem PSet.below{B0:Nat}(h:PSet w B n f z) (hb:Below B0 w w') (hB:B<B0):PSet w' B n f z:=h.keep (hb.block B hB)
theorem PSet.same{f':Nat->Nat->Bool}(h:PSet w B n f z) (hf:∀o k,o<=100000->k<=100->f o k=f' o k):PSet w B n f' z:=by
 obtain⟨D,h1,h2,h3,h4⟩:=h;exact⟨D,h1,h2,fun o k ho hk=>(h3 o k ho hk).trans (hf o k ho hk),h4⟩
end
section
variable {w:World} {ops:Array Oper} {rest:List Oper} {o:Oper} {a:Act} {Q:Exit->Act->World->Prop} {B n z:Nat} {f:Nat->Nat->Bool}
theorem ah0 (hg:o.guard=none) (m x:Operand) (hop:o.op=Op.lookup 192 m x false) (hm:a.eval m= .map (some B)) (h:PSet w B n f z) (p c:Nat) (hp:p<=100000) (hc:c<=100)
 (hx:a.eval x=pv p c) (b:Bool) (hb:f p c=b) (hK:wpList Tryz.prog ops Q rest (a.put o.dst (.bool b)) w):wpList Tryz.prog ops Q (o::rest) a w:=by
 refine wpList_plain hg fun K' hK'=> ?_;obtain⟨D,hown,hall,hf,hz⟩:=h;obtain⟨v,ps,hrun,hv⟩:=hown.lookup plc_law Tryz.underlying192 (apP w) (akf false) (ahZ hp hc);obtain⟨b',rfl,hd⟩:=ar2 hv;have e:b'=b:=by
  rw[<-hb,<-hf p c hp hc]
  cases hh:Maps.has D (pk p c)
  · rw[Maps.atKey_of_not_has hh]at hd;simpa using hd.symm
  · rw[hall _ hh]at hd;simpa using hd.symm
 subst e;unfold Oper.wp;simp[execOp,hop,hm,hx,hrun,Result.andThen];exact hK' _ _ hK
theorem apQ (hg:o.guard=none) (m x v:Operand) (hop:o.op=Op.mapUpdate 192 m x v) (hm:a.eval m= .map (some B)) (h:PSet w B n f z) (hn:n<maxLen) (p c:Nat) (hp:p<=100000) (hc:c<=100)
 (hx:a.eval x=pv p c) (hv:a.eval v= .bool true) (hf0:f p c=false)
 (hK:∀w',PSet w' B (n+1) (fun p' c'=>f p' c' || (p'==p&&c'==c)) (z+1)->Tch (fun j=>j=B) w w'->wpList Tryz.prog ops Q rest (a.put o.dst undef) w'):wpList Tryz.prog ops Q (o::rest) a w:=by
 obtain⟨D,hown,hall,hf,hz⟩:=h;have hkl:=au1 hp hc;have hno:Maps.has D (pk p c)=false:=(hf p c hp hc).trans hf0;refine wpList_mapUpdate_own w hg m x v _ hop _ _ plc_law Tryz.underlying192 _ B n D hm hown hn _ _ (pk p c) hx hv (ahZ hp hc) _ _ (akf true) (fun w' h1 h2=> ?_);have hI:=(hown.tidy plc_law).isMap;refine hK w' ⟨_,h1,fun kl hh y=> ?_,fun p' c' hp' hc'=> ?_,?_⟩ (Tch.grown h2 (fun k hk=>by injection hk with hk;exact hk.symm))
 · by_cases e:kl=pk p c
   · subst e;exact Maps.atKey_put_same hI hkl _ _
   · rw[Maps.has_put_other e]at hh;rw[Maps.atKey_put_other e];exact hall _ hh y
 · by_cases e:pk p' c'=pk p c
   · obtain⟨rfl,rfl⟩:=as2 hp' hc' hp hc e;rw[Maps.has_put_same hI hkl];simp
   · rw[Maps.has_put_other e,hf p' c' hp' hc'];have:(p'==p&&c'==c)=false:=by
      rw[Bool.and_eq_false_iff,beq_eq_false_iff_ne,beq_eq_false_iff_ne];by_cases e1:p'=p
      · exact .inr fun e2=>e (by rw[e1,e2])
      · exact .inl e1
     show _=(f p' c' || (p'==p&&c'==c));rw[this,Bool.or_false]
 · rw[Maps.size_put (hown.tidy plc_law),hno,hz];rfl
theorem apR (hg:o.guard=none) (m x:Operand) (hop:o.op=Op.call {callee:=Callee.builtin Builtin.delete,args:= #[m,x],argTypes:= #[192,251]}) (hm:a.eval m= .map (some B)) (h:PSet w B n f z) (p c:Nat) (hp:p<=100000) (hc:c<=100)
 (hx:a.eval x=pv p c) (hf1:f p c=true)
 (hK:∀w' z',z'+1=z->PSet w' B n (fun p' c'=>f p' c'&& !(p'==p&&c'==c)) z'->Tch (fun j=>j=B) w w'->wpList Tryz.prog ops Q rest (a.put o.dst (.tuple #[])) w'):wpList Tryz.prog ops Q (o::rest) a w:=by
 obtain⟨D,hown,hall,hf,hz⟩:=h;have hyes:Maps.has D (pk p c)=true:=(hf p c hp hc).trans hf1;refine wpList_delete_own w hg m x _ _ hop _ plc_law Tryz.underlying192 _ B n D hm hown _ (pk p c) hx (ahZ hp hc) (fun w' h1 h2=> ?_);have hs:=Maps.size_del (k:=pk p c) (hown.tidy plc_law);rw[hyes,if_pos rfl,hz]at hs;refine hK w' _ hs ⟨_,h1,fun kl hh y=> ?_,fun p' c' hp' hc'=> ?_,rfl⟩ (Tch.grown h2.grown (fun k hk=>by injection hk with hk;exact hk.symm))
 · by_cases e:kl=pk p c
   · subst e;rw[Maps.has_del_same]at hh;cases hh
   · rw[Maps.has_del_other e]at hh;rw[Maps.atKey_del_other e];exact hall _ hh y
 · by_cases e:pk p' c'=pk p c
   · obtain⟨rfl,rfl⟩:=as2 hp' hc' hp hc e;rw[Maps.has_del_same];simp
   · rw[Maps.has_del_other e,hf p' c' hp' hc'];have:(p'==p&&c'==c)=false:=by
      rw[Bool.and_eq_false_iff,beq_eq_false_iff_ne,beq_eq_false_iff_ne];by_cases e1:p'=p
      · exact .inr fun e2=>e (by rw[e1,e2])
      · exact .inl e1
     show _=(f p' c'&& !(p'==p&&c'==c));rw[this,Bool.not_false,Bool.and_true]
theorem apS (hg:o.guard=none) (m:Operand) (hop:o.op=Op.call {callee:=Callee.builtin Builtin.len,args:= #[m],argTypes:= #[192]}) (hm:a.eval m= .map (some B)) (h:PSet w B n f z)
 (hK:wpList Tryz.prog ops Q rest (a.put o.dst (.int .i64 (z:Int))) w):wpList Tryz.prog ops Q (o::rest) a w:=by
 obtain⟨D,hown,_,_,hz⟩:=h;refine wpList_len_own w hg m _ hop _ _ Tryz.underlying192 _ B n D hm hown ?_;rw[hz];exact hK
end
def auJ (l:List Bk):Nat->Bool
 | 0=>false
 | j+1=> !adI l j
theorem akg{l:List Bk}{j:Nat}{x:Bk}(h:l[j]?=some x):adI l j=x.used:=by unfold adI;rw[h]
theorem anR (l:List Bk) (j:Nat):(List.range (j+1)).all (adJ l)=((List.range j).all (adJ l)&&adJ l j):=by
 rw[List.range_succ,List.all_append];simp
theorem apT{l:List Bk}{j:Nat}(hj:j<l.length) (h:adJ l j=false):aev l=false:=by
 unfold aev;rw[List.all_eq_false];exact⟨j,List.mem_range.2 hj,by rw[h];decide⟩
theorem ar3{l:List Bk}{j:Nat}{x:Bk}(h:l[j]?=some x):adJ l j= !(auJ l j&& !x.used):=by
 unfold adJ;rw[akg h]
 cases j with
 | zero=>rfl
 | succ j=>
  simp only[auJ,Nat.add_sub_cancel]
  cases x.used<;>cases adI l j<;>rfl
section
variable {w:World} {g base cap c:Nat} {A:Option Addr} {bs:List UInt8}
theorem aa1{B:Nat}{w w':World}(h:Below B w w'){b j:Nat}{v:Value}(hc:w.cell? ⟨b,j,none⟩=some v) (hb:b<B):w'.cell? ⟨b,j,none⟩=some v:=
 (h.cell (p:=⟨b,j,none⟩) hb).trans hc
theorem ar4 (w:World) (A2:Option Addr) (c2:Nat) (l:List Bk) (hr:BkRd w w.heap.size A2 l) (hc:l.length<=c2/\c2<=9223372036854775807) (y:Bool) (hy:aev l=y):
 Calls Tryz.prog 113 #[.slice A2 l.length c2] w fun e w'=>e= .returned (.bool (!y))/\Below w.heap.size w w':=by
 have HR:=hE0 hr;have HY:=hE0 hy;clear hr hy;go_enter Tryz.func113,Tryz.ntmps113
 go_wp2
 go_loopw [3,8] (fun v t wr=>∃(j:Nat) (b:Bool),t= .int .i64 (j:Int)/\v= .bool b/\b=auJ l j/\j<=l.length/\(List.range j).all (adJ l)=true/\Below w.heap.size w wr) (fun _ t _=>l.length-(intOf t).toNat)
 case atStart=>exact⟨0,false,rfl,rfl,rfl,Nat.zero_le _,rfl,Below.refl _ _⟩
 case round=>
  obtain⟨j,b,rfl,rfl,hbw,hj,hall,hbe⟩:=hrel;by_cases hlt:j<l.length
  · obtain⟨x,hx⟩:∃x,l[j]?=some x:=⟨l[j],List.getElem?_eq_getElem hlt⟩;obtain⟨b2,o,rfl,hbb,hcl⟩:=HR.out (by omega);obtain⟨p0,p1,p2⟩:=hcl j x hx;have hp:=ar3 hx;have hs:=anR l j;rw[hall,Bool.true_and]at hs;have hu:=akg hx;have r0:=aa1 hbe p0 hbb;have r1:=aa1 hbe p1 hbb;have r2:=aa1 hbe p2 hbb;obtain⟨xo,xs,xu⟩:=x;dsimp only at p0 p1 p2 r0 r1 r2 hp hu;rw[<-hbw]at hp;obtain⟨w4,hw4⟩:=nmE (wr.alloc (.cells #[.int .i64 (xo:Int), .int .i64 (xs:Int), .bool xu] 112));have hb4:Below w.heap.size w w4:=by rw[<-hw4];exact hbe.alloc hbe.size _
    have n4:=anE hw4;obtain⟨⟨d0,d1,d2⟩,_⟩:=aad n4;have HW4:=hE0 hw4;have HB4:=hE0 hb4;have HP:=hE0 hp;have HS:=hE0 hs;have HU:=hE0 hu;clear hp hs hu hx hbe p0 p1 p2 hb4 n4 hw4 hcl hall hbw
    cases b<;>cases xu
    · go_wp2_with (first | (rw[HW4.out]) | fail)
      go_roundw
      case rel=>exact⟨j+1,true,by go_num,rfl,by simp[auJ,HU.out],by omega,by rw[HS.out,HP.out];rfl,HB4.out⟩
      case measure=>simp only[intOf];omega
    · go_wp2_with (first | (rw[HW4.out]) | fail)
      go_roundw
      case rel=>exact⟨j+1,false,by go_num,rfl,by simp[auJ,HU.out],by omega,by rw[HS.out,HP.out];rfl,HB4.out⟩
      case measure=>simp only[intOf];omega
    · obtain rfl:y=false:=by rw[<-HY.out];exact apT hlt HP.out
      go_wp2_with (first | (rw[HW4.out]) | fail)
      go_ret
      exact⟨rfl,HB4.out⟩
    · go_wp2_with (first | (rw[HW4.out]) | fail)
      go_roundw
      case rel=>exact⟨j+1,false,by go_num,rfl,by simp[auJ,HU.out],by omega,by rw[HS.out,HP.out];rfl,HB4.out⟩
      case measure=>simp only[intOf];omega
  · obtain rfl:y=true:=by
     rw[<-HY.out];unfold aev;rw[show l.length=j by omega];exact hall
    have HB:=hE0 hbe;clear hbe hall hbw;go_wp2
    go_ret
    exact⟨rfl,HB.out⟩
theorem apU (h:Ar w 195 g base cap A c bs) (hb:base<=4611686018427387904) (hl:bs.length<=16384) (h184:184<=bs.length) (y:Bool) (hy:decide (aaf bs 0<4194304)=y):
 Calls Tryz.prog 114 #[.pointer (some ⟨g,0,none⟩)] w fun e w'=>e= .returned (.bool (!y))/\w=w':=by
 obtain⟨v,hv⟩:=nmE (aaf bs 0);have hvl:v<18446744073709551616:=by rw[<-hv];exact aan _ _
 have hW:=abR h hb hl 0 (by omega) (some v) (by unfold word?;rw[if_pos (by omega)];simp[hv]);have e0:adr base 0=base:=by unfold adr;omega
 rw[e0]at hW;dsimp only[wdV]at hW;rw[hv]at hy;have HBS:=hE0 (acj h);have HW:=hE0 hW;have HY:=hE0 hy;clear hW hy hv h;go_enter Tryz.func114,Tryz.ntmps114
 go_wp2_with fail
 with_reducible refine HBS.out.mono ?_
 rintro e w1 ⟨rfl,rfl⟩;go_wp2_with fail
 with_reducible refine HW.out.mono ?_
 rintro e w1 ⟨rfl,rfl⟩;go_wp2
 go_ret
 exact⟨asW (by rw[<-HY.out,Bool.eq_iff_iff];simp;omega),rfl⟩
end
end Go.Proofs.YtncadccbepjekaaGreatDoor
