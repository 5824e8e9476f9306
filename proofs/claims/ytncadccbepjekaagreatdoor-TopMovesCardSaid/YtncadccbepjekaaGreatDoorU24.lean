/- Texts of mine, joined. -/
import Derived.Test.YtncadccbepjekaaGreatDoorU23
set_option maxRecDepth 100000
set_option maxHeartbeats 2000000
namespace Go.Proofs.YtncadccbepjekaaGreatDoor
open Go.RowKit
section
variable {w:World} {g base cap c:Nat} {A:Option Addr} {bs:List UInt8}
theorem atU (h:Ar w 195 g base cap A c bs) (hb:base<=4611686018427387904) (n:Nat) (hn:bs.length=n) (hl:n<=16384) (o:Int) (ho: -9223372036854775808<=o/\o<=9223372036854775807) (hk:aaX bs o<0):
 Calls Tryz.prog 174 #[.pointer (some ⟨g,0,none⟩), .int .i64 o] w fun e w'=>e= .returned (aat false 3)/\Below w.heap.size w w':=by
 have HF:=hE0 (ajb h hb (by omega) o ho hk);clear h hk hn;go_enter Tryz.func174,Tryz.ntmps174
 go_wp2_with fail
 with_reducible refine HF.out.mono ?_
 rintro e w1 ⟨rfl,hb1⟩;have HB:=hE0 hb1;clear hb1;go_wp2
 go_ret
 exact⟨rfl,HB.out⟩
theorem aqn (h:Ar w 195 g base cap A c bs) (hb:base<=4611686018427387904) (n:Nat) (hn:bs.length=n) (hl:n<=16384) (p k f:Nat) (hk:aaX bs (p:Int)=(k:Int)) (hf:aaf bs (8+8*k)=f) (hfp:f=p):
 Calls Tryz.prog 174 #[.pointer (some ⟨g,0,none⟩), .int .i64 (p:Int)] w fun e w'=>e= .returned (aat false 3)/\Below w.heap.size w w':=by
 obtain⟨p184,p32,k22⟩:=aa3 hk;have hfl:f<18446744073709551616:=by rw[<-hf];exact aan _ _
 have HF:=hE0 (aaW h hb (by omega) (p:Int) (by omega) k hk);have HFA:=hE0 (fun W=>aaD W k k22);have HNF:=hE0 (fun W (hB:Below w.heap.size w W)=>aai (h.below hB) hb (by omega) (8+8*(k:Int)) (8+8*k) (by omega) (by omega) f hf);have hp2:p+32<=n:=by omega
 have hp3:184<=p:=by omega
 have s1:((f:Int)==(p:Int))=true:=by rw[beq_iff_eq];omega
 clear h hk hf hn hfp;go_enter Tryz.func174,Tryz.ntmps174
 go_wp2_with fail
 with_reducible refine HF.out.mono ?_
 rintro e w1 ⟨rfl,hb1⟩;have HB:=hE0 hb1;clear hb1 HF;go_wp2_with fail
 refine(HFA.out _).mono ?_;rintro e w9 ⟨rfl,rfl⟩;go_wp2_with fail
 refine(HNF.out _ HB.out).mono ?_;rintro e w9 ⟨rfl,rfl⟩;clear HFA HNF;go_wp2
 go_ret
 exact⟨rfl,HB.out⟩
theorem an6 (h:Ar w 195 g base cap A c bs) (hb:base<=4611686018427387904) (n:Nat) (hn:bs.length=n) (hl:n<=16384) (p k f:Nat) (hk:aaX bs (p:Int)=(k:Int)) (hf:aaf bs (8+8*k)=f) (hfp:f≠p) (hf0:f≠0) (hm:aap bs f (k:Int)=false):
 Calls Tryz.prog 174 #[.pointer (some ⟨g,0,none⟩), .int .i64 (p:Int)] w fun e w'=>e= .returned (aat false 3)/\Below w.heap.size w w':=by
 obtain⟨p184,p32,k22⟩:=aa3 hk;have hfl:f<18446744073709551616:=by rw[<-hf];exact aan _ _
 have HF:=hE0 (aaW h hb (by omega) (p:Int) (by omega) k hk);have HFA:=hE0 (fun W=>aaD W k k22);have HNF:=hE0 (fun W (hB:Below w.heap.size w W)=>aai (h.below hB) hb (by omega) (8+8*(k:Int)) (8+8*k) (by omega) (by omega) f hf);have hp2:p+32<=n:=by omega
 have hp3:184<=p:=by omega
 have HM:=hE0 (fun W (hB:Below w.heap.size w W)=>adG (h.below hB) hb (by omega) k f k22 hfl _ hm);have s1:((f:Int)==(p:Int))=false:=by rw[beq_eq_false_iff_ne];omega
 have s2:((f:Int) !=0)=true:=by rw[bne_iff_ne];omega
 clear h hk hf hn hm;go_enter Tryz.func174,Tryz.ntmps174
 go_wp2_with fail
 with_reducible refine HF.out.mono ?_
 rintro e w1 ⟨rfl,hb1⟩;have HB:=hE0 hb1;clear hb1 HF;go_wp2_with fail
 refine(HFA.out _).mono ?_;rintro e w9 ⟨rfl,rfl⟩;go_wp2_with fail
 refine(HNF.out _ HB.out).mono ?_;rintro e w9 ⟨rfl,rfl⟩;clear HFA HNF;go_wp2_with fail
 refine(HM.out _ HB.out).mono ?_;rintro e w2 ⟨rfl,hb2⟩;have HB2:=hE0 (HB.out.trans (hb2.mono HB.out.size));clear hb2 HM HB;go_wp2
 go_ret
 exact⟨rfl,HB2.out⟩
theorem an7 (h:Ar w 195 g base cap A c bs) (hb:base<=4611686018427387904) (n:Nat) (hn:bs.length=n) (hl:n<=16384) (p k f:Nat) (hk:aaX bs (p:Int)=(k:Int)) (hf:aaf bs (8+8*k)=f) (hf0:f=0):
 Calls Tryz.prog 174 #[.pointer (some ⟨g,0,none⟩), .int .i64 (p:Int)] w fun e w'=>e= .returned (aat true 3)/\Became 195 g base cap A (abM (lyN (lyN (lyN bs (p+8) f) (p+16) 0) (8+8*k) p) k) w w':=by
 obtain⟨p184,p32,k22⟩:=aa3 hk;have hfl:f<18446744073709551616:=by rw[<-hf];exact aan _ _
 have HF:=hE0 (aaW h hb (by omega) (p:Int) (by omega) k hk);have HFA:=hE0 (fun W=>aaD W k k22);have HNF:=hE0 (fun W (hB:Below w.heap.size w W)=>aai (h.below hB) hb (by omega) (8+8*(k:Int)) (8+8*k) (by omega) (by omega) f hf);have hp2:p+32<=n:=by omega
 have hp3:184<=p:=by omega
 have s1:((f:Int)==(p:Int))=false:=by rw[beq_eq_false_iff_ne];omega
 have s2:((f:Int) !=0)=false:=by subst hf0;rfl
 have HBO:=hE0 (fun W (hB:Below w.heap.size w W)=>abu h hB);obtain⟨b1,hb1⟩:∃b,lyN bs (p+8) f=b:=⟨_,rfl⟩;have nb1:b1.length=n:=by rw[<-hb1,aah _ _ _ (by omega)];exact hn
 have HS1:=fun W (hB:Became 195 g base cap A bs w W)=>aaR hB hb (by omega) ((p:Int)+8) (p+8) (by omega) (by omega) f hfl;rw[hb1]at HS1 ⊢;have HS1:=hE0 HS1;obtain⟨b2,hb2⟩:∃b,lyN b1 (p+16) 0=b:=⟨_,rfl⟩;have nb2:b2.length=n:=by rw[<-hb2,aah _ _ _ (by omega)];exact nb1
 have HS2:=fun W (hB:Became 195 g base cap A b1 w W)=>aaR hB hb (by omega) ((p:Int)+16) (p+16) (by omega) (by omega) 0 (by omega);rw[hb2]at HS2 ⊢;have HS2:=hE0 HS2;have HSF:=hE0 (fun W (hB:Became 195 g base cap A b2 w W)=>abj hB hb n nb2 hl (by omega) k k22 p (by omega));clear hb1 nb1 hb2 nb2;clear h hk hf hn hf0;go_enter Tryz.func174,Tryz.ntmps174
 go_wp2_with fail
 with_reducible refine HF.out.mono ?_
 rintro e w1 ⟨rfl,hb1⟩;have HB:=hE0 hb1;clear hb1 HF;go_wp2_with fail
 refine(HFA.out _).mono ?_;rintro e w9 ⟨rfl,rfl⟩;go_wp2_with fail
 refine(HNF.out _ HB.out).mono ?_;rintro e w9 ⟨rfl,rfl⟩;clear HFA HNF;have G0:=hE0 (HBO.out _ HB.out);clear HBO HB;go_wp2_with fail
 refine(HS1.out _ G0.out).mono ?_;rintro e x1 ⟨rfl,bb⟩;have G1:=hE0 bb;clear bb HS1 G0;go_wp2_with fail
 refine(HS2.out _ G1.out).mono ?_;rintro e x2 ⟨rfl,bb⟩;have G2:=hE0 bb;clear bb HS2 G1;go_wp2_with fail
 refine(HSF.out _ G2.out).mono ?_;rintro e x9 ⟨rfl,bb⟩;have G9:=hE0 bb;clear bb HSF G2;go_wp2
 go_ret
 exact⟨rfl,G9.out⟩
theorem alW (h:Ar w 195 g base cap A c bs) (hb:base<=4611686018427387904) (n:Nat) (hn:bs.length=n) (hl:n<=16384) (p k f:Nat) (hk:aaX bs (p:Int)=(k:Int)) (hf:aaf bs (8+8*k)=f) (hfp:f≠p) (hf0:f≠0) (hm:aap bs f (k:Int)=true):
 Calls Tryz.prog 174 #[.pointer (some ⟨g,0,none⟩), .int .i64 (p:Int)] w fun e w'=>e= .returned (aat true 3)/\Became 195 g base cap A (abM (lyN (lyN (lyN (lyN bs (p+8) f) (p+16) 0) (f+16) p) (8+8*k) p) k) w w':=by
 obtain⟨p184,p32,k22⟩:=aa3 hk;have hfl:f<18446744073709551616:=by rw[<-hf];exact aan _ _
 have HF:=hE0 (aaW h hb (by omega) (p:Int) (by omega) k hk);have HFA:=hE0 (fun W=>aaD W k k22);have HNF:=hE0 (fun W (hB:Below w.heap.size w W)=>aai (h.below hB) hb (by omega) (8+8*(k:Int)) (8+8*k) (by omega) (by omega) f hf);have hp2:p+32<=n:=by omega
 have hp3:184<=p:=by omega
 have HM:=hE0 (fun W (hB:Below w.heap.size w W)=>adG (h.below hB) hb (by omega) k f k22 hfl _ hm);have s1:((f:Int)==(p:Int))=false:=by rw[beq_eq_false_iff_ne];omega
 have s2:((f:Int) !=0)=true:=by rw[bne_iff_ne];omega
 have hfin:=aaM hm;have hf16:f+16+8<=n:=by omega
 have hf1:f<=16384:=by omega
 have HBO:=hE0 (fun W (hB:Below w.heap.size w W)=>abu h hB);obtain⟨b1,hb1⟩:∃b,lyN bs (p+8) f=b:=⟨_,rfl⟩;have nb1:b1.length=n:=by rw[<-hb1,aah _ _ _ (by omega)];exact hn
 have HS1:=fun W (hB:Became 195 g base cap A bs w W)=>aaR hB hb (by omega) ((p:Int)+8) (p+8) (by omega) (by omega) f hfl;rw[hb1]at HS1 ⊢;have HS1:=hE0 HS1;obtain⟨b2,hb2⟩:∃b,lyN b1 (p+16) 0=b:=⟨_,rfl⟩;have nb2:b2.length=n:=by rw[<-hb2,aah _ _ _ (by omega)];exact nb1
 have HS2:=fun W (hB:Became 195 g base cap A b1 w W)=>aaR hB hb (by omega) ((p:Int)+16) (p+16) (by omega) (by omega) 0 (by omega);rw[hb2]at HS2 ⊢;have HS2:=hE0 HS2;obtain⟨b3,hb3⟩:∃b,lyN b2 (f+16) p=b:=⟨_,rfl⟩;have nb3:b3.length=n:=by rw[<-hb3,aah _ _ _ (by omega)];exact nb2
 have HS3:=fun W (hB:Became 195 g base cap A b2 w W)=>aaR hB hb (by omega) ((f:Int)+16) (f+16) (by omega) (by omega) p (by omega);rw[hb3]at HS3 ⊢;have HS3:=hE0 HS3;have HSF:=hE0 (fun W (hB:Became 195 g base cap A b3 w W)=>abj hB hb n nb3 hl (by omega) k k22 p (by omega));clear hb1 nb1 hb2 nb2 hb3 nb3;clear h hk hf hn hm;go_enter Tryz.func174,Tryz.ntmps174
 go_wp2_with fail
 with_reducible refine HF.out.mono ?_
 rintro e w1 ⟨rfl,hb1⟩;have HB:=hE0 hb1;clear hb1 HF;go_wp2_with fail
 refine(HFA.out _).mono ?_;rintro e w9 ⟨rfl,rfl⟩;go_wp2_with fail
 refine(HNF.out _ HB.out).mono ?_;rintro e w9 ⟨rfl,rfl⟩;clear HFA HNF;go_wp2_with fail
 refine(HM.out _ HB.out).mono ?_;rintro e w2 ⟨rfl,hb2⟩;have HB2:=hE0 (HB.out.trans (hb2.mono HB.out.size));clear hb2 HM HB;have G0:=hE0 (HBO.out _ HB2.out);clear HBO HB2;go_wp2_with fail
 refine(HS1.out _ G0.out).mono ?_;rintro e x1 ⟨rfl,bb⟩;have G1:=hE0 bb;clear bb HS1 G0;go_wp2_with fail
 refine(HS2.out _ G1.out).mono ?_;rintro e x2 ⟨rfl,bb⟩;have G2:=hE0 bb;clear bb HS2 G1;go_wp2_with fail
 refine(HS3.out _ G2.out).mono ?_;rintro e x3 ⟨rfl,bb⟩;have G3:=hE0 bb;clear bb HS3 G2;go_wp2_with fail
 refine(HSF.out _ G3.out).mono ?_;rintro e x9 ⟨rfl,bb⟩;have G9:=hE0 bb;clear bb HSF G3;go_wp2
 go_ret
 exact⟨rfl,G9.out⟩
end
theorem av9:awe:=by
 intro w g base cap c A bs o y h hb hl ho hy;subst hy;rcases aeF bs o with hk | ⟨k,hk⟩
 · have e:ahS bs o=none:=by unfold ahS;rw[if_pos hk]
   rw[e];exact atU h hb _ rfl hl o ho hk
 · obtain⟨p184,p32,k22⟩:=aa3 hk;obtain⟨p,rfl⟩:∃p:Nat,o=(p:Int):=⟨o.toNat,by omega⟩;obtain⟨f,hf⟩:=nmE (aaf bs (8+8*k));have e:ahS bs (p:Int)=if (f:Int)=(p:Int)\/(f≠0/\aap bs f (k:Int)=false) then none else some (abM (lyN (if f≠0 then lyN (lyN (lyN bs (p+8) f) (p+16) 0) (f+16) p else lyN (lyN bs (p+8) f) (p+16) 0) (8+8*k) p) k):=by
    unfold ahS;rw[hk,if_neg (by omega)];simp only[Int.toNat_natCast,hf]
   rw[e];by_cases hfp:f=p
   · rw[if_pos (.inl (by omega))];exact aqn h hb _ rfl hl p k f hk hf hfp
   · by_cases hf0:f=0
     · rw[if_neg (by omega),if_neg (by omega)];exact an7 h hb _ rfl hl p k f hk hf hf0
     · cases hm:aap bs f (k:Int)with
       | false=>
        rw[if_pos (.inr ⟨hf0,rfl⟩)];exact an6 h hb _ rfl hl p k f hk hf hfp hf0 hm
       | true=>
        rw[if_neg (fun h1=>h1.elim (fun h2=>hfp (by omega)) (fun h2=>by cases h2.2)),if_pos hf0];exact alW h hb _ rfl hl p k f hk hf hfp hf0 hm
section
variable {w:World} {g base cap c:Nat} {A:Option Addr} {bs:List UInt8}
theorem an8 (h:Ar w 195 g base cap A c bs) (hb:base<=4611686018427387904) (hl:bs.length<=16384) (h184:184<=bs.length) (z:List UInt8) (hz:List.replicate 184 (0:UInt8)++bs.drop 184=z):
 Calls Tryz.prog 173 #[.pointer (some ⟨g,0,none⟩)] w fun e w'=>e= .returned .nilIface/\Became 195 g base cap A z w w':=by
 have HA:=hE0 (ab4 h);have hf:=aoV h (by omega) base 184 0 0 (by omega) (by omega) (by omega) (by omega);have e:lay bs 0 (List.replicate 184 (0:UInt8))=z:=by
  have e1:(List.replicate 184 (0:UInt8)).length=184:=List.length_replicate;rw[<-hz];unfold lay;rw[e1,Nat.zero_add,List.take_zero,List.nil_append]
 rw[e]at hf;have HF:Hid (Calls Tryz.prog 194 #[.pointer (some ⟨g,0,none⟩), .int .u64 (base:Int), .int .u64 184, .int .u8 0] w fun e w'=>e= .returned .nilIface/\Became 195 g base cap A z w w'):=hf;clear hf e hz h;go_enter Tryz.func173,Tryz.ntmps173
 go_wp2_with fail
 with_reducible refine HA.out.mono ?_
 rintro e w1 ⟨rfl,rfl⟩;go_wp2_with fail
 refine HF.out.mono ?_;rintro e w1 ⟨rfl,hbe⟩;have HB:=hE0 hbe;clear hbe;go_wp2
 go_ret
 exact⟨rfl,HB.out⟩
end
section
variable {w w1 w2:World} {g base cap:Nat} {A:Option Addr} {out:List UInt8}
theorem aaz (h:Became 195 g base cap A out w w1) (hb:Below w1.heap.size w1 w2):Became 195 g base cap A out w w2:=by
 obtain⟨A',c',a,tc,k⟩:=h;exact Became.trans a tc k (abu a hb)
theorem asc (h:184<=out.length) (o:Int):((ahS out o).getD out).length=out.length:=by
 cases hp:ahS out o with
 | none=>rfl
 | some y=>exact(agG h hp).1
theorem an9 (h:Became 195 g base cap A out w w1) (hb:base<=4611686018427387904) (hl:out.length<=16384) (o:Int) (ho: -9223372036854775808<=o/\o<=9223372036854775807):
 Calls Tryz.prog 174 #[.pointer (some ⟨g,0,none⟩), .int .i64 o] w1 fun e w2=>(∃v,e= .returned v)/\Became 195 g base cap A ((ahS out o).getD out) w w2:=by
 obtain⟨A',c',a,tc,k⟩:=h;refine(av9 w1 g base cap c' A' out o _ a hb hl ho rfl).mono ?_;intro e w2 hd;unfold aoE at hd
 cases hp:ahS out o with
 | none=>
  rw[hp]at hd;exact⟨⟨_,hd.1⟩,Became.trans a tc k (abu a hd.2)⟩
 | some y=>
  rw[hp]at hd;exact⟨⟨_,hd.1⟩,Became.trans a tc k hd.2⟩
end
section
variable {w:World} {g base cap c:Nat} {A:Option Addr} {bs:List UInt8}
theorem aoa (h:Ar w 195 g base cap A c bs) (hb:base<=4611686018427387904) (hl:bs.length<=16384) (A2:Option Addr) (c2 B1:Nat) (l:List Nat) (ho:w.ownsRow B1 3 1 (.slice A2 l.length c2) l.length (l.map iV)) (hm:∀o∈l,o<=20000/\∃x,aa6 bs (o:Int)=some x) (s:Int) (x:Nat) (hx:(l.find? fun o=>decide (s<=(szB bs o:Int))).getD 0=x):
 Calls Tryz.prog 269 #[.pointer (some ⟨g,0,none⟩), .slice A2 l.length c2, .int .i64 s] w fun e w'=>e= .returned (.int .i64 (x:Int))/\Below w.heap.size w w':=by
 have hcl:l.length<=c2/\c2<=9223372036854775807:=by
  rcases ho.2 with⟨h',h0⟩ | ⟨_,_,_,h',_,_,h1,h2,_⟩
  · injection h' with _ _ e;rw[h0,e];omega
  · injection h' with _ _ e;unfold maxLen at h2;omega
 have HX:=hE0 hx;have HAR:=hE0 h;have HO:=hE0 ho;have HMEM:=hE0 hm;have HBASE:=hE0 hb;obtain⟨B0,hB0⟩:=nmE w.heap.size;have HB0:=hE0 hB0;clear hx h ho hm hb hB0;go_enter Tryz.func269,Tryz.ntmps269
 go_wp2
 go_loopw [13] (fun i wr=>∃j:Nat,j<=l.length/\i= .int .i64 (j:Int)/\(∀q∈l.take j,decide (s<=(szB bs q:Int))=false)/\Below B0 w wr) (fun i _=>l.length-(intOf i).toNat)
 case atStart=>exact⟨0,Nat.zero_le _,rfl,by simp,Below.refl _ _⟩
 case round=>
  obtain⟨j,hj,rfl,hall,hb3⟩:=hrel;have hBw:B0<=wr.heap.size:=by have:=hb3.size;have:=HB0.out;omega
  by_cases hlt:j<l.length
  · obtain⟨o,ho⟩:∃o,l[j]?=some o:=⟨l[j],List.getElem?_eq_getElem hlt⟩;have hb4:Below w.heap.size w wr:=by rw[HB0.out];exact hb3
    have own3:=aav HO.out hb4;obtain⟨b2,rfl⟩:∃b2,A2=some ⟨b2,0,none⟩:=by
     rcases own3.2 with⟨_,h0⟩ | ⟨g,_,_,h',_⟩
     · omega
     · injection h' with e;exact⟨g,e⟩
    have hcell:wr.cell? ⟨b2,j,none⟩=some (.int .i64 (o:Int)):=by
     rw[own3.cellAt j (by omega),List.getElem?_map,ho];rfl
    have har:=HAR.out.below hb4;obtain⟨ho20,⟨xo,xs,xu⟩,hg⟩:=HMEM.out o (List.mem_of_getElem? ho);have hsz:=asE hg;dsimp only at hsz;have hG:=alG wr g base cap c A bs (o:Int) _ har HBASE.out hl (by omega) hg;dsimp only[aaA,bkV,Bk.val,Option.isSome,aat]at hG;have q:=(aab _).1 (aaw hg).2.2.2.2.1;dsimp only at q;have HG:=hE0 hG;have HALL:=hE0 hall;have HOO:=hE0 ho;have HB2R:=hE0 hb3;clear hG hg hb3 hb4 own3 hall har ho;by_cases hge:s<=(xs:Int)
    · have hx1:x=o:=by
       rw[<-HX.out,apd HALL.out HOO.out (by rw[hsz];simpa using hge)];rfl
      subst hx1;clear HX;go_wp2_with fail
      with_reducible refine HG.out.mono ?_
      rintro e w4 ⟨rfl,hb4⟩;have HB4:=hE0 (HB2R.out.trans (hb4.mono hBw));have HS4:=hE0 hb4.size;clear hb4;go_wp2
      go_ret
      exact⟨rfl,by rw[HB0.out];exact HB4.out.alloc (by have:=HS4.out;omega) _⟩
    · go_wp2_with fail
      with_reducible refine HG.out.mono ?_
      rintro e w4 ⟨rfl,hb4⟩;have HB4:=hE0 (HB2R.out.trans (hb4.mono hBw));have HS4:=hE0 hb4.size;clear hb4;go_wp2
      go_roundw
      case rel=>exact⟨j+1,by omega,rfl,by
       intro q hq;rw[List.take_add_one,HOO.out]at hq;rcases List.mem_append.1 hq with hq | hq
       · exact HALL.out q hq
       · simp at hq;rw[hq,hsz];simpa using hge,HB4.out.alloc (by have:=HS4.out;omega) _⟩
      case measure=>simp only[intOf];omega
  · obtain rfl:j=l.length:=by omega
    have hx2:x=0:=by
     rw[<-HX.out,anA (by rw[List.take_length]at hall;exact hall)];rfl
    subst hx2;have HB4:=hE0 hb3;clear HX hall hb3;go_wp2
    go_ret
    exact⟨rfl,by rw[HB0.out];exact HB4.out⟩
end
end Go.Proofs.YtncadccbepjekaaGreatDoor
