/- Texts of mine, joined. -/
import Derived.Test.YtncadccbepjekaaGreatDoorP17
import Derived.Test.YtncadccbepjekaaGreatDoorP23
set_option maxRecDepth 100000
set_option maxHeartbeats 2000000
namespace Go.Proofs.YtncadccbepjekaaGreatDoor
open Go.RowKit
section
variable {w:World} {g base cap c:Nat} {A:Option Addr} {bs:List UInt8}
theorem aua (h:Ar w 195 g base cap A c bs) (hb:base<=4611686018427387904) (n:Nat) (hn:bs.length=n) (hl:n<=16384) (o:Int) (ho: -9223372036854775808<=o/\o<=9223372036854775807) (hk:aa2 bs o<0):
 Calls Tryz.prog 174 #[.pointer (some ⟨g,0,none⟩), .int .i64 o] w fun e w'=>e= .returned (aav false 3)/\Below w.heap.size w w':=by
 have HF:=hE0 (ai9 h hb (by omega) o ho hk);clear h hk hn;go_enter Tryz.func174,Tryz.ntmps174
 go_wp2_with fail
 with_reducible refine HF.out.mono ?_
 rintro e w1 ⟨rfl,hb1⟩;have HB:=hE0 hb1;clear hb1;go_wp2
 go_ret
 exact⟨rfl,HB.out⟩
theorem aql (h:Ar w 195 g base cap A c bs) (hb:base<=4611686018427387904) (n:Nat) (hn:bs.length=n) (hl:n<=16384) (p k f:Nat) (hk:aa2 bs (p:Int)=(k:Int)) (hf:aaf bs (8+8*k)=f) (hfp:f=p):
 Calls Tryz.prog 174 #[.pointer (some ⟨g,0,none⟩), .int .i64 (p:Int)] w fun e w'=>e= .returned (aav false 3)/\Below w.heap.size w w':=by
 obtain⟨p184,p32,k22⟩:=aa6 hk;have hfl:f<18446744073709551616:=by rw[<-hf];exact aan _ _
 have HF:=hE0 (aa1 h hb (by omega) (p:Int) (by omega) k hk);have HFA:=hE0 (fun W=>aaI W k k22);have HNF:=hE0 (fun W (hB:Below w.heap.size w W)=>aai (h.below hB) hb (by omega) (8+8*(k:Int)) (8+8*k) (by omega) (by omega) f hf);have hp2:p+32<=n:=by omega
 have hp3:184<=p:=by omega
 have s1:((f:Int)==(p:Int))=true:=by rw[beq_iff_eq];omega
 clear h hk hf hn hfp;go_enter Tryz.func174,Tryz.ntmps174
 go_wp2_with fail
 with_reducible refine HF.out.mono ?_
 rintro e w1 ⟨rfl,hb1⟩;have HB:=hE0 hb1;clear hb1 HF;go_wp2_with fail
 refine(HFA.out _).mono ?_;rintro e w9 ⟨rfl,rfl⟩;go_wp2_with fail
 refine(HNF.out _ HB.out).mono ?_;rintro e w9 ⟨rfl,rfl⟩;clear HFA HNF;go_wp2
 go_ret
 exact⟨rfl,HB.out⟩
theorem anZ (h:Ar w 195 g base cap A c bs) (hb:base<=4611686018427387904) (n:Nat) (hn:bs.length=n) (hl:n<=16384) (p k f:Nat) (hk:aa2 bs (p:Int)=(k:Int)) (hf:aaf bs (8+8*k)=f) (hfp:f≠p) (hf0:f≠0) (hm:aap bs f (k:Int)=false):
 Calls Tryz.prog 174 #[.pointer (some ⟨g,0,none⟩), .int .i64 (p:Int)] w fun e w'=>e= .returned (aav false 3)/\Below w.heap.size w w':=by
 obtain⟨p184,p32,k22⟩:=aa6 hk;have hfl:f<18446744073709551616:=by rw[<-hf];exact aan _ _
 have HF:=hE0 (aa1 h hb (by omega) (p:Int) (by omega) k hk);have HFA:=hE0 (fun W=>aaI W k k22);have HNF:=hE0 (fun W (hB:Below w.heap.size w W)=>aai (h.below hB) hb (by omega) (8+8*(k:Int)) (8+8*k) (by omega) (by omega) f hf);have hp2:p+32<=n:=by omega
 have hp3:184<=p:=by omega
 have HM:=hE0 (fun W (hB:Below w.heap.size w W)=>adA (h.below hB) hb (by omega) k f k22 hfl _ hm);have s1:((f:Int)==(p:Int))=false:=by rw[beq_eq_false_iff_ne];omega
 have s2:((f:Int) !=0)=true:=by rw[bne_iff_ne];omega
 clear h hk hf hn hm;go_enter Tryz.func174,Tryz.ntmps174
 go_wp2_with fail
 with_reducible refine HF.out.mono ?_
 rintro e w1 ⟨rfl,hb1⟩;have HB:=hE0 hb1;clear hb1 HF;go_wp2_with fail
 refine(HFA.out _).mono ?_;rintro e w9 ⟨rfl,rfl⟩;go_wp2_with fail
 refine(HNF.out _ HB.out).mono ?_;rintro e w9 ⟨rfl,rfl⟩;clear HFA HNF;go_wp2_with fail
 refine(HM.out _ HB.out).mono ?_;rintro e w2 ⟨rfl,hb2⟩;have HB2:=hE0 (HB.out.trans (hb2.mono HB.out.size));clear hb2 HM HB;go_wp2
 go_ret
 exact⟨rfl,HB2.out⟩
theorem an0 (h:Ar w 195 g base cap A c bs) (hb:base<=4611686018427387904) (n:Nat) (hn:bs.length=n) (hl:n<=16384) (p k f:Nat) (hk:aa2 bs (p:Int)=(k:Int)) (hf:aaf bs (8+8*k)=f) (hf0:f=0):
 Calls Tryz.prog 174 #[.pointer (some ⟨g,0,none⟩), .int .i64 (p:Int)] w fun e w'=>e= .returned (aav true 3)/\Became 195 g base cap A (abJ (lyN (lyN (lyN bs (p+8) f) (p+16) 0) (8+8*k) p) k) w w':=by
 obtain⟨p184,p32,k22⟩:=aa6 hk;have hfl:f<18446744073709551616:=by rw[<-hf];exact aan _ _
 have HF:=hE0 (aa1 h hb (by omega) (p:Int) (by omega) k hk);have HFA:=hE0 (fun W=>aaI W k k22);have HNF:=hE0 (fun W (hB:Below w.heap.size w W)=>aai (h.below hB) hb (by omega) (8+8*(k:Int)) (8+8*k) (by omega) (by omega) f hf);have hp2:p+32<=n:=by omega
 have hp3:184<=p:=by omega
 have s1:((f:Int)==(p:Int))=false:=by rw[beq_eq_false_iff_ne];omega
 have s2:((f:Int) !=0)=false:=by subst hf0;rfl
 have HBO:=hE0 (fun W (hB:Below w.heap.size w W)=>abu h hB);obtain⟨b1,hb1⟩:∃b,lyN bs (p+8) f=b:=⟨_,rfl⟩;have nb1:b1.length=n:=by rw[<-hb1,aah _ _ _ (by omega)];exact hn
 have HS1:=fun W (hB:Became 195 g base cap A bs w W)=>aaT hB hb (by omega) ((p:Int)+8) (p+8) (by omega) (by omega) f hfl;rw[hb1]at HS1 ⊢;have HS1:=hE0 HS1;obtain⟨b2,hb2⟩:∃b,lyN b1 (p+16) 0=b:=⟨_,rfl⟩;have nb2:b2.length=n:=by rw[<-hb2,aah _ _ _ (by omega)];exact nb1
 have HS2:=fun W (hB:Became 195 g base cap A b1 w W)=>aaT hB hb (by omega) ((p:Int)+16) (p+16) (by omega) (by omega) 0 (by omega);rw[hb2]at HS2 ⊢;have HS2:=hE0 HS2;have HSF:=hE0 (fun W (hB:Became 195 g base cap A b2 w W)=>abi hB hb n nb2 hl (by omega) k k22 p (by omega));clear hb1 nb1 hb2 nb2;clear h hk hf hn hf0;go_enter Tryz.func174,Tryz.ntmps174
 go_wp2_with fail
 with_reducible refine HF.out.mono ?_
 rintro e w1 ⟨rfl,hb1⟩;have HB:=hE0 hb1;clear hb1 HF;go_wp2_with fail
 refine(HFA.out _).mono ?_;rintro e w9 ⟨rfl,rfl⟩;go_wp2_with fail
 refine(HNF.out _ HB.out).mono ?_;rintro e w9 ⟨rfl,rfl⟩;clear HFA HNF;have G0:=hE0 (HBO.out _ HB.out);clear HBO HB;go_wp2_with fail
 refine(HS1.out _ G0.out).mono ?_;rintro e x1 ⟨rfl,bb⟩;have G1:=hE0 bb;clear bb HS1 G0;go_wp2_with fail
 refine(HS2.out _ G1.out).mono ?_;rintro e x2 ⟨rfl,bb⟩;have G2:=hE0 bb;clear bb HS2 G1;go_wp2_with fail
 refine(HSF.out _ G2.out).mono ?_;rintro e x9 ⟨rfl,bb⟩;have G9:=hE0 bb;clear bb HSF G2;go_wp2
 go_ret
 exact⟨rfl,G9.out⟩
theorem alR (h:Ar w 195 g base cap A c bs) (hb:base<=4611686018427387904) (n:Nat) (hn:bs.length=n) (hl:n<=16384) (p k f:Nat) (hk:aa2 bs (p:Int)=(k:Int)) (hf:aaf bs (8+8*k)=f) (hfp:f≠p) (hf0:f≠0) (hm:aap bs f (k:Int)=true):
 Calls Tryz.prog 174 #[.pointer (some ⟨g,0,none⟩), .int .i64 (p:Int)] w fun e w'=>e= .returned (aav true 3)/\Became 195 g base cap A (abJ (lyN (lyN (lyN (lyN bs (p+8) f) (p+16) 0) (f+16) p) (8+8*k) p) k) w w':=by
 obtain⟨p184,p32,k22⟩:=aa6 hk;have hfl:f<18446744073709551616:=by rw[<-hf];exact aan _ _
 have HF:=hE0 (aa1 h hb (by omega) (p:Int) (by omega) k hk);have HFA:=hE0 (fun W=>aaI W k k22);have HNF:=hE0 (fun W (hB:Below w.heap.size w W)=>aai (h.below hB) hb (by omega) (8+8*(k:Int)) (8+8*k) (by omega) (by omega) f hf);have hp2:p+32<=n:=by omega
 have hp3:184<=p:=by omega
 have HM:=hE0 (fun W (hB:Below w.heap.size w W)=>adA (h.below hB) hb (by omega) k f k22 hfl _ hm);have s1:((f:Int)==(p:Int))=false:=by rw[beq_eq_false_iff_ne];omega
 have s2:((f:Int) !=0)=true:=by rw[bne_iff_ne];omega
 have hfin:=aaO hm;have hf16:f+16+8<=n:=by omega
 have hf1:f<=16384:=by omega
 have HBO:=hE0 (fun W (hB:Below w.heap.size w W)=>abu h hB);obtain⟨b1,hb1⟩:∃b,lyN bs (p+8) f=b:=⟨_,rfl⟩;have nb1:b1.length=n:=by rw[<-hb1,aah _ _ _ (by omega)];exact hn
 have HS1:=fun W (hB:Became 195 g base cap A bs w W)=>aaT hB hb (by omega) ((p:Int)+8) (p+8) (by omega) (by omega) f hfl;rw[hb1]at HS1 ⊢;have HS1:=hE0 HS1;obtain⟨b2,hb2⟩:∃b,lyN b1 (p+16) 0=b:=⟨_,rfl⟩;have nb2:b2.length=n:=by rw[<-hb2,aah _ _ _ (by omega)];exact nb1
 have HS2:=fun W (hB:Became 195 g base cap A b1 w W)=>aaT hB hb (by omega) ((p:Int)+16) (p+16) (by omega) (by omega) 0 (by omega);rw[hb2]at HS2 ⊢;have HS2:=hE0 HS2;obtain⟨b3,hb3⟩:∃b,lyN b2 (f+16) p=b:=⟨_,rfl⟩;have nb3:b3.length=n:=by rw[<-hb3,aah _ _ _ (by omega)];exact nb2
 have HS3:=fun W (hB:Became 195 g base cap A b2 w W)=>aaT hB hb (by omega) ((f:Int)+16) (f+16) (by omega) (by omega) p (by omega);rw[hb3]at HS3 ⊢;have HS3:=hE0 HS3;have HSF:=hE0 (fun W (hB:Became 195 g base cap A b3 w W)=>abi hB hb n nb3 hl (by omega) k k22 p (by omega));clear hb1 nb1 hb2 nb2 hb3 nb3;clear h hk hf hn hm;go_enter Tryz.func174,Tryz.ntmps174
 go_wp2_with fail
 with_reducible refine HF.out.mono ?_
 rintro e w1 ⟨rfl,hb1⟩;have HB:=hE0 hb1;clear hb1 HF;go_wp2_with fail
 refine(HFA.out _).mono ?_;rintro e w9 ⟨rfl,rfl⟩;go_wp2_with fail
 refine(HNF.out _ HB.out).mono ?_;rintro e w9 ⟨rfl,rfl⟩;clear HFA HNF;go_wp2_with fail
 refine(HM.out _ HB.out).mono ?_;rintro e w2 ⟨rfl,hb2⟩;have HB2:=hE0 (HB.out.trans (hb2.mono HB.out.size));clear hb2 HM HB;have G0:=hE0 (HBO.out _ HB2.out);clear HBO HB2;go_wp2_with fail
 refine(HS1.out _ G0.out).mono ?_;rintro e x1 ⟨rfl,bb⟩;have G1:=hE0 bb;clear bb HS1 G0;go_wp2_with fail
 refine(HS2.out _ G1.out).mono ?_;rintro e x2 ⟨rfl,bb⟩;have G2:=hE0 bb;clear bb HS2 G1;go_wp2_with fail
 refine(HS3.out _ G2.out).mono ?_;rintro e x3 ⟨rfl,bb⟩;have G3:=hE0 bb;clear bb HS3 G2;go_wp2_with fail
 refine(HSF.out _ G3.out).mono ?_;rintro e x9 ⟨rfl,bb⟩;have G9:=hE0 bb;clear bb HSF G3;go_wp2
 go_ret
 exact⟨rfl,G9.out⟩
end
theorem awl:awp:=by
 intro w g base cap c A bs o y h hb hl ho hy;subst hy;rcases aeD bs o with hk | ⟨k,hk⟩
 · have e:ahH bs o=none:=by unfold ahH;rw[if_pos hk]
   rw[e];exact aua h hb _ rfl hl o ho hk
 · obtain⟨p184,p32,k22⟩:=aa6 hk;obtain⟨p,rfl⟩:∃p:Nat,o=(p:Int):=⟨o.toNat,by omega⟩;obtain⟨f,hf⟩:=nmE (aaf bs (8+8*k));have e:ahH bs (p:Int)=if (f:Int)=(p:Int)\/(f≠0/\aap bs f (k:Int)=false) then none else some (abJ (lyN (if f≠0 then lyN (lyN (lyN bs (p+8) f) (p+16) 0) (f+16) p else lyN (lyN bs (p+8) f) (p+16) 0) (8+8*k) p) k):=by
    unfold ahH;rw[hk,if_neg (by omega)];simp only[Int.toNat_natCast,hf]
   rw[e];by_cases hfp:f=p
   · rw[if_pos (.inl (by omega))];exact aql h hb _ rfl hl p k f hk hf hfp
   · by_cases hf0:f=0
     · rw[if_neg (by omega),if_neg (by omega)];exact an0 h hb _ rfl hl p k f hk hf hf0
     · cases hm:aap bs f (k:Int)with
       | false=>
        rw[if_pos (.inr ⟨hf0,rfl⟩)];exact anZ h hb _ rfl hl p k f hk hf hfp hf0 hm
       | true=>
        rw[if_neg (fun h1=>h1.elim (fun h2=>hfp (by omega)) (fun h2=>by cases h2.2)),if_pos hf0];exact alR h hb _ rfl hl p k f hk hf hfp hf0 hm
section
variable {w:World} {g base cap c:Nat} {A:Option Addr} {bs:List UInt8}
theorem an1 (h:Ar w 195 g base cap A c bs) (hb:base<=4611686018427387904) (hl:bs.length<=16384) (h184:184<=bs.length) (z:List UInt8) (hz:List.replicate 184 (0:UInt8)++bs.drop 184=z):
 Calls Tryz.prog 173 #[.pointer (some ⟨g,0,none⟩)] w fun e w'=>e= .returned .nilIface/\Became 195 g base cap A z w w':=by
 have HA:=hE0 (acj h);have hf:=aoN h (by omega) base 184 0 0 (by omega) (by omega) (by omega) (by omega);have e:lay bs 0 (List.replicate 184 (0:UInt8))=z:=by
  have e1:(List.replicate 184 (0:UInt8)).length=184:=List.length_replicate;rw[<-hz];unfold lay;rw[e1,Nat.zero_add,List.take_zero,List.nil_append]
 rw[e]at hf;have HF:Hid (Calls Tryz.prog 194 #[.pointer (some ⟨g,0,none⟩), .int .u64 (base:Int), .int .u64 184, .int .u8 0] w fun e w'=>e= .returned .nilIface/\Became 195 g base cap A z w w'):=hf;clear hf e hz h;go_enter Tryz.func173,Tryz.ntmps173
 go_wp2_with fail
 with_reducible refine HA.out.mono ?_
 rintro e w1 ⟨rfl,rfl⟩;go_wp2_with fail
 refine HF.out.mono ?_;rintro e w1 ⟨rfl,hbe⟩;have HB:=hE0 hbe;clear hbe;go_wp2
 go_ret
 exact⟨rfl,HB.out⟩
end
section
variable {w w1 w2:World} {g base cap:Nat} {A:Option Addr} {out:List UInt8}
theorem aaB (h:Became 195 g base cap A out w w1) (hb:Below w1.heap.size w1 w2):Became 195 g base cap A out w w2:=by
 obtain⟨A',c',a,tc,k⟩:=h;exact Became.trans a tc k (abu a hb)
theorem asl (h:184<=out.length) (o:Int):((ahH out o).getD out).length=out.length:=by
 cases hp:ahH out o with
 | none=>rfl
 | some y=>exact(agv h hp).1
theorem an2 (h:Became 195 g base cap A out w w1) (hb:base<=4611686018427387904) (hl:out.length<=16384) (o:Int) (ho: -9223372036854775808<=o/\o<=9223372036854775807):
 Calls Tryz.prog 174 #[.pointer (some ⟨g,0,none⟩), .int .i64 o] w1 fun e w2=>(∃v,e= .returned v)/\Became 195 g base cap A ((ahH out o).getD out) w w2:=by
 obtain⟨A',c',a,tc,k⟩:=h;refine(awl w1 g base cap c' A' out o _ a hb hl ho rfl).mono ?_;intro e w2 hd;unfold app at hd
 cases hp:ahH out o with
 | none=>
  rw[hp]at hd;exact⟨⟨_,hd.1⟩,Became.trans a tc k (abu a hd.2)⟩
 | some y=>
  rw[hp]at hd;exact⟨⟨_,hd.1⟩,Became.trans a tc k hd.2⟩
end
section
variable {w:World} {g base cap c:Nat} {A:Option Addr} {bs:List UInt8}
theorem an3 (h:Ar w 195 g base cap A c bs) (hb:base<=4611686018427387904) (hl:bs.length<=16384) (A2:Option Addr) (c2 B1:Nat) (l:List Nat) (ho:w.ownsRow B1 3 1 (.slice A2 l.length c2) l.length (l.map iV)) (hm:∀o∈l,o<=20000/\∃x,aa8 bs (o:Int)=some x) (s:Int) (x:Nat) (hx:(l.find? fun o=>decide (s<=(szB bs o:Int))).getD 0=x):
 Calls Tryz.prog 269 #[.pointer (some ⟨g,0,none⟩), .slice A2 l.length c2, .int .i64 s] w fun e w'=>e= .returned (.int .i64 (x:Int))/\Below w.heap.size w w':=by
 have hcl:l.length<=c2/\c2<=9223372036854775807:=by
  rcases ho.2 with⟨h',h0⟩ | ⟨_,_,_,h',_,_,h1,h2,_⟩
  · injection h' with _ _ e;rw[h0,e];omega
  · injection h' with _ _ e;unfold maxLen at h2;omega
 have HX:=hE0 hx;have HAR:=hE0 h;have HO:=hE0 ho;have HMEM:=hE0 hm;have HBASE:=hE0 hb;obtain⟨B0,hB0⟩:=nmE w.heap.size;have HB0:=hE0 hB0;clear hx h ho hm hb hB0;go_enter Tryz.func269,Tryz.ntmps269
 go_wp2
 go_loopw [13] (fun i wr=>∃j:Nat,j<=l.length/\i= .int .i64 (j:Int)/\(∀q∈l.take j,decide (s<=(szB bs q:Int))=false)/\Below B0 w wr) (fun i _=>l.length-(intOf i).toNat)
 case atStart=>exact⟨0,Nat.zero_le _,rfl,by simp,Below.refl _ _⟩
 case round=>
  obtain⟨j,hj,rfl,hall,hb3⟩:=hrel;have hBw:B0<=wr.heap.size:=by have:=hb3.size;have:=HB0.out;omega
  by_cases hlt:j<l.length
  · obtain⟨o,ho⟩:∃o,l[j]?=some o:=⟨l[j],List.getElem?_eq_getElem hlt⟩;have hb4:Below w.heap.size w wr:=by rw[HB0.out];exact hb3
    have own3:=aaw HO.out hb4;obtain⟨b2,rfl⟩:∃b2,A2=some ⟨b2,0,none⟩:=by
     rcases own3.2 with⟨_,h0⟩ | ⟨g,_,_,h',_⟩
     · omega
     · injection h' with e;exact⟨g,e⟩
    have hcell:wr.cell? ⟨b2,j,none⟩=some (.int .i64 (o:Int)):=by
     rw[own3.cellAt j (by omega),List.getElem?_map,ho];rfl
    have har:=HAR.out.below hb4;obtain⟨ho20,⟨xo,xs,xu⟩,hg⟩:=HMEM.out o (List.mem_of_getElem? ho);have hsz:=asV hg;dsimp only at hsz;have hG:=alD wr g base cap c A bs (o:Int) _ har HBASE.out hl (by omega) hg;dsimp only[aaE,bkV,Bk.val,Option.isSome,aav]at hG;have q:=(aab _).1 (aay hg).2.2.2.2.1;dsimp only at q;have HG:=hE0 hG;have HALL:=hE0 hall;have HOO:=hE0 ho;have HB2R:=hE0 hb3;clear hG hg hb3 hb4 own3 hall har ho;by_cases hge:s<=(xs:Int)
    · have hx1:x=o:=by
       rw[<-HX.out,aoY HALL.out HOO.out (by rw[hsz];simpa using hge)];rfl
      subst hx1;clear HX;go_wp2_with fail
      with_reducible refine HG.out.mono ?_
      rintro e w4 ⟨rfl,hb4⟩;have HB4:=hE0 (HB2R.out.trans (hb4.mono hBw));have HS4:=hE0 hb4.size;clear hb4;go_wp2
      go_ret
      exact⟨rfl,by rw[HB0.out];exact HB4.out.alloc (by have:=HS4.out;omega) _⟩
    · go_wp2_with fail
      with_reducible refine HG.out.mono ?_
      rintro e w4 ⟨rfl,hb4⟩;have HB4:=hE0 (HB2R.out.trans (hb4.mono hBw));have HS4:=hE0 hb4.size;clear hb4;go_wp2
      go_roundw
      case rel=>exact⟨j+1,by omega,rfl,by
       intro q hq;rw[List.take_add_one,HOO.out]at hq;rcases List.mem_append.1 hq with hq | hq
       · exact HALL.out q hq
       · simp at hq;rw[hq,hsz];simpa using hge,HB4.out.alloc (by have:=HS4.out;omega) _⟩
      case measure=>simp only[intOf];omega
  · obtain rfl:j=l.length:=by omega
    have hx2:x=0:=by
     rw[<-HX.out,anm (by rw[List.take_length]at hall;exact hall)];rfl
    subst hx2;have HB4:=hE0 hb3;clear HX hall hb3;go_wp2
    go_ret
    exact⟨rfl,by rw[HB0.out];exact HB4.out⟩
end
def frV (o:Int):Option Bk->Value
 | none=> .agg #[.int .i64 o, .int .i64 0, .bool false]
 | some y=> .agg #[.int .i64 (y.off:Int), .int .i64 (y.size:Int), .bool false]
theorem aeq{fn:Func}{R:Ending->World->Prop}{a:Act}{w:World}{p:Tmp}{g:Nat}{o s:Int}{b:Bool}(hres:fn.results= #[.cell p 112]) (hp:a.tmps.getD p undef= .pointer (some ⟨g,0,none⟩)) (hd:a.defers= [])
 (hg:w.heap[g]?=some (.cells #[.int .i64 o, .int .i64 s, .bool b] 112 (0,0))) (hR:R (.returned (.agg #[.int .i64 o, .int .i64 s, .bool b])) w):bodyPost Tryz.prog fn R .ret a w:=by
 refine bodyPost_ret (v:= .agg #[.int .i64 o, .int .i64 s, .bool b]) ?_ hd hR;exact results_cell_row hres _ _ g _ _ _ _ hp hg rfl rfl rfl
section
variable {w:World} {g base cap c:Nat} {A:Option Addr} {bs:List UInt8}
theorem aid{P:Prop}(h:P:=by
 obtain⟨w1,hw1⟩:=nmE (w.alloc (.cells #[.int .i64 0, .int .i64 0, .bool false] 112));have hb1:=abE hw1;have hn1:=anE hw1;have h1:=h.below hb1;have hG:=alD w1 g base cap c A bs o _ h1 hb hl ho hy;dsimp only[aaE,bkV,Bk.val,Option.isSome,aav]at hG;have HG:=hE0 hG;have HW1:=hE0 hw1;have HB1:=hE0 hb1;have HN1:=hE0 hn1;clear hG hy hw1 hb1 hn1 h1 h;go_enter Tryz.func236,Tryz.ntmps236
 go_wp2_with fail
 rw[HW1.out]
 with_reducible refine HG.out.mono ?_
 rintro e w2 ⟨rfl,hb2⟩;have hn2:=(hb2.block w.heap.size (aae HN1.out)).trans HN1.out;have HB2:=hE0 (HB1.out.trans (hb2.mono HB1.out.size));have HN2:=hE0 hn2;clear hb2 hn2 HG;obtain⟨⟨c0,c1,c2⟩,f0,f1,f2⟩:=aad HN2.out;have hlt:=aac HN2.out;go_wp2
 (try simp only[Exit.inBlock,Exit.then])
 refine aeq (g:=w.heap.size) (o:=o) (s:=0) (b:=false) Tryz.results236 ?_ ?_ ((heap_alloc_old _ _ (aae (aaK HN2.out _ _ _))).trans (aaK HN2.out _ _ _)) ?_
 · rfl
 · rfl
 · refine⟨rfl,Below.alloc (((HB2.out.setCell ?_ _).setCell ?_ _).setCell ?_ _) ?_ _⟩
   · exact Nat.le_refl _
   · exact Nat.le_refl _
   · exact Nat.le_refl _
   · simp only[World.setCell];have h9:=HB2.out.size;simpa using h9
 ):P:=h
theorem alS (h:Ar w 195 g base cap A c bs) (hb:base<=4611686018427387904) (hl:bs.length<=16384) (o:Int) (ho: -9223372036854775808<=o/\o<=9223372036854775807) (hy:aa8 bs o=none):
 Calls Tryz.prog 236 #[.pointer (some ⟨g,0,none⟩), .int .i64 o] w fun e w'=>e= .returned (frV o none)/\Below w.heap.size w w':=by
 exact aid
theorem alT (h:Ar w 195 g base cap A c bs) (hb:base<=4611686018427387904) (hl:bs.length<=16384) (o:Int) (ho: -9223372036854775808<=o/\o<=9223372036854775807) (xo xs:Nat) (hy:aa8 bs o=some ⟨xo,xs,true⟩):
 Calls Tryz.prog 236 #[.pointer (some ⟨g,0,none⟩), .int .i64 o] w fun e w'=>e= .returned (frV o none)/\Below w.heap.size w w':=by
 exact aid
theorem alU (h:Ar w 195 g base cap A c bs) (hb:base<=4611686018427387904) (hl:bs.length<=16384) (o:Int) (ho: -9223372036854775808<=o/\o<=9223372036854775807) (xo xs:Nat) (hy:aa8 bs o=some ⟨xo,xs,false⟩):
 Calls Tryz.prog 236 #[.pointer (some ⟨g,0,none⟩), .int .i64 o] w fun e w'=>e= .returned (frV o (some ⟨xo,xs,false⟩))/\Below w.heap.size w w':=by
 obtain⟨w1,hw1⟩:=nmE (w.alloc (.cells #[.int .i64 0, .int .i64 0, .bool false] 112));have hb1:=abE hw1;have hn1:=anE hw1;have h1:=h.below hb1;have hG:=alD w1 g base cap c A bs o _ h1 hb hl ho hy;dsimp only[aaE,bkV,Bk.val,Option.isSome,aav]at hG;have HG:=hE0 hG;have HW1:=hE0 hw1;have HB1:=hE0 hb1;have HN1:=hE0 hn1;clear hG hy hw1 hb1 hn1 h1 h;go_enter Tryz.func236,Tryz.ntmps236
 go_wp2_with fail
 rw[HW1.out]
 with_reducible refine HG.out.mono ?_
 rintro e w2 ⟨rfl,hb2⟩;have hn2:=(hb2.block w.heap.size (aae HN1.out)).trans HN1.out;have HB2:=hE0 (HB1.out.trans (hb2.mono HB1.out.size));have HN2:=hE0 hn2;clear hb2 hn2 HG;obtain⟨⟨c0,c1,c2⟩,f0,f1,f2⟩:=aad HN2.out;have hlt:=aac HN2.out;go_wp2
 (try simp only[Exit.inBlock,Exit.then])
 refine aeq (g:=w.heap.size) (o:=(xo:Int)) (s:=(xs:Int)) (b:=false) Tryz.results236 ?_ ?_ ((heap_alloc_old _ _ (aae (aaK HN2.out _ _ _))).trans (aaK HN2.out _ _ _)) ?_
 · rfl
 · rfl
 · refine⟨rfl,Below.alloc (((HB2.out.setCell ?_ _).setCell ?_ _).setCell ?_ _) ?_ _⟩
   · exact Nat.le_refl _
   · exact Nat.le_refl _
   · exact Nat.le_refl _
   · simp only[World.setCell];have h9:=HB2.out.size;simpa using h9
theorem an4 (h:Ar w 195 g base cap A c bs) (hb:base<=4611686018427387904) (hl:bs.length<=16384) (o:Int) (ho: -9223372036854775808<=o/\o<=9223372036854775807) (y:Option Bk) (hy:frO (aa8 bs o)=y):
 Calls Tryz.prog 236 #[.pointer (some ⟨g,0,none⟩), .int .i64 o] w fun e w'=>e= .returned (frV o y)/\Below w.heap.size w w':=by
 subst hy
 cases hg:aa8 bs o with
 | none=>exact alS h hb hl o ho hg
 | some x=>
  obtain⟨xo,xs,xu⟩:=x
  cases xu with
  | true=>exact alT h hb hl o ho xo xs hg
  | false=>exact alU h hb hl o ho xo xs hg
theorem ag1{P:Prop}(h:P:=by
 go_enter Tryz.func237,Tryz.ntmps237
 go_wp2_with fail
 rw[HW1.out]
 with_reducible refine HG.out.mono ?_
 rintro e w2 ⟨rfl,hb2⟩;have hn2:=(hb2.block w.heap.size (aae HN1.out)).trans HN1.out;have HB2:=hE0 (HB1.out.trans (hb2.mono HB1.out.size));have HN2:=hE0 hn2;clear hb2 hn2 HG;obtain⟨⟨c0,c1,c2⟩,f0,f1,f2⟩:=aad HN2.out;have hlt:=aac HN2.out;go_wp2
 (try simp only[Exit.inBlock,Exit.then])
 refine aeq (g:=w.heap.size) (o:=o) (s:=0) (b:=false) Tryz.results237 ?_ ?_ ((heap_alloc_old _ _ (aae (aaK HN2.out _ _ _))).trans (aaK HN2.out _ _ _)) ?_
 · rfl
 · rfl
 · refine⟨rfl,Below.alloc (((HB2.out.setCell ?_ _).setCell ?_ _).setCell ?_ _) ?_ _⟩
   · exact Nat.le_refl _
   · exact Nat.le_refl _
   · exact Nat.le_refl _
   · simp only[World.setCell];have h9:=HB2.out.size;simpa using h9
 ):P:=h
theorem akw (o:Int) (hA:∀w1,Below w.heap.size w w1->Calls Tryz.prog 270 #[.pointer (some ⟨g,0,none⟩), .int .i64 o] w1 fun e w'=>aaE none w1 e w'):
 Calls Tryz.prog 237 #[.pointer (some ⟨g,0,none⟩), .int .i64 o] w fun e w'=>e= .returned (frV o none)/\Below w.heap.size w w':=by
 obtain⟨w1,hw1⟩:=nmE (w.alloc (.cells #[.int .i64 0, .int .i64 0, .bool false] 112));have hb1:=abE hw1;have hn1:=anE hw1;have hG:=hA w1 hb1;dsimp only[aaE,bkV,Bk.val,Option.isSome,aav]at hG;have HG:=hE0 hG;have HW1:=hE0 hw1;have HB1:=hE0 hb1;have HN1:=hE0 hn1;clear hG hA hw1 hb1 hn1;exact ag1
theorem ahv (h:Ar w 195 g base cap A c bs) (hb:base<=4611686018427387904) (hl:bs.length<=16384) (o:Int) (ho: -9223372036854775808<=o/\o<=9223372036854775807) (hy:abK bs o=none):
 Calls Tryz.prog 237 #[.pointer (some ⟨g,0,none⟩), .int .i64 o] w fun e w'=>e= .returned (frV o none)/\Below w.heap.size w w':=
 akw o fun w1 hb1=>apO w1 g base cap c A bs o _ (h.below hb1) hb hl ho hy
theorem ahw (h:Ar w 195 g base cap A c bs) (hb:base<=4611686018427387904) (hl:bs.length<=16384) (o:Int) (ho: -9223372036854775808<=o/\o<=9223372036854775807) (xo xs:Nat) (hy:abK bs o=some ⟨xo,xs,true⟩):
 Calls Tryz.prog 237 #[.pointer (some ⟨g,0,none⟩), .int .i64 o] w fun e w'=>e= .returned (frV o none)/\Below w.heap.size w w':=by
 obtain⟨w1,hw1⟩:=nmE (w.alloc (.cells #[.int .i64 0, .int .i64 0, .bool false] 112));have hb1:=abE hw1;have hn1:=anE hw1;have h1:=h.below hb1;have hG:=apO w1 g base cap c A bs o _ h1 hb hl ho hy;dsimp only[aaE,bkV,Bk.val,Option.isSome,aav]at hG;have HG:=hE0 hG;have HW1:=hE0 hw1;have HB1:=hE0 hb1;have HN1:=hE0 hn1;clear hG hy hw1 hb1 hn1 h1 h;exact ag1
theorem ahx (h:Ar w 195 g base cap A c bs) (hb:base<=4611686018427387904) (hl:bs.length<=16384) (o:Int) (ho: -9223372036854775808<=o/\o<=9223372036854775807) (xo xs:Nat) (hy:abK bs o=some ⟨xo,xs,false⟩):
 Calls Tryz.prog 237 #[.pointer (some ⟨g,0,none⟩), .int .i64 o] w fun e w'=>e= .returned (frV o (some ⟨xo,xs,false⟩))/\Below w.heap.size w w':=by
 obtain⟨w1,hw1⟩:=nmE (w.alloc (.cells #[.int .i64 0, .int .i64 0, .bool false] 112));have hb1:=abE hw1;have hn1:=anE hw1;have h1:=h.below hb1;have hG:=apO w1 g base cap c A bs o _ h1 hb hl ho hy;dsimp only[aaE,bkV,Bk.val,Option.isSome,aav]at hG;have HG:=hE0 hG;have HW1:=hE0 hw1;have HB1:=hE0 hb1;have HN1:=hE0 hn1;clear hG hy hw1 hb1 hn1 h1 h;go_enter Tryz.func237,Tryz.ntmps237
 go_wp2_with fail
 rw[HW1.out]
 with_reducible refine HG.out.mono ?_
 rintro e w2 ⟨rfl,hb2⟩;have hn2:=(hb2.block w.heap.size (aae HN1.out)).trans HN1.out;have HB2:=hE0 (HB1.out.trans (hb2.mono HB1.out.size));have HN2:=hE0 hn2;clear hb2 hn2 HG;obtain⟨⟨c0,c1,c2⟩,f0,f1,f2⟩:=aad HN2.out;have hlt:=aac HN2.out;go_wp2
 (try simp only[Exit.inBlock,Exit.then])
 refine aeq (g:=w.heap.size) (o:=(xo:Int)) (s:=(xs:Int)) (b:=false) Tryz.results237 ?_ ?_ ((heap_alloc_old _ _ (aae (aaK HN2.out _ _ _))).trans (aaK HN2.out _ _ _)) ?_
 · rfl
 · rfl
 · refine⟨rfl,Below.alloc (((HB2.out.setCell ?_ _).setCell ?_ _).setCell ?_ _) ?_ _⟩
   · exact Nat.le_refl _
   · exact Nat.le_refl _
   · exact Nat.le_refl _
   · simp only[World.setCell];have h9:=HB2.out.size;simpa using h9
theorem adB (h:Ar w 195 g base cap A c bs) (hb:base<=4611686018427387904) (hl:bs.length<=16384) (o:Int) (ho: -9223372036854775808<=o/\o<=9223372036854775807) (y:Option Bk) (hy:frO (abK bs o)=y):
 Calls Tryz.prog 237 #[.pointer (some ⟨g,0,none⟩), .int .i64 o] w fun e w'=>e= .returned (frV o y)/\Below w.heap.size w w':=by
 subst hy
 cases hg:abK bs o with
 | none=>exact ahv h hb hl o ho hg
 | some x=>
  obtain⟨xo,xs,xu⟩:=x
  cases xu with
  | true=>exact ahw h hb hl o ho xo xs hg
  | false=>exact ahx h hb hl o ho xo xs hg
theorem akx (o:Int):
 Calls Tryz.prog 238 #[.pointer (some ⟨g,0,none⟩), .agg #[.int .i64 o, .int .i64 0, .bool false]] w fun e w'=>e= .returned (.tuple #[])/\Below w.heap.size w w':=by
 go_enter Tryz.func238,Tryz.ntmps238
 go_wp2
 go_end0
 exact⟨rfl,(Below.refl _ _).alloc (Nat.le_refl _) _⟩
theorem aky (h:Ar w 195 g base cap A c bs) (hb:base<=4611686018427387904) (hl:bs.length<=16384) (o s:Nat) (ho:(o:Int)<=9223372036854775807) (hs:(0:Int)<(s:Int)) (out:List UInt8) (hy:aeB bs (o:Int)=some out):
 Calls Tryz.prog 238 #[.pointer (some ⟨g,0,none⟩), .agg #[.int .i64 (o:Int), .int .i64 (s:Int), .bool false]] w fun e w'=>e= .returned (.tuple #[])/\Became 195 g base cap A out w w':=by
 obtain⟨w1,hw1⟩:=nmE (w.alloc (.cells #[.int .i64 (o:Int), .int .i64 (s:Int), .bool false] 112));have hb1:=abE hw1;have hT:=ave w1 g base cap c A bs (o:Int) _ (h.below hb1) hb hl (by omega) hy;dsimp only[app,aav]at hT;have HT:=hE0 hT;have HW1:=hE0 hw1;have HB1:=hE0 hb1;clear hT hy hw1 hb1 h;go_enter Tryz.func238,Tryz.ntmps238
 go_wp2_with fail
 rw[HW1.out]
 with_reducible refine HT.out.mono ?_
 rintro e w2 ⟨rfl,hb2⟩;have HB2:=hE0 (hb2.after HB1.out);clear hb2 HT;go_wp2
 go_end0
 exact⟨rfl,HB2.out⟩
end
def Loc (w w':World):Prop:=∀(k:Nat) (cs:Array Value),w.heap[k]?=some (.cells cs 112 (0,0))->w'.heap[k]?=some (.cells cs 112 (0,0))
theorem Loc.below{w w':World}(h:Below w.heap.size w w'):Loc w w':=fun i _ hi=>(h.block i (aae hi)).trans hi
theorem aje{w:World}{g base cap c:Nat}{A:Option Addr}{bs:List UInt8}(h:Ar w 195 g base cap A c bs){k:Nat}{cs:Array Value}(hk:w.heap[k]?=some (.cells cs 112 (0,0))):¬foot g A k:=by
 rintro(rfl | ⟨a,ea,rfl⟩)
 · have h1:=h.obj;rw[hk]at h1;injection h1 with h1;injection h1 with _ h2 _;exact absurd h2 (by decide)
 · obtain⟨h',e,cur,h1,_⟩:=h.row ea;rw[e]at hk;have hk:w.heap[h']?=some (.cells cs 112 (0,0)):=hk;rw[hk]at h1;injection h1 with h1;injection h1 with _ h2 _;exact absurd h2 (by decide)
theorem Loc.tch{w w':World}{g base cap c:Nat}{A:Option Addr}{bs:List UInt8}(h:Ar w 195 g base cap A c bs) (ht:Tch (foot g A) w w'):Loc w w':=fun i _ hi=>(ht.block i (aae hi) (aje h hi)).trans hi
section
variable {w w1:World} {g base cap:Nat} {A:Option Addr} {b1 b2:List UInt8}
theorem aie{k:Nat}{cs:Array Value}(h:Became 195 g base cap A b1 w w1) (hk:w1.heap[k]?=some (.cells cs 112 (0,0))) (hB:w.heap.size<=k) (i:Nat) (v:Value):Became 195 g base cap A b1 w (w1.setCell ⟨k,i,none⟩ v):=by
 obtain⟨A',c',a,tc,kk⟩:=h;have hne:=aje a hk;refine⟨A',c',a.keep fun q hq=>Below.heap_setCell w1 ⟨k,i,none⟩ v q (fun e=>by have e:q=k:=e;subst e;exact hne hq),?_,kk⟩;exact⟨tc.os,tc.tape,tc.output,by simpa[World.setCell]using tc.size,fun q hq hn=>(Below.heap_setCell w1 ⟨k,i,none⟩ v q (fun e=>by have e:q=k:=e;omega)).trans (tc.block q hq hn)⟩
theorem aa7 (h:Became 195 g base cap A b1 w w1) (o:Obj):Became 195 g base cap A b1 w (w1.alloc o):=aaB h ((Below.refl _ _).alloc (Nat.le_refl _) _)
theorem avg (h:Became 195 g base cap A b1 w w1) (hb:base<=4611686018427387904) (hl:b1.length<=16384) (o:Int) (ho: -9223372036854775808<=o/\o<=9223372036854775807) (y:Option Bk) (hy:frO (aa8 b1 o)=y):
 Calls Tryz.prog 236 #[.pointer (some ⟨g,0,none⟩), .int .i64 o] w1 fun e w2=>e= .returned (frV o y)/\Became 195 g base cap A b1 w w2/\Below w1.heap.size w1 w2:=by
 obtain⟨A',c',a,tc,k⟩:=h;refine(an4 a hb hl o ho y hy).mono ?_;rintro e w2 ⟨h1,h2⟩;exact⟨h1,aaB ⟨A',c',a,tc,k⟩ h2,h2⟩
theorem asm (h:Became 195 g base cap A b1 w w1) (hb:base<=4611686018427387904) (hl:b1.length<=16384) (o:Int) (ho: -9223372036854775808<=o/\o<=9223372036854775807) (y:Option Bk) (hy:frO (abK b1 o)=y):
 Calls Tryz.prog 237 #[.pointer (some ⟨g,0,none⟩), .int .i64 o] w1 fun e w2=>e= .returned (frV o y)/\Became 195 g base cap A b1 w w2/\Below w1.heap.size w1 w2:=by
 obtain⟨A',c',a,tc,k⟩:=h;refine(adB a hb hl o ho y hy).mono ?_;rintro e w2 ⟨h1,h2⟩;exact⟨h1,aaB ⟨A',c',a,tc,k⟩ h2,h2⟩
theorem amV (h:Became 195 g base cap A b1 w w1) (hb:base<=4611686018427387904) (hl:b1.length<=16384) (o:Int) (y:Option Bk) (hs:∀z,y=some z->0<z.size/\z.off<=16384) (hy:apK b1 y=some b2):
 Calls Tryz.prog 238 #[.pointer (some ⟨g,0,none⟩),frV o y] w1 fun e w2=>e= .returned (.tuple #[])/\Became 195 g base cap A b2 w w2/\Loc w1 w2:=by
 cases y with
 | none=>
  injection hy with hy;subst hy;refine(akx o).mono ?_;rintro e w2 ⟨h1,h2⟩;exact⟨h1,aaB h h2,Loc.below h2⟩
 | some z=>
  obtain⟨A',c',a,tc,k⟩:=h;have hz:=hs z rfl;refine(aky a hb hl z.off z.size (by omega) (by omega) b2 hy).mono ?_;rintro e w2 ⟨h1,h2⟩;have h2':=h2;obtain⟨_,_,_,ht,_⟩:=h2';exact⟨h1,Became.trans a tc k h2,Loc.tch a ht⟩
theorem aif (h:Became 195 g base cap A b1 w w1) (hb:base<=4611686018427387904) (hl:b1.length<=16384) (o s:Nat) (u:Bool) (ho:o<=16384) (hs:s<=16384) (hy:aek b1 (o:Int) (s:Int) u=some b2):
 Calls Tryz.prog 217 #[.pointer (some ⟨g,0,none⟩), .agg #[.int .i64 (o:Int), .int .i64 (s:Int), .bool u]] w1 fun e w2=>e= .returned .nilIface/\Became 195 g base cap A b2 w w2/\Loc w1 w2:=by
 obtain⟨A',c',a,tc,k⟩:=h;refine(av4 w1 g base cap c' A' b1 (o:Int) (s:Int) u _ a hb hl (by omega) (by omega) hy).mono ?_;rintro e w2 ⟨h1,h2⟩;have h2':=h2;obtain⟨_,_,_,ht,_⟩:=h2';exact⟨h1,Became.trans a tc k h2,Loc.tch a ht⟩
theorem avh (h:Became 195 g base cap A b1 w w1) (hb:base<=4611686018427387904) (hl:b1.length<=16384) (o:Nat) (ho:o<=16384) (hy:ahH b1 (o:Int)=some b2):
 Calls Tryz.prog 174 #[.pointer (some ⟨g,0,none⟩), .int .i64 (o:Int)] w1 fun e w2=>e= .returned .nilIface/\Became 195 g base cap A b2 w w2/\Loc w1 w2:=by
 obtain⟨A',c',a,tc,k⟩:=h;refine(awl w1 g base cap c' A' b1 (o:Int) _ a hb hl (by omega) hy).mono ?_;rintro e w2 ⟨h1,h2⟩;have h2':=h2;obtain⟨_,_,_,ht,_⟩:=h2';exact⟨h1,Became.trans a tc k h2,Loc.tch a ht⟩
theorem aub (h:Became 195 g base cap A b1 w w1) (n:Nat) (hl:b1.length<=cap) (hcap:cap<=16384) (hn:b1.length+n<=cap):
 Calls Tryz.prog 65 #[.pointer (some ⟨g,0,none⟩), .int .i64 (n:Int)] w1 fun e w2=>e= .returned .nilIface/\Became 195 g base cap A (b1++List.replicate n 0) w w2/\Loc w1 w2:=by
 obtain⟨A',c',a,tc,k⟩:=h;refine(aiz a n hl hcap hn).mono ?_;rintro e w2 ⟨h1,h2⟩;have h2':=h2;obtain⟨_,_,_,ht,_⟩:=h2';exact⟨h1,Became.trans a tc k h2,Loc.tch a ht⟩
end
end Go.Proofs.YtncadccbepjekaaGreatDoor
