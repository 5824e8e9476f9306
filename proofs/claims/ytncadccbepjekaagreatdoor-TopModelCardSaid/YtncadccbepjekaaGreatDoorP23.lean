/- Texts of mine, joined. -/
import Derived.Test.YtncadccbepjekaaGreatDoorP19
import Derived.Test.YtncadccbepjekaaGreatDoorP20
set_option maxRecDepth 100000
set_option maxHeartbeats 2000000
namespace Go.Proofs.YtncadccbepjekaaGreatDoor
open Go.RowKit
section
variable {w:World} {g base cap c:Nat} {A:Option Addr} {bs:List UInt8}
theorem ai9 (h:Ar w 195 g base cap A c bs) (hb:base<=4611686018427387904) (hl:bs.length<=16384) (o:Int) (ho: -9223372036854775808<=o/\o<=9223372036854775807) (hk:aa2 bs o<0):
 Calls Tryz.prog 227 #[.pointer (some ⟨g,0,none⟩), .int .i64 o] w fun e w'=>e= .returned (.tuple #[.int .i64 0, .bool false])/\Below w.heap.size w w':=by
 cases hg:aa8 bs o with
 | none=>
  have hG:=alD w g base cap c A bs o _ h hb hl ho hg;dsimp only[aaE,bkV,Option.isSome,aav]at hG;have HG:=hE0 hG;clear hG h hk hg;go_enter Tryz.func227,Tryz.ntmps227
  go_wp2_with fail
  with_reducible refine HG.out.mono ?_
  rintro e w1 ⟨rfl,hb⟩;go_wp2
  go_ret2
  exact⟨rfl,hb.alloc hb.size _⟩
 | some x=>
  obtain⟨xo,xs,xu⟩:=x;have hG:=alD w g base cap c A bs o _ h hb hl ho hg;dsimp only[aaE,bkV,Bk.val,Option.isSome,aav]at hG;have q3:=(aay hg).2.2.2.2.1;dsimp only at q3;have q:=(aab _).1 q3
  cases xu with
  | true=>
   have HG:=hE0 hG;clear hG h hk hg q3;go_enter Tryz.func227,Tryz.ntmps227
   go_wp2_with fail
   with_reducible refine HG.out.mono ?_
   rintro e w1 ⟨rfl,hb⟩;go_wp2
   go_ret2
   exact⟨rfl,hb.alloc hb.size _⟩
  | false=>
   obtain⟨d,hd,_⟩:=abz (x:=⟨xo,xs,false⟩) q3;dsimp only at hd;unfold aa2 at hk;rw[hg]at hk;dsimp only at hk;rw[hd]at hk;simp at hk;omega
theorem aa1 (h:Ar w 195 g base cap A c bs) (hb:base<=4611686018427387904) (hl:bs.length<=16384) (o:Int) (ho: -9223372036854775808<=o/\o<=9223372036854775807) (k:Nat) (hk:aa2 bs o=(k:Int)):
 Calls Tryz.prog 227 #[.pointer (some ⟨g,0,none⟩), .int .i64 o] w fun e w'=>e= .returned (.tuple #[.int .i64 (k:Int), .bool true])/\Below w.heap.size w w':=by
 cases hg:aa8 bs o with
 | none=>unfold aa2 at hk;rw[hg]at hk;dsimp only at hk;omega
 | some x=>
  obtain⟨xo,xs,xu⟩:=x;have hG:=alD w g base cap c A bs o _ h hb hl ho hg;dsimp only[aaE,bkV,Bk.val,Option.isSome,aav]at hG;have q:=(aab _).1 (aay hg).2.2.2.2.1;dsimp only at q
  cases xu with
  | true=>unfold aa2 at hk;rw[hg]at hk;simp at hk
  | false=>
   have hk':aaq (xs:Int)=(k:Int):=by rw[<-hk];unfold aa2;rw[hg];rfl
   have HC:=hE0 (fun w=>ajW w (xs:Int) (by omega));rw[hk']at HC;have HG:=hE0 hG;clear hG h hk hg hk';go_enter Tryz.func227,Tryz.ntmps227
   go_wp2_with fail
   with_reducible refine HG.out.mono ?_
   rintro e w1 ⟨rfl,hb⟩;go_wp2_with fail
   with_reducible refine(HC.out _).mono ?_
   rintro e w2 ⟨rfl,hb2⟩;have hb3:=hb.alloc hb.size (.cells #[.int .i64 (xo:Int), .int .i64 (xs:Int), .bool false] 112);have HB:=hE0 (hb3.trans (hb2.mono hb3.size));clear hb hb2 hb3;go_wp2
   go_ret2
   exact⟨rfl,HB.out⟩
theorem adA (h:Ar w 195 g base cap A c bs) (hb:base<=4611686018427387904) (hl:bs.length<=16384) (k p:Nat) (hk:k<22) (hp:p<18446744073709551616) (b:Bool) (hm:aap bs p (k:Int)=b):
 Calls Tryz.prog 224 #[.pointer (some ⟨g,0,none⟩), .int .i64 (k:Int), .int .u64 (p:Int)] w fun e w'=>e= .returned (.bool b)/\Below w.heap.size w w':=by
 have HL:=hE0 (abO h);by_cases h0:bs.length<=p
 · obtain rfl:false=b:=by
    rw[<-hm]
    cases hq:aap bs p (k:Int)with
    | true=>have:=aaO hq;omega
    | false=>rfl
   clear hm h;go_enter Tryz.func224,Tryz.ntmps224
   go_wp2_with fail
   with_reducible refine HL.out.mono ?_
   rintro e w1 ⟨rfl,rfl⟩;go_wp2
   go_ret
   exact⟨rfl,Below.refl _ _⟩
 · have h1:p<bs.length:=by omega
   rw[ajR,decide_eq_true (by omega),Bool.true_and]at hm;rcases aeD bs (p:Int)with hf | ⟨j,hf⟩
   · obtain rfl:false=b:=by rw[<-hm];exact(beq_eq_false_iff_ne.2 (by omega)).symm
     have HF:=hE0 (ai9 h hb hl (p:Int) (by omega) hf);clear hm h hf;go_enter Tryz.func224,Tryz.ntmps224
     go_wp2_with fail
     with_reducible refine HL.out.mono ?_
     rintro e w1 ⟨rfl,rfl⟩;go_wp2_with fail
     with_reducible refine HF.out.mono ?_
     rintro e w1 ⟨rfl,hb1⟩;have HB:=hE0 hb1;clear hb1;go_wp2
     go_ret
     exact⟨rfl,HB.out⟩
   · have HF:=hE0 (aa1 h hb hl (p:Int) (by omega) j hf);rw[hf]at hm;have HM:=hE0 hm;have hj:=(aa6 hf).2.2;clear hm h hf;go_enter Tryz.func224,Tryz.ntmps224
     go_wp2_with fail
     with_reducible refine HL.out.mono ?_
     rintro e w1 ⟨rfl,rfl⟩;go_wp2_with fail
     with_reducible refine HF.out.mono ?_
     rintro e w1 ⟨rfl,hb1⟩;have HB:=hE0 hb1;clear hb1;go_wp2
     go_ret
     exact⟨asZ HM.out,HB.out⟩
theorem abG (h:Ar w 195 g base cap A c bs) (hb:base<=4611686018427387904) (hl:bs.length<=16384) (k p q u:Nat) (hk:k<22) (hp:p<18446744073709551616) (hq:q<=16) (b:Bool) (hm:abr bs k p q u=b):
 Calls Tryz.prog 167 #[.pointer (some ⟨g,0,none⟩), .int .i64 (k:Int), .int .u64 (p:Int), .int .i64 (q:Int), .int .u64 (u:Int)] w fun e w'=>e= .returned (.bool b)/\Below w.heap.size w w':=by
 unfold abr at hm
 cases hmb:aap bs p (k:Int)with
 | false=>
  rw[hmb]at hm;obtain rfl:false=b:=hm;have HM:=hE0 (adA h hb hl k p hk hp false hmb);clear hmb h;go_enter Tryz.func167,Tryz.ntmps167
  go_wp2_with fail
  with_reducible refine HM.out.mono ?_
  rintro e w1 ⟨rfl,hb1⟩;have HB:=hE0 hb1;clear hb1;go_wp2
  go_ret
  exact⟨rfl,HB.out⟩
 | true=>
  have hin:=aaO hmb;obtain⟨v,hv⟩:=nmE (aaf bs (p+q));have hvl:v<18446744073709551616:=by rw[<-hv];exact aan _ _
  rw[hmb,hv,Bool.true_and]at hm;have hm2:((v:Int)==(u:Int))=b:=by rw[<-hm,Bool.eq_iff_iff,beq_iff_eq,beq_iff_eq];omega
  have HM:=hE0 (adA h hb hl k p hk hp true hmb);have HN:=hE0 (fun w1 (hb1:Below w.heap.size w w1)=>aai (h.below hb1) hb hl ((p:Int)+(q:Int)) (p+q) (by omega) (by omega) v hv);have HV:=hE0 hm2;clear hmb h hm hm2 hv;go_enter Tryz.func167,Tryz.ntmps167
  go_wp2_with fail
  with_reducible refine HM.out.mono ?_
  rintro e w1 ⟨rfl,hb1⟩;have HB:=hE0 hb1;clear hb1;go_wp2_with fail
  refine(HN.out _ HB.out).mono ?_;rintro e w2 ⟨rfl,rfl⟩;go_wp2
  go_ret
  exact⟨asZ HV.out,HB.out⟩
theorem alJ (h:Ar w 195 g base cap A c bs) (hb:base<=4611686018427387904) (hl:bs.length<=16384) (hl2:184<=bs.length) (k:Nat) (hk:k<22) (b:Bool) (hm:acC (aaf bs 0) k=b):
 Calls Tryz.prog 166 #[.pointer (some ⟨g,0,none⟩), .int .i64 (k:Int)] w fun e w'=>e= .returned (.bool b)/\w=w':=by
 obtain⟨v,hv⟩:=nmE (aaf bs 0);have hvl:v<18446744073709551616:=by rw[<-hv];exact aan _ _
 have HN:=hE0 (aai h hb hl 0 0 rfl (by omega) v hv);rw[hv]at hm;have HV:=hE0 ((atr v k hvl hk).trans hm);have HT:=hE0 (ai5 w k hk);obtain⟨m,hm2⟩:=nmE (2^k);have hml:m<=2097152:=by rw[<-hm2];exact alb k hk
 rw[hm2]at HV HT;clear hm hv h hm2;go_enter Tryz.func166,Tryz.ntmps166
 go_wp2_with fail
 with_reducible refine HN.out.mono ?_
 rintro e w1 ⟨rfl,rfl⟩;go_wp2_with fail
 with_reducible refine HT.out.mono ?_
 rintro e w1 ⟨rfl,rfl⟩;go_wp2
 go_ret
 exact⟨asZ HV.out,rfl⟩
end
theorem abv{bs:List UInt8}{k v j u:Nat}(h:abr bs k v j u=true):aap bs v (k:Int)=true:=by
 unfold abr at h;rw[Bool.and_eq_true]at h;exact h.1
section
variable {w:World} {g base cap c:Nat} {A:Option Addr} {bs:List UInt8}
theorem asc (h:Ar w 195 g base cap A c bs) (hb:base<=4611686018427387904) (n:Nat) (hn:bs.length=n) (hl:n<=16384) (o:Int) (ho: -9223372036854775808<=o/\o<=9223372036854775807) (hk:aa2 bs o<0):
 Calls Tryz.prog 271 #[.pointer (some ⟨g,0,none⟩), .int .i64 o] w fun e w'=>e= .returned (aav false 3)/\Below w.heap.size w w':=by
 have HF:=hE0 (ai9 h hb (by omega) o ho hk);clear h hk hn;go_enter Tryz.func271,Tryz.ntmps271
 go_wp2_with fail
 with_reducible refine HF.out.mono ?_
 rintro e w1 ⟨rfl,hb1⟩;have HB:=hE0 hb1;clear hb1;go_wp2
 go_ret
 exact⟨rfl,HB.out⟩
theorem alK (h:Ar w 195 g base cap A c bs) (hb:base<=4611686018427387904) (n:Nat) (hn:bs.length=n) (hl:n<=16384) (q k f m p:Nat) (hk:aa2 bs (q:Int)=(k:Int)) (hf:aaf bs (8+8*k)=f) (hm:aaf bs (q+8)=m) (hp:aaf bs (q+16)=p) (hp0:p=0) (hfq:f≠q):
 Calls Tryz.prog 271 #[.pointer (some ⟨g,0,none⟩), .int .i64 (q:Int)] w fun e w'=>e= .returned (aav false 3)/\Below w.heap.size w w':=by
 obtain⟨q184,q32,k22⟩:=aa6 hk;have hfl:f<18446744073709551616:=by rw[<-hf];exact aan _ _
 have hml:m<18446744073709551616:=by rw[<-hm];exact aan _ _
 have hpl:p<18446744073709551616:=by rw[<-hp];exact aan _ _
 have HF:=hE0 (aa1 h hb (by omega) (q:Int) (by omega) k hk);have HFA:=hE0 (fun W=>aaI W k k22);have HNF:=hE0 (fun W (hB:Below w.heap.size w W)=>aai (h.below hB) hb (by omega) (8+8*(k:Int)) (8+8*k) (by omega) (by omega) f hf);have HNM:=hE0 (fun W (hB:Below w.heap.size w W)=>aai (h.below hB) hb (by omega) ((q:Int)+8) (q+8) (by omega) (by omega) m hm);have HNP:=hE0 (fun W (hB:Below w.heap.size w W)=>aai (h.below hB) hb (by omega) ((q:Int)+16) (q+16) (by omega) (by omega) p hp);have hq2:q+32<=n:=by omega
 have hq3:184<=q:=by omega
 have s1:((p:Int)==0)=true:=by subst hp0;rfl
 have s1b:((p:Int) !=0)=false:=by subst hp0;rfl
 have s2:((f:Int) !=(q:Int))=true:=by rw[bne_iff_ne];omega
 clear h hk hf hn hm hp hp0;go_enter Tryz.func271,Tryz.ntmps271
 go_wp2_with fail
 with_reducible refine HF.out.mono ?_
 rintro e w1 ⟨rfl,hb1⟩;have HB:=hE0 hb1;clear hb1 HF;go_wp2_with fail
 refine(HFA.out _).mono ?_;rintro e w9 ⟨rfl,rfl⟩;go_wp2_with fail
 refine(HNF.out _ HB.out).mono ?_;rintro e w9 ⟨rfl,rfl⟩;go_wp2_with fail
 refine(HNM.out _ HB.out).mono ?_;rintro e w9 ⟨rfl,rfl⟩;go_wp2_with fail
 refine(HNP.out _ HB.out).mono ?_;rintro e w9 ⟨rfl,rfl⟩;clear HFA HNF HNM HNP;go_wp2
 go_ret
 exact⟨rfl,HB.out⟩
theorem anW (h:Ar w 195 g base cap A c bs) (hb:base<=4611686018427387904) (n:Nat) (hn:bs.length=n) (hl:n<=16384) (q k f m p:Nat) (hk:aa2 bs (q:Int)=(k:Int)) (hf:aaf bs (8+8*k)=f) (hm:aaf bs (q+8)=m) (hp:aaf bs (q+16)=p) (hp0:p≠0) (hpm:abr bs k p 8 q=false):
 Calls Tryz.prog 271 #[.pointer (some ⟨g,0,none⟩), .int .i64 (q:Int)] w fun e w'=>e= .returned (aav false 3)/\Below w.heap.size w w':=by
 obtain⟨q184,q32,k22⟩:=aa6 hk;have hfl:f<18446744073709551616:=by rw[<-hf];exact aan _ _
 have hml:m<18446744073709551616:=by rw[<-hm];exact aan _ _
 have hpl:p<18446744073709551616:=by rw[<-hp];exact aan _ _
 have HF:=hE0 (aa1 h hb (by omega) (q:Int) (by omega) k hk);have HFA:=hE0 (fun W=>aaI W k k22);have HNF:=hE0 (fun W (hB:Below w.heap.size w W)=>aai (h.below hB) hb (by omega) (8+8*(k:Int)) (8+8*k) (by omega) (by omega) f hf);have HNM:=hE0 (fun W (hB:Below w.heap.size w W)=>aai (h.below hB) hb (by omega) ((q:Int)+8) (q+8) (by omega) (by omega) m hm);have HNP:=hE0 (fun W (hB:Below w.heap.size w W)=>aai (h.below hB) hb (by omega) ((q:Int)+16) (q+16) (by omega) (by omega) p hp);have hq2:q+32<=n:=by omega
 have hq3:184<=q:=by omega
 have s1:((p:Int)==0)=false:=by rw[beq_eq_false_iff_ne];omega
 have s1b:((p:Int) !=0)=true:=by rw[bne_iff_ne];omega
 have HPM:=hE0 (fun W (hB:Below w.heap.size w W)=>abG (h.below hB) hb (by omega) k p 8 q k22 hpl (by omega) _ hpm);clear h hk hf hn hm hp hpm;go_enter Tryz.func271,Tryz.ntmps271
 go_wp2_with fail
 with_reducible refine HF.out.mono ?_
 rintro e w1 ⟨rfl,hb1⟩;have HB:=hE0 hb1;clear hb1 HF;go_wp2_with fail
 refine(HFA.out _).mono ?_;rintro e w9 ⟨rfl,rfl⟩;go_wp2_with fail
 refine(HNF.out _ HB.out).mono ?_;rintro e w9 ⟨rfl,rfl⟩;go_wp2_with fail
 refine(HNM.out _ HB.out).mono ?_;rintro e w9 ⟨rfl,rfl⟩;go_wp2_with fail
 refine(HNP.out _ HB.out).mono ?_;rintro e w9 ⟨rfl,rfl⟩;clear HFA HNF HNM HNP;go_wp2_with fail
 refine(HPM.out _ HB.out).mono ?_;rintro e w2 ⟨rfl,hb2⟩;have HB2:=hE0 (HB.out.trans (hb2.mono HB.out.size));clear hb2 HPM HB;go_wp2
 go_ret
 exact⟨rfl,HB2.out⟩
theorem alL (h:Ar w 195 g base cap A c bs) (hb:base<=4611686018427387904) (n:Nat) (hn:bs.length=n) (hl:n<=16384) (q k f m p:Nat) (hk:aa2 bs (q:Int)=(k:Int)) (hf:aaf bs (8+8*k)=f) (hm:aaf bs (q+8)=m) (hp:aaf bs (q+16)=p) (hp0:p=0) (hfq:f=q) (hn0:m≠0) (hnm:abr bs k m 16 q=false):
 Calls Tryz.prog 271 #[.pointer (some ⟨g,0,none⟩), .int .i64 (q:Int)] w fun e w'=>e= .returned (aav false 3)/\Below w.heap.size w w':=by
 obtain⟨q184,q32,k22⟩:=aa6 hk;have hfl:f<18446744073709551616:=by rw[<-hf];exact aan _ _
 have hml:m<18446744073709551616:=by rw[<-hm];exact aan _ _
 have hpl:p<18446744073709551616:=by rw[<-hp];exact aan _ _
 have HF:=hE0 (aa1 h hb (by omega) (q:Int) (by omega) k hk);have HFA:=hE0 (fun W=>aaI W k k22);have HNF:=hE0 (fun W (hB:Below w.heap.size w W)=>aai (h.below hB) hb (by omega) (8+8*(k:Int)) (8+8*k) (by omega) (by omega) f hf);have HNM:=hE0 (fun W (hB:Below w.heap.size w W)=>aai (h.below hB) hb (by omega) ((q:Int)+8) (q+8) (by omega) (by omega) m hm);have HNP:=hE0 (fun W (hB:Below w.heap.size w W)=>aai (h.below hB) hb (by omega) ((q:Int)+16) (q+16) (by omega) (by omega) p hp);have hq2:q+32<=n:=by omega
 have hq3:184<=q:=by omega
 have s1:((p:Int)==0)=true:=by subst hp0;rfl
 have s1b:((p:Int) !=0)=false:=by subst hp0;rfl
 have s2:((f:Int) !=(q:Int))=false:=by rw[bne_eq_false_iff_eq];omega
 have HNH:=hE0 (fun W (hB:Below w.heap.size w W)=>abG (h.below hB) hb (by omega) k m 16 q k22 hml (by omega) _ hnm);have s3:((m:Int) !=0)=true:=by rw[bne_iff_ne];omega
 clear h hk hf hn hm hp hnm hp0 hfq;go_enter Tryz.func271,Tryz.ntmps271
 go_wp2_with fail
 with_reducible refine HF.out.mono ?_
 rintro e w1 ⟨rfl,hb1⟩;have HB:=hE0 hb1;clear hb1 HF;go_wp2_with fail
 refine(HFA.out _).mono ?_;rintro e w9 ⟨rfl,rfl⟩;go_wp2_with fail
 refine(HNF.out _ HB.out).mono ?_;rintro e w9 ⟨rfl,rfl⟩;go_wp2_with fail
 refine(HNM.out _ HB.out).mono ?_;rintro e w9 ⟨rfl,rfl⟩;go_wp2_with fail
 refine(HNP.out _ HB.out).mono ?_;rintro e w9 ⟨rfl,rfl⟩;clear HFA HNF HNM HNP;go_wp2_with fail
 refine(HNH.out _ HB.out).mono ?_;rintro e w3 ⟨rfl,hb3⟩;have HB3:=hE0 (HB.out.trans (hb3.mono HB.out.size));clear hb3 HNH HB;go_wp2
 go_ret
 exact⟨rfl,HB3.out⟩
theorem alM (h:Ar w 195 g base cap A c bs) (hb:base<=4611686018427387904) (n:Nat) (hn:bs.length=n) (hl:n<=16384) (q k f m p:Nat) (hk:aa2 bs (q:Int)=(k:Int)) (hf:aaf bs (8+8*k)=f) (hm:aaf bs (q+8)=m) (hp:aaf bs (q+16)=p) (hp0:p≠0) (hpm:abr bs k p 8 q=true) (hn0:m≠0) (hnm:abr bs k m 16 q=false):
 Calls Tryz.prog 271 #[.pointer (some ⟨g,0,none⟩), .int .i64 (q:Int)] w fun e w'=>e= .returned (aav false 3)/\Below w.heap.size w w':=by
 obtain⟨q184,q32,k22⟩:=aa6 hk;have hfl:f<18446744073709551616:=by rw[<-hf];exact aan _ _
 have hml:m<18446744073709551616:=by rw[<-hm];exact aan _ _
 have hpl:p<18446744073709551616:=by rw[<-hp];exact aan _ _
 have HF:=hE0 (aa1 h hb (by omega) (q:Int) (by omega) k hk);have HFA:=hE0 (fun W=>aaI W k k22);have HNF:=hE0 (fun W (hB:Below w.heap.size w W)=>aai (h.below hB) hb (by omega) (8+8*(k:Int)) (8+8*k) (by omega) (by omega) f hf);have HNM:=hE0 (fun W (hB:Below w.heap.size w W)=>aai (h.below hB) hb (by omega) ((q:Int)+8) (q+8) (by omega) (by omega) m hm);have HNP:=hE0 (fun W (hB:Below w.heap.size w W)=>aai (h.below hB) hb (by omega) ((q:Int)+16) (q+16) (by omega) (by omega) p hp);have hq2:q+32<=n:=by omega
 have hq3:184<=q:=by omega
 have s1:((p:Int)==0)=false:=by rw[beq_eq_false_iff_ne];omega
 have s1b:((p:Int) !=0)=true:=by rw[bne_iff_ne];omega
 have HPM:=hE0 (fun W (hB:Below w.heap.size w W)=>abG (h.below hB) hb (by omega) k p 8 q k22 hpl (by omega) _ hpm);have HNH:=hE0 (fun W (hB:Below w.heap.size w W)=>abG (h.below hB) hb (by omega) k m 16 q k22 hml (by omega) _ hnm);have s3:((m:Int) !=0)=true:=by rw[bne_iff_ne];omega
 clear h hk hf hn hm hp hpm hnm;go_enter Tryz.func271,Tryz.ntmps271
 go_wp2_with fail
 with_reducible refine HF.out.mono ?_
 rintro e w1 ⟨rfl,hb1⟩;have HB:=hE0 hb1;clear hb1 HF;go_wp2_with fail
 refine(HFA.out _).mono ?_;rintro e w9 ⟨rfl,rfl⟩;go_wp2_with fail
 refine(HNF.out _ HB.out).mono ?_;rintro e w9 ⟨rfl,rfl⟩;go_wp2_with fail
 refine(HNM.out _ HB.out).mono ?_;rintro e w9 ⟨rfl,rfl⟩;go_wp2_with fail
 refine(HNP.out _ HB.out).mono ?_;rintro e w9 ⟨rfl,rfl⟩;clear HFA HNF HNM HNP;go_wp2_with fail
 refine(HPM.out _ HB.out).mono ?_;rintro e w2 ⟨rfl,hb2⟩;have HB2:=hE0 (HB.out.trans (hb2.mono HB.out.size));clear hb2 HPM HB;go_wp2_with fail
 refine(HNH.out _ HB2.out).mono ?_;rintro e w3 ⟨rfl,hb3⟩;have HB3:=hE0 (HB2.out.trans (hb3.mono HB2.out.size));clear hb3 HNH HB2;go_wp2
 go_ret
 exact⟨rfl,HB3.out⟩
theorem ap6 (h:Ar w 195 g base cap A c bs) (hb:base<=4611686018427387904) (n:Nat) (hn:bs.length=n) (hl:n<=16384) (q k f m p:Nat) (hk:aa2 bs (q:Int)=(k:Int)) (hf:aaf bs (8+8*k)=f) (hm:aaf bs (q+8)=m) (hp:aaf bs (q+16)=p) (hp0:p=0) (hfq:f=q) (hn0:m=0):
 Calls Tryz.prog 271 #[.pointer (some ⟨g,0,none⟩), .int .i64 (q:Int)] w fun e w'=>e= .returned (aav true 3)/\Became 195 g base cap A (abJ (lyN bs (8+8*k) m) k) w w':=by
 obtain⟨q184,q32,k22⟩:=aa6 hk;have hfl:f<18446744073709551616:=by rw[<-hf];exact aan _ _
 have hml:m<18446744073709551616:=by rw[<-hm];exact aan _ _
 have hpl:p<18446744073709551616:=by rw[<-hp];exact aan _ _
 have HF:=hE0 (aa1 h hb (by omega) (q:Int) (by omega) k hk);have HFA:=hE0 (fun W=>aaI W k k22);have HNF:=hE0 (fun W (hB:Below w.heap.size w W)=>aai (h.below hB) hb (by omega) (8+8*(k:Int)) (8+8*k) (by omega) (by omega) f hf);have HNM:=hE0 (fun W (hB:Below w.heap.size w W)=>aai (h.below hB) hb (by omega) ((q:Int)+8) (q+8) (by omega) (by omega) m hm);have HNP:=hE0 (fun W (hB:Below w.heap.size w W)=>aai (h.below hB) hb (by omega) ((q:Int)+16) (q+16) (by omega) (by omega) p hp);have hq2:q+32<=n:=by omega
 have hq3:184<=q:=by omega
 have s1:((p:Int)==0)=true:=by subst hp0;rfl
 have s1b:((p:Int) !=0)=false:=by subst hp0;rfl
 have s2:((f:Int) !=(q:Int))=false:=by rw[bne_eq_false_iff_eq];omega
 have s3:((m:Int) !=0)=false:=by subst hn0;rfl
 have s4:((f:Int)==(q:Int))=true:=by rw[beq_iff_eq];omega
 have HBO:=hE0 (fun W (hB:Below w.heap.size w W)=>abu h hB);have HSF:=hE0 (fun W (hB:Became 195 g base cap A bs w W)=>abi hB hb n hn hl (by omega) k k22 m (by omega));clear h hk hf hn hm hp hp0 hfq hn0;go_enter Tryz.func271,Tryz.ntmps271
 go_wp2_with fail
 with_reducible refine HF.out.mono ?_
 rintro e w1 ⟨rfl,hb1⟩;have HB:=hE0 hb1;clear hb1 HF;go_wp2_with fail
 refine(HFA.out _).mono ?_;rintro e w9 ⟨rfl,rfl⟩;go_wp2_with fail
 refine(HNF.out _ HB.out).mono ?_;rintro e w9 ⟨rfl,rfl⟩;go_wp2_with fail
 refine(HNM.out _ HB.out).mono ?_;rintro e w9 ⟨rfl,rfl⟩;go_wp2_with fail
 refine(HNP.out _ HB.out).mono ?_;rintro e w9 ⟨rfl,rfl⟩;clear HFA HNF HNM HNP;have G0:=hE0 (HBO.out _ HB.out);clear HBO HB;go_wp2_with fail
 refine(HSF.out _ G0.out).mono ?_;rintro e x9 ⟨rfl,bb⟩;have G9:=hE0 bb;clear bb HSF G0;go_wp2
 go_ret
 exact⟨rfl,G9.out⟩
theorem ap7 (h:Ar w 195 g base cap A c bs) (hb:base<=4611686018427387904) (n:Nat) (hn:bs.length=n) (hl:n<=16384) (q k f m p:Nat) (hk:aa2 bs (q:Int)=(k:Int)) (hf:aaf bs (8+8*k)=f) (hm:aaf bs (q+8)=m) (hp:aaf bs (q+16)=p) (hp0:p=0) (hfq:f=q) (hn0:m≠0) (hnm:abr bs k m 16 q=true):
 Calls Tryz.prog 271 #[.pointer (some ⟨g,0,none⟩), .int .i64 (q:Int)] w fun e w'=>e= .returned (aav true 3)/\Became 195 g base cap A (abJ (lyN (lyN bs (m+16) p) (8+8*k) m) k) w w':=by
 obtain⟨q184,q32,k22⟩:=aa6 hk;have hfl:f<18446744073709551616:=by rw[<-hf];exact aan _ _
 have hml:m<18446744073709551616:=by rw[<-hm];exact aan _ _
 have hpl:p<18446744073709551616:=by rw[<-hp];exact aan _ _
 have HF:=hE0 (aa1 h hb (by omega) (q:Int) (by omega) k hk);have HFA:=hE0 (fun W=>aaI W k k22);have HNF:=hE0 (fun W (hB:Below w.heap.size w W)=>aai (h.below hB) hb (by omega) (8+8*(k:Int)) (8+8*k) (by omega) (by omega) f hf);have HNM:=hE0 (fun W (hB:Below w.heap.size w W)=>aai (h.below hB) hb (by omega) ((q:Int)+8) (q+8) (by omega) (by omega) m hm);have HNP:=hE0 (fun W (hB:Below w.heap.size w W)=>aai (h.below hB) hb (by omega) ((q:Int)+16) (q+16) (by omega) (by omega) p hp);have hq2:q+32<=n:=by omega
 have hq3:184<=q:=by omega
 have s1:((p:Int)==0)=true:=by subst hp0;rfl
 have s1b:((p:Int) !=0)=false:=by subst hp0;rfl
 have s2:((f:Int) !=(q:Int))=false:=by rw[bne_eq_false_iff_eq];omega
 have HNH:=hE0 (fun W (hB:Below w.heap.size w W)=>abG (h.below hB) hb (by omega) k m 16 q k22 hml (by omega) _ hnm);have s3:((m:Int) !=0)=true:=by rw[bne_iff_ne];omega
 have s4:((f:Int)==(q:Int))=true:=by rw[beq_iff_eq];omega
 have hnin:=aaO (abv hnm);have hn16:m+32<=n:=by omega
 have HBO:=hE0 (fun W (hB:Below w.heap.size w W)=>abu h hB);obtain⟨b1,hb1⟩:∃b,lyN bs (m+16) p=b:=⟨_,rfl⟩;have nb1:b1.length=n:=by rw[<-hb1,aah _ _ _ (by omega)];exact hn
 have HS1:=fun W (hB:Became 195 g base cap A bs w W)=>aaT hB hb (by omega) ((m:Int)+16) (m+16) (by omega) (by omega) p hpl;rw[hb1]at HS1 ⊢;have HS1:=hE0 HS1;have HSF:=hE0 (fun W (hB:Became 195 g base cap A b1 w W)=>abi hB hb n nb1 hl (by omega) k k22 m (by omega));clear hb1 nb1;clear h hk hf hn hm hp hnm hp0 hfq;go_enter Tryz.func271,Tryz.ntmps271
 go_wp2_with fail
 with_reducible refine HF.out.mono ?_
 rintro e w1 ⟨rfl,hb1⟩;have HB:=hE0 hb1;clear hb1 HF;go_wp2_with fail
 refine(HFA.out _).mono ?_;rintro e w9 ⟨rfl,rfl⟩;go_wp2_with fail
 refine(HNF.out _ HB.out).mono ?_;rintro e w9 ⟨rfl,rfl⟩;go_wp2_with fail
 refine(HNM.out _ HB.out).mono ?_;rintro e w9 ⟨rfl,rfl⟩;go_wp2_with fail
 refine(HNP.out _ HB.out).mono ?_;rintro e w9 ⟨rfl,rfl⟩;clear HFA HNF HNM HNP;go_wp2_with fail
 refine(HNH.out _ HB.out).mono ?_;rintro e w3 ⟨rfl,hb3⟩;have HB3:=hE0 (HB.out.trans (hb3.mono HB.out.size));clear hb3 HNH HB;have G0:=hE0 (HBO.out _ HB3.out);clear HBO HB3;go_wp2_with fail
 refine(HS1.out _ G0.out).mono ?_;rintro e x1 ⟨rfl,bb⟩;have G1:=hE0 bb;clear bb HS1 G0;go_wp2_with fail
 refine(HSF.out _ G1.out).mono ?_;rintro e x9 ⟨rfl,bb⟩;have G9:=hE0 bb;clear bb HSF G1;go_wp2
 go_ret
 exact⟨rfl,G9.out⟩
theorem agW{P:Prop}(h:P:=by
 go_enter Tryz.func271,Tryz.ntmps271
 go_wp2_with fail
 with_reducible refine HF.out.mono ?_
 rintro e w1 ⟨rfl,hb1⟩;have HB:=hE0 hb1;clear hb1 HF;go_wp2_with fail
 refine(HFA.out _).mono ?_;rintro e w9 ⟨rfl,rfl⟩;go_wp2_with fail
 refine(HNF.out _ HB.out).mono ?_;rintro e w9 ⟨rfl,rfl⟩;go_wp2_with fail
 refine(HNM.out _ HB.out).mono ?_;rintro e w9 ⟨rfl,rfl⟩;go_wp2_with fail
 refine(HNP.out _ HB.out).mono ?_;rintro e w9 ⟨rfl,rfl⟩;clear HFA HNF HNM HNP;go_wp2_with fail
 refine(HPM.out _ HB.out).mono ?_;rintro e w2 ⟨rfl,hb2⟩;have HB2:=hE0 (HB.out.trans (hb2.mono HB.out.size));clear hb2 HPM HB;have G0:=hE0 (HBO.out _ HB2.out);clear HBO HB2;go_wp2_with fail
 refine(HS1.out _ G0.out).mono ?_;rintro e x1 ⟨rfl,bb⟩;have G1:=hE0 bb;clear bb HS1 G0;go_wp2_with fail
 refine(HSF.out _ G1.out).mono ?_;rintro e x9 ⟨rfl,bb⟩;have G9:=hE0 bb;clear bb HSF G1;go_wp2
 go_ret
 exact⟨rfl,G9.out⟩
 ):P:=h
theorem ap8 (h:Ar w 195 g base cap A c bs) (hb:base<=4611686018427387904) (n:Nat) (hn:bs.length=n) (hl:n<=16384) (q k f m p:Nat) (hk:aa2 bs (q:Int)=(k:Int)) (hf:aaf bs (8+8*k)=f) (hm:aaf bs (q+8)=m) (hp:aaf bs (q+16)=p) (hp0:p≠0) (hpm:abr bs k p 8 q=true) (hn0:m=0) (hfq:f=q):
 Calls Tryz.prog 271 #[.pointer (some ⟨g,0,none⟩), .int .i64 (q:Int)] w fun e w'=>e= .returned (aav true 3)/\Became 195 g base cap A (abJ (lyN (lyN bs (p+8) m) (8+8*k) m) k) w w':=by
 obtain⟨q184,q32,k22⟩:=aa6 hk;have hfl:f<18446744073709551616:=by rw[<-hf];exact aan _ _
 have hml:m<18446744073709551616:=by rw[<-hm];exact aan _ _
 have hpl:p<18446744073709551616:=by rw[<-hp];exact aan _ _
 have HF:=hE0 (aa1 h hb (by omega) (q:Int) (by omega) k hk);have HFA:=hE0 (fun W=>aaI W k k22);have HNF:=hE0 (fun W (hB:Below w.heap.size w W)=>aai (h.below hB) hb (by omega) (8+8*(k:Int)) (8+8*k) (by omega) (by omega) f hf);have HNM:=hE0 (fun W (hB:Below w.heap.size w W)=>aai (h.below hB) hb (by omega) ((q:Int)+8) (q+8) (by omega) (by omega) m hm);have HNP:=hE0 (fun W (hB:Below w.heap.size w W)=>aai (h.below hB) hb (by omega) ((q:Int)+16) (q+16) (by omega) (by omega) p hp);have hq2:q+32<=n:=by omega
 have hq3:184<=q:=by omega
 have s1:((p:Int)==0)=false:=by rw[beq_eq_false_iff_ne];omega
 have s1b:((p:Int) !=0)=true:=by rw[bne_iff_ne];omega
 have HPM:=hE0 (fun W (hB:Below w.heap.size w W)=>abG (h.below hB) hb (by omega) k p 8 q k22 hpl (by omega) _ hpm);have s3:((m:Int) !=0)=false:=by subst hn0;rfl
 have s4:((f:Int)==(q:Int))=true:=by rw[beq_iff_eq];omega
 have hpin:=aaO (abv hpm);have hp8:p+32<=n:=by omega
 have HBO:=hE0 (fun W (hB:Below w.heap.size w W)=>abu h hB);obtain⟨b1,hb1⟩:∃b,lyN bs (p+8) m=b:=⟨_,rfl⟩;have nb1:b1.length=n:=by rw[<-hb1,aah _ _ _ (by omega)];exact hn
 have HS1:=fun W (hB:Became 195 g base cap A bs w W)=>aaT hB hb (by omega) ((p:Int)+8) (p+8) (by omega) (by omega) m hml;rw[hb1]at HS1 ⊢;have HS1:=hE0 HS1;have HSF:=hE0 (fun W (hB:Became 195 g base cap A b1 w W)=>abi hB hb n nb1 hl (by omega) k k22 m (by omega));clear hb1 nb1;clear h hk hf hn hm hp hpm hfq hn0;exact agW
theorem agX{P:Prop}(h:P:=by
 go_enter Tryz.func271,Tryz.ntmps271
 go_wp2_with fail
 with_reducible refine HF.out.mono ?_
 rintro e w1 ⟨rfl,hb1⟩;have HB:=hE0 hb1;clear hb1 HF;go_wp2_with fail
 refine(HFA.out _).mono ?_;rintro e w9 ⟨rfl,rfl⟩;go_wp2_with fail
 refine(HNF.out _ HB.out).mono ?_;rintro e w9 ⟨rfl,rfl⟩;go_wp2_with fail
 refine(HNM.out _ HB.out).mono ?_;rintro e w9 ⟨rfl,rfl⟩;go_wp2_with fail
 refine(HNP.out _ HB.out).mono ?_;rintro e w9 ⟨rfl,rfl⟩;clear HFA HNF HNM HNP;go_wp2_with fail
 refine(HPM.out _ HB.out).mono ?_;rintro e w2 ⟨rfl,hb2⟩;have HB2:=hE0 (HB.out.trans (hb2.mono HB.out.size));clear hb2 HPM HB;go_wp2_with fail
 refine(HNH.out _ HB2.out).mono ?_;rintro e w3 ⟨rfl,hb3⟩;have HB3:=hE0 (HB2.out.trans (hb3.mono HB2.out.size));clear hb3 HNH HB2;have G0:=hE0 (HBO.out _ HB3.out);clear HBO HB3;go_wp2_with fail
 refine(HS1.out _ G0.out).mono ?_;rintro e x1 ⟨rfl,bb⟩;have G1:=hE0 bb;clear bb HS1 G0;go_wp2_with fail
 refine(HS2.out _ G1.out).mono ?_;rintro e x2 ⟨rfl,bb⟩;have G2:=hE0 bb;clear bb HS2 G1;go_wp2_with fail
 refine(HSF.out _ G2.out).mono ?_;rintro e x9 ⟨rfl,bb⟩;have G9:=hE0 bb;clear bb HSF G2;go_wp2
 go_ret
 exact⟨rfl,G9.out⟩
 ):P:=h
theorem ap9 (h:Ar w 195 g base cap A c bs) (hb:base<=4611686018427387904) (n:Nat) (hn:bs.length=n) (hl:n<=16384) (q k f m p:Nat) (hk:aa2 bs (q:Int)=(k:Int)) (hf:aaf bs (8+8*k)=f) (hm:aaf bs (q+8)=m) (hp:aaf bs (q+16)=p) (hp0:p≠0) (hpm:abr bs k p 8 q=true) (hn0:m≠0) (hnm:abr bs k m 16 q=true) (hfq:f=q):
 Calls Tryz.prog 271 #[.pointer (some ⟨g,0,none⟩), .int .i64 (q:Int)] w fun e w'=>e= .returned (aav true 3)/\Became 195 g base cap A (abJ (lyN (lyN (lyN bs (p+8) m) (m+16) p) (8+8*k) m) k) w w':=by
 obtain⟨q184,q32,k22⟩:=aa6 hk;have hfl:f<18446744073709551616:=by rw[<-hf];exact aan _ _
 have hml:m<18446744073709551616:=by rw[<-hm];exact aan _ _
 have hpl:p<18446744073709551616:=by rw[<-hp];exact aan _ _
 have HF:=hE0 (aa1 h hb (by omega) (q:Int) (by omega) k hk);have HFA:=hE0 (fun W=>aaI W k k22);have HNF:=hE0 (fun W (hB:Below w.heap.size w W)=>aai (h.below hB) hb (by omega) (8+8*(k:Int)) (8+8*k) (by omega) (by omega) f hf);have HNM:=hE0 (fun W (hB:Below w.heap.size w W)=>aai (h.below hB) hb (by omega) ((q:Int)+8) (q+8) (by omega) (by omega) m hm);have HNP:=hE0 (fun W (hB:Below w.heap.size w W)=>aai (h.below hB) hb (by omega) ((q:Int)+16) (q+16) (by omega) (by omega) p hp);have hq2:q+32<=n:=by omega
 have hq3:184<=q:=by omega
 have s1:((p:Int)==0)=false:=by rw[beq_eq_false_iff_ne];omega
 have s1b:((p:Int) !=0)=true:=by rw[bne_iff_ne];omega
 have HPM:=hE0 (fun W (hB:Below w.heap.size w W)=>abG (h.below hB) hb (by omega) k p 8 q k22 hpl (by omega) _ hpm);have HNH:=hE0 (fun W (hB:Below w.heap.size w W)=>abG (h.below hB) hb (by omega) k m 16 q k22 hml (by omega) _ hnm);have s3:((m:Int) !=0)=true:=by rw[bne_iff_ne];omega
 have s4:((f:Int)==(q:Int))=true:=by rw[beq_iff_eq];omega
 have hpin:=aaO (abv hpm);have hp8:p+32<=n:=by omega
 have hnin:=aaO (abv hnm);have hn16:m+32<=n:=by omega
 have HBO:=hE0 (fun W (hB:Below w.heap.size w W)=>abu h hB);obtain⟨b1,hb1⟩:∃b,lyN bs (p+8) m=b:=⟨_,rfl⟩;have nb1:b1.length=n:=by rw[<-hb1,aah _ _ _ (by omega)];exact hn
 have HS1:=fun W (hB:Became 195 g base cap A bs w W)=>aaT hB hb (by omega) ((p:Int)+8) (p+8) (by omega) (by omega) m hml;rw[hb1]at HS1 ⊢;have HS1:=hE0 HS1;obtain⟨b2,hb2⟩:∃b,lyN b1 (m+16) p=b:=⟨_,rfl⟩;have nb2:b2.length=n:=by rw[<-hb2,aah _ _ _ (by omega)];exact nb1
 have HS2:=fun W (hB:Became 195 g base cap A b1 w W)=>aaT hB hb (by omega) ((m:Int)+16) (m+16) (by omega) (by omega) p hpl;rw[hb2]at HS2 ⊢;have HS2:=hE0 HS2;have HSF:=hE0 (fun W (hB:Became 195 g base cap A b2 w W)=>abi hB hb n nb2 hl (by omega) k k22 m (by omega));clear hb1 nb1 hb2 nb2;clear h hk hf hn hm hp hpm hnm hfq;exact agX
theorem aqa (h:Ar w 195 g base cap A c bs) (hb:base<=4611686018427387904) (n:Nat) (hn:bs.length=n) (hl:n<=16384) (q k f m p:Nat) (hk:aa2 bs (q:Int)=(k:Int)) (hf:aaf bs (8+8*k)=f) (hm:aaf bs (q+8)=m) (hp:aaf bs (q+16)=p) (hp0:p≠0) (hpm:abr bs k p 8 q=true) (hn0:m=0) (hfq:f≠q):
 Calls Tryz.prog 271 #[.pointer (some ⟨g,0,none⟩), .int .i64 (q:Int)] w fun e w'=>e= .returned (aav true 3)/\Became 195 g base cap A (abJ (lyN (lyN bs (p+8) m) (8+8*k) f) k) w w':=by
 obtain⟨q184,q32,k22⟩:=aa6 hk;have hfl:f<18446744073709551616:=by rw[<-hf];exact aan _ _
 have hml:m<18446744073709551616:=by rw[<-hm];exact aan _ _
 have hpl:p<18446744073709551616:=by rw[<-hp];exact aan _ _
 have HF:=hE0 (aa1 h hb (by omega) (q:Int) (by omega) k hk);have HFA:=hE0 (fun W=>aaI W k k22);have HNF:=hE0 (fun W (hB:Below w.heap.size w W)=>aai (h.below hB) hb (by omega) (8+8*(k:Int)) (8+8*k) (by omega) (by omega) f hf);have HNM:=hE0 (fun W (hB:Below w.heap.size w W)=>aai (h.below hB) hb (by omega) ((q:Int)+8) (q+8) (by omega) (by omega) m hm);have HNP:=hE0 (fun W (hB:Below w.heap.size w W)=>aai (h.below hB) hb (by omega) ((q:Int)+16) (q+16) (by omega) (by omega) p hp);have hq2:q+32<=n:=by omega
 have hq3:184<=q:=by omega
 have s1:((p:Int)==0)=false:=by rw[beq_eq_false_iff_ne];omega
 have s1b:((p:Int) !=0)=true:=by rw[bne_iff_ne];omega
 have HPM:=hE0 (fun W (hB:Below w.heap.size w W)=>abG (h.below hB) hb (by omega) k p 8 q k22 hpl (by omega) _ hpm);have s3:((m:Int) !=0)=false:=by subst hn0;rfl
 have s4:((f:Int)==(q:Int))=false:=by rw[beq_eq_false_iff_ne];omega
 have hpin:=aaO (abv hpm);have hp8:p+32<=n:=by omega
 have HBO:=hE0 (fun W (hB:Below w.heap.size w W)=>abu h hB);obtain⟨b1,hb1⟩:∃b,lyN bs (p+8) m=b:=⟨_,rfl⟩;have nb1:b1.length=n:=by rw[<-hb1,aah _ _ _ (by omega)];exact hn
 have HS1:=fun W (hB:Became 195 g base cap A bs w W)=>aaT hB hb (by omega) ((p:Int)+8) (p+8) (by omega) (by omega) m hml;rw[hb1]at HS1 ⊢;have HS1:=hE0 HS1;have HSF:=hE0 (fun W (hB:Became 195 g base cap A b1 w W)=>abi hB hb n nb1 hl (by omega) k k22 f (by omega));clear hb1 nb1;clear h hk hf hn hm hp hpm hn0;exact agW
theorem aqb (h:Ar w 195 g base cap A c bs) (hb:base<=4611686018427387904) (n:Nat) (hn:bs.length=n) (hl:n<=16384) (q k f m p:Nat) (hk:aa2 bs (q:Int)=(k:Int)) (hf:aaf bs (8+8*k)=f) (hm:aaf bs (q+8)=m) (hp:aaf bs (q+16)=p) (hp0:p≠0) (hpm:abr bs k p 8 q=true) (hn0:m≠0) (hnm:abr bs k m 16 q=true) (hfq:f≠q):
 Calls Tryz.prog 271 #[.pointer (some ⟨g,0,none⟩), .int .i64 (q:Int)] w fun e w'=>e= .returned (aav true 3)/\Became 195 g base cap A (abJ (lyN (lyN (lyN bs (p+8) m) (m+16) p) (8+8*k) f) k) w w':=by
 obtain⟨q184,q32,k22⟩:=aa6 hk;have hfl:f<18446744073709551616:=by rw[<-hf];exact aan _ _
 have hml:m<18446744073709551616:=by rw[<-hm];exact aan _ _
 have hpl:p<18446744073709551616:=by rw[<-hp];exact aan _ _
 have HF:=hE0 (aa1 h hb (by omega) (q:Int) (by omega) k hk);have HFA:=hE0 (fun W=>aaI W k k22);have HNF:=hE0 (fun W (hB:Below w.heap.size w W)=>aai (h.below hB) hb (by omega) (8+8*(k:Int)) (8+8*k) (by omega) (by omega) f hf);have HNM:=hE0 (fun W (hB:Below w.heap.size w W)=>aai (h.below hB) hb (by omega) ((q:Int)+8) (q+8) (by omega) (by omega) m hm);have HNP:=hE0 (fun W (hB:Below w.heap.size w W)=>aai (h.below hB) hb (by omega) ((q:Int)+16) (q+16) (by omega) (by omega) p hp);have hq2:q+32<=n:=by omega
 have hq3:184<=q:=by omega
 have s1:((p:Int)==0)=false:=by rw[beq_eq_false_iff_ne];omega
 have s1b:((p:Int) !=0)=true:=by rw[bne_iff_ne];omega
 have HPM:=hE0 (fun W (hB:Below w.heap.size w W)=>abG (h.below hB) hb (by omega) k p 8 q k22 hpl (by omega) _ hpm);have HNH:=hE0 (fun W (hB:Below w.heap.size w W)=>abG (h.below hB) hb (by omega) k m 16 q k22 hml (by omega) _ hnm);have s3:((m:Int) !=0)=true:=by rw[bne_iff_ne];omega
 have s4:((f:Int)==(q:Int))=false:=by rw[beq_eq_false_iff_ne];omega
 have hpin:=aaO (abv hpm);have hp8:p+32<=n:=by omega
 have hnin:=aaO (abv hnm);have hn16:m+32<=n:=by omega
 have HBO:=hE0 (fun W (hB:Below w.heap.size w W)=>abu h hB);obtain⟨b1,hb1⟩:∃b,lyN bs (p+8) m=b:=⟨_,rfl⟩;have nb1:b1.length=n:=by rw[<-hb1,aah _ _ _ (by omega)];exact hn
 have HS1:=fun W (hB:Became 195 g base cap A bs w W)=>aaT hB hb (by omega) ((p:Int)+8) (p+8) (by omega) (by omega) m hml;rw[hb1]at HS1 ⊢;have HS1:=hE0 HS1;obtain⟨b2,hb2⟩:∃b,lyN b1 (m+16) p=b:=⟨_,rfl⟩;have nb2:b2.length=n:=by rw[<-hb2,aah _ _ _ (by omega)];exact nb1
 have HS2:=fun W (hB:Became 195 g base cap A b1 w W)=>aaT hB hb (by omega) ((m:Int)+16) (m+16) (by omega) (by omega) p hpl;rw[hb2]at HS2 ⊢;have HS2:=hE0 HS2;have HSF:=hE0 (fun W (hB:Became 195 g base cap A b2 w W)=>abi hB hb n nb2 hl (by omega) k k22 f (by omega));clear hb1 nb1 hb2 nb2;clear h hk hf hn hm hp hpm hnm;exact agX
end
theorem aec{bs:List UInt8}{k v j u:Nat}(h:abr bs k v j u=false):aap bs v (k:Int)=false\/(aaf bs (v+j):Int)≠(u:Int):=by
 unfold abr at h;rw[Bool.and_eq_false_iff,beq_eq_false_iff_ne]at h;rcases h with h | h
 · exact .inl h
 · exact .inr (by omega)
theorem aeO{bs:List UInt8}{k v j u:Nat}(h:abr bs k v j u=true):¬(aap bs v (k:Int)=false\/(aaf bs (v+j):Int)≠(u:Int)):=by
 unfold abr at h;rw[Bool.and_eq_true,beq_iff_eq]at h;rintro(h1 | h1)
 · rw[h.1]at h1;cases h1
 · exact h1 (by omega)
theorem asd (bs:List UInt8) (o v e k:Nat) (h1:o+8<=e) (h2:e+8<=bs.length):lyN (lyN bs e k) o v=lyN (lyN bs o v) e k:=by
 have:=akm bs o v e k h1 h2;simpa only[aiO]using this
theorem ave:avN:=by
 intro w g base cap c A bs o y h hb hl ho hy;subst hy;rcases aeD bs o with hk | ⟨k,hk⟩
 · have e:aeB bs o=none:=by unfold aeB;rw[if_pos hk]
   rw[e];exact asc h hb _ rfl hl o ho hk
 · obtain⟨q184,q32,k22⟩:=aa6 hk;obtain⟨q,rfl⟩:∃q:Nat,o=(q:Int):=⟨o.toNat,by omega⟩;obtain⟨f,hf⟩:=nmE (aaf bs (8+8*k));obtain⟨m,hm⟩:=nmE (aaf bs (q+8));obtain⟨p,hp⟩:=nmE (aaf bs (q+16));have e:aeB bs (q:Int)=if p=0/\(f:Int)≠(q:Int) then none
    else if p≠0/\(aap bs p (k:Int)=false\/(aaf bs (p+8):Int)≠(q:Int)) then none
    else if m≠0/\(aap bs m (k:Int)=false\/(aaf bs (m+16):Int)≠(q:Int)) then none
    else some (abJ (if p≠0/\(f:Int)=(q:Int) then lyN (if m≠0 then lyN (if p=0 then lyN bs (8+8*k) m else lyN bs (p+8) m) (m+16) p else (if p=0 then lyN bs (8+8*k) m else lyN bs (p+8) m)) (8+8*k) m else (if m≠0 then lyN (if p=0 then lyN bs (8+8*k) m else lyN bs (p+8) m) (m+16) p else (if p=0 then lyN bs (8+8*k) m else lyN bs (p+8) m))) k):=by
    unfold aeB;rw[hk,if_neg (by omega)];simp only[Int.toNat_natCast,hf,hm,hp]
   rw[e];by_cases hp0:p=0
   · by_cases hfq:f=q
     · rw[if_neg (by omega),if_neg (by omega)];by_cases hm0:m=0
       · rw[if_neg (by omega),if_neg (by omega),if_neg (by omega),if_pos hp0];exact ap6 h hb _ rfl hl q k f m p hk hf hm hp hp0 hfq hm0
       · cases hmh:abr bs k m 16 q with
         | false=>
          rw[if_pos ⟨hm0,aec hmh⟩];exact alL h hb _ rfl hl q k f m p hk hf hm hp hp0 hfq hm0 hmh
         | true=>
          have hin:=aaO (abv hmh);rw[if_neg (fun h=>aeO hmh h.2),if_neg (by omega),if_pos hm0,if_pos hp0,<-asd bs (8+8*k) m (m+16) p (by omega) (by omega)];exact ap7 h hb _ rfl hl q k f m p hk hf hm hp hp0 hfq hm0 hmh
     · rw[if_pos ⟨hp0,by omega⟩];exact alK h hb _ rfl hl q k f m p hk hf hm hp hp0 hfq
   · rw[if_neg (fun h=>hp0 h.1)]
     cases hph:abr bs k p 8 q with
     | false=>
      rw[if_pos ⟨hp0,aec hph⟩];exact anW h hb _ rfl hl q k f m p hk hf hm hp hp0 hph
     | true=>
      have hpin:=aaO (abv hph);rw[if_neg (fun h=>aeO hph h.2)];by_cases hm0:m=0
      · rw[if_neg (fun h=>h.1 hm0)];by_cases hfq:f=q
        · rw[if_pos ⟨hp0,by omega⟩,if_neg (fun h=>h hm0),if_neg hp0];exact ap8 h hb _ rfl hl q k f m p hk hf hm hp hp0 hph hm0 hfq
        · rw[if_neg (fun h=>hfq (by omega)),if_neg (fun h=>h hm0),if_neg hp0];have e2:lyN (lyN bs (p+8) m) (8+8*k) f=lyN bs (p+8) m:=by
           have h1:aaf (lyN bs (p+8) m) (8+8*k)=f:=by rw[aaz _ _ _ _ (by omega) (by omega)];exact hf
           rw[<-h1];exact aiN _ _ (by rw[aah _ _ _ (by omega)];omega)
          have:=aqa h hb _ rfl hl q k f m p hk hf hm hp hp0 hph hm0 hfq;rw[e2]at this;exact this
      · cases hmh:abr bs k m 16 q with
        | false=>
         rw[if_pos ⟨hm0,aec hmh⟩];exact alM h hb _ rfl hl q k f m p hk hf hm hp hp0 hph hm0 hmh
        | true=>
         have hin:=aaO (abv hmh);rw[if_neg (fun h=>aeO hmh h.2)];by_cases hfq:f=q
         · rw[if_pos ⟨hp0,by omega⟩,if_pos hm0,if_neg hp0];exact ap9 h hb _ rfl hl q k f m p hk hf hm hp hp0 hph hm0 hmh hfq
         · rw[if_neg (fun h=>hfq (by omega)),if_pos hm0,if_neg hp0];have hl1:(lyN bs (p+8) m).length=bs.length:=aah _ _ _ (by omega);have e2:lyN (lyN (lyN bs (p+8) m) (m+16) p) (8+8*k) f=lyN (lyN bs (p+8) m) (m+16) p:=by
            have h1:aaf (lyN (lyN bs (p+8) m) (m+16) p) (8+8*k)=f:=by rw[aaz _ _ _ _ (by omega) (by omega),aaz _ _ _ _ (by omega) (by omega)];exact hf
            rw[<-h1];exact aiN _ _ (by rw[aah _ _ _ (by omega)];omega)
           have:=aqb h hb _ rfl hl q k f m p hk hf hm hp hp0 hph hm0 hmh hfq;rw[e2]at this;exact this
end Go.Proofs.YtncadccbepjekaaGreatDoor
