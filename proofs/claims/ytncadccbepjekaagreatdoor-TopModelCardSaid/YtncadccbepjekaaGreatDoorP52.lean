/- Texts of mine, joined. -/
import Derived.Test.YtncadccbepjekaaGreatDoorP50
import Derived.Test.YtncadccbepjekaaGreatDoorP51
set_option maxRecDepth 100000
set_option maxHeartbeats 4000000
namespace Go.Proofs.YtncadccbepjekaaGreatDoor
open Go.RowKit
theorem avB (w:World) (hE:ET w) (base:Nat) (hb64:base<18446744073709551616) (cap:Int) (hc: -9223372036854775808<=cap/\cap<=9223372036854775807) (hbad:base%16≠0\/4611686018427387904<base\/cap<1024\/16384<cap) (A:Option Addr) (n k:Nat):
 Calls Tryz.prog 5 #[.int .u64 (base:Int), .int .i64 cap, .slice A n k] w fun e w'=>e= .returned (.bool true)/\Below w.heap.size w w':=by
 have HUP:=hE0 (anc w hE);have HBG:=hE0 (fun W=>aq6 W base hb64 cap hc hbad none 0 0 80);clear hbad hE;go_enter Tryz.func5,Tryz.ntmps5
 go_wp2_with fail
 refine HUP.out.mono ?_;rintro e w1 ⟨rfl,hb1⟩;have HB1:=hE0 hb1;clear hb1 HUP;go_wp2_with fail
 refine(HBG.out w1).mono ?_;rintro e w2 ⟨rfl,rfl⟩;go_wp2_with fail
 go_ret
 exact⟨rfl,HB1.out⟩
theorem auE (w:World) (hE:ET w) (base cap:Nat) (h1b:base%16=0) (h2b:base<=4611686018427387904) (h1:1024<=cap) (h2:cap<=16384) (A:Option Addr) (k:Nat) (l:List Cl) (hL:ClRd w w.heap.size A l) (hm:l.length<=maxLen):
 Calls Tryz.prog 5 #[.int .u64 (base:Int), .int .i64 (cap:Int), .slice A l.length k] w fun e w'=>e= .returned (.bool true)/\Below w.heap.size w w':=by
 unfold maxLen at hm;have HUP:=hE0 (anc w hE);have hbg:=fun W (hb:Below w.heap.size w W)=>aq7 W (hE.below hb) base cap h1b h2b h1 h2 none 0 [] (fun hn=>absurd hn (by simp)) 80 (by omega) rfl;simp only[List.length_nil]at hbg;have HBG:=hE0 hbg;have HE:=hE0 hE;have hsm:=fun W (hb:Below w.heap.size w W)=>ahl W A k l (ajs hL hb) (by omega) 80 (by omega);have hcases:ac2 l 80=true->l.length<=100/\∀x∈l,x.b.length<=2000:=fun hs=>by
  unfold ac2 at hs;rw[Bool.and_eq_true,List.all_eq_true]at hs;exact⟨by have:=of_decide_eq_true hs.1;omega,fun x hx=>of_decide_eq_true (hs.2 x hx)⟩
 have HCS:=hE0 hcases;have HL:=hE0 hL;obtain⟨n,hn⟩:=nmE l.length;rw[hn]at hsm hm ⊢;have HSM:=hE0 hsm;have HN:=hE0 hn;clear hsm hcases hL hn hE hbg;go_enter Tryz.func5,Tryz.ntmps5
 go_wp2_with fail
 refine HUP.out.mono ?_;rintro e w1 ⟨rfl,hb1⟩;have HB1:=hE0 hb1;clear hb1 HUP;go_wp2_with fail
 refine(HBG.out w1 HB1.out).mono ?_;rintro e w2 ⟨hb2,q,g,A1,c1,b1,H,told,At,ct,rfl,hv,_,_,_,hz⟩;obtain⟨rfl,rfl⟩:=hz rfl;have HB2:=hE0 hb2;have HB02:=hE0 (HB1.out.trans (hb2.mono HB1.out.size));have HV:=hE0 hv;clear hb2 hv hz HBG;go_wp2_with fail
 refine(HSM.out w2 HB02.out).mono ?_;rintro e w3 ⟨rfl,rfl⟩;clear HSM
 cases hs:ac2 l 80 with
 | false=>
  simp only[Bool.false_eq_true,if_false];clear hs;go_wp2_with fail
  go_ret
  exact⟨rfl,HB02.out⟩
 | true=>
  simp only[if_true];obtain⟨hl,hsb⟩:=HCS.out hs;have hg:=asS (B:=w1.heap.size) w2 (fun W hW=>HE.out.below (HB02.out.trans (hW.mono HB1.out.size))) (Nat.lt_of_lt_of_le HE.out.lt HB1.out.size) HB2.out.size HV.out (Hs.nil _ _) (Mp.nil rfl) A k l ((ajs HL.out HB1.out).below HB2.out) hl hsb none 0 [] (World.ownsRow_nil _ _ _ _) (by simp) (fun v hv=>by cases hv);simp only[List.length_nil]at hg;rw[HN.out]at hg;have HG:=hE0 hg;clear hg hs hl hsb;go_wp2_with fail
  refine HG.out.mono ?_;rintro e w4 ⟨rfl,hb4,_⟩;have HB4:=hE0 (HB02.out.trans (hb4.mono HB1.out.size));clear hb4;go_wp2_with fail
  go_ret
  exact⟨rfl,HB4.out⟩
theorem avC (w:World) (hE:ET w) (base:Nat) (hb64:base<18446744073709551616) (cap:Int) (hc: -9223372036854775808<=cap/\cap<=9223372036854775807) (A:Option Addr) (k:Nat) (l:List Cl) (hL:ClRd w w.heap.size A l) (hm:l.length<=maxLen):
 Calls Tryz.prog 5 #[.int .u64 (base:Int), .int .i64 cap, .slice A l.length k] w fun e w'=>e= .returned (.bool true)/\Below w.heap.size w w':=by
 by_cases hb:base%16≠0\/4611686018427387904<base\/cap<1024\/16384<cap
 · exact avB w hE base hb64 cap hc hb A l.length k
 · obtain⟨c,rfl⟩:∃c:Nat,cap=(c:Int):=⟨cap.toNat,by omega⟩;exact auE w hE base c (by omega) (by omega) (by omega) (by omega) A k l hL hm
end Go.Proofs.YtncadccbepjekaaGreatDoor
