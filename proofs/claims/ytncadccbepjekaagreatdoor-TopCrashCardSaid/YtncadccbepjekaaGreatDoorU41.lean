/- Texts of mine, joined. -/
import Derived.Test.YtncadccbepjekaaGreatDoorU32
import Derived.Test.YtncadccbepjekaaGreatDoorU35
import Derived.Test.YtncadccbepjekaaGreatDoorU39
set_option maxRecDepth 100000
set_option maxHeartbeats 1000000
namespace Go.Proofs.YtncadccbepjekaaGreatDoor
open Go.RowKit
def PMade (base cap:Nat) (H:Hp) (w:World) (e:Ending) (w':World):Prop:=
 ∃q g A c bs,e= .returned (.tuple #[.pointer (some ⟨q,0,none⟩), .nilIface])/\PH w' q g base cap A c bs H/\Below w.heap.size w w'/\w.heap.size<=q/\w.heap.size<=g/\∀a,A=some a->w.heap.size<=a.block
section
variable {w w':World} {q g base cap c:Nat} {A:Option Addr} {bs out:List UInt8} {H H':Hp}
theorem ajq (w:World) (base:Nat) (hb:base<18446744073709551616) (cap:Int) (hc: -9223372036854775808<=cap/\cap<=9223372036854775807) (h:base%16≠0\/4611686018427387904<base\/cap<1024\/16384<cap):
 Calls Tryz.prog 13 #[.int .u64 (base:Int), .int .i64 cap] w fun e w'=>e= .returned (.tuple #[.pointer none,ak1 1])/\w=w':=by
 have HN:=hE0 (asD w base cap hb hc h);clear h;go_enter Tryz.func13,Tryz.ntmps13
 go_wp2_with fail
 refine HN.out.mono ?_;rintro e w2 ⟨rfl,rfl⟩;go_wp2
 go_ret2
 exact⟨rfl,rfl⟩
theorem auf (w:World) (z:List UInt8) (hz:List.replicate 184 (0:UInt8)=z) (base cap:Nat) (h1:base%16=0) (h2:base<=4611686018427387904) (h3:1024<=cap) (h4:cap<=16384):
 Calls Tryz.prog 13 #[.int .u64 (base:Int), .int .i64 (cap:Int)] w fun e w'=>∃q g A c,e= .returned (.tuple #[.pointer (some ⟨q,0,none⟩), .nilIface])/\PH w' q g base cap A c z (aef cap)/\Below w.heap.size w w'/\w.heap.size<=q/\w.heap.size<=g/\∀a,A=some a->w.heap.size<=a.block:=by
 have HZ:=hE0 (ase hz cap (by omega));have HN:=hE0 (ak6 w base cap h1 h2 h3 h4);have hG:∀W g c A,Ar W 195 g base cap A c []->Calls Tryz.prog 65 #[.pointer (some ⟨g,0,none⟩), .int .i64 184] W fun e w'=>e= .returned .nilIface/\Became 195 g base cap A z W w':=fun W g c A ha=>by
  have:=aiD ha 184 (by simp) h4 (by simp;omega);rw[List.nil_append,hz]at this;exact this
 have HG:=hE0 hG;clear hG hz;go_enter Tryz.func13,Tryz.ntmps13
 go_wp2_with fail
 refine HN.out.mono ?_;rintro e w2 ⟨rfl,ha,hb⟩;have HG2:=hE0 (HG.out w2 _ _ _ ha);have HB2:=hE0 hb;have HL2:=hE0 ha.lt;clear ha hb HG HN;go_wp2_with fail
 refine HG2.out.mono ?_;rintro e w3 ⟨rfl,A3,c3,a3,t3,m3⟩;have hft:∀k,foot w.heap.size none k->w.heap.size<=k:=fun k hk=>by
  rcases hk with rfl | ⟨a,e,_⟩
  · exact Nat.le_refl _
  · exact absurd e (by nofun)
 have hb3:Below w.heap.size w w3:=HB2.out.trans (t3.below hft HB2.out.size);have hA3:∀a,A3=some a->w.heap.size<=a.block:=fun a e=>by
  rcases m3 with h | h
  · rw[h]at e;cases e
  · exact Nat.le_trans HB2.out.size (h a e)
 obtain⟨w4,hw4⟩:=nmE (w3.alloc (.cells #[.pointer (some ⟨w.heap.size,0,none⟩)] 132));have hb4:=abE hw4;have n4:=anE hw4;have HF:Hid (∃q g A c,Ending.returned (.tuple #[.pointer (some ⟨w3.heap.size,0,none⟩), .nilIface])= .returned (.tuple #[.pointer (some ⟨q,0,none⟩), .nilIface])/\PH w4 q g base cap A c z (aef cap)/\Below w.heap.size w w4/\w.heap.size<=q/\w.heap.size<=g/\∀a,A=some a->w.heap.size<=a.block):=
  ⟨_,_,A3,c3,rfl,⟨n4,a3.below hb4,HZ.out,rfl,h4,h2⟩,hb3.trans (hb4.mono hb3.size),hb3.size,Nat.le_refl _,hA3⟩
 have HW4:=hE0 hw4;clear a3 t3 m3 hft hb3 hA3 hw4 hb4 n4 HG2 HB2 HL2;go_wp2_with (first | (rw[HW4.out]) | fail)
 go_ret2
 exact HF.out
theorem adl (w:World) (base cap:Nat) (h1:base%16=0) (h2:base<=4611686018427387904) (h3:1024<=cap) (h4:cap<=16384):
 Calls Tryz.prog 13 #[.int .u64 (base:Int), .int .i64 (cap:Int)] w fun e w'=>PMade base cap (aef cap) w e w':=by
 refine(auf w _ rfl base cap h1 h2 h3 h4).mono ?_;rintro e w' ⟨q,g,A,c,h⟩;exact⟨q,g,A,c,_,h⟩
theorem ass (h:Ar w 195 g base cap A c bs) (hb:base<=4611686018427387904) (hc:cap<=16384) (hl:bs.length<=cap) (hk:abY bs=true):
 Calls Tryz.prog 156 #[.pointer (some ⟨g,0,none⟩)] w fun e w'=>∃H bs',PMade base cap H w e w'/\RtD bs' H/\bs'=bs/\∃q g A c,e= .returned (.tuple #[.pointer (some ⟨q,0,none⟩), .nilIface])/\PH w' q g base cap A c bs H:=by
 have hC:=asV w g base cap c A bs _ h hb (by omega) hk;dsimp only[aat]at hC;obtain⟨H,hR,hcp⟩:=au8 hk hl;have HC:=hE0 hC;have HCL:=hE0 (fun W (hb:Below w.heap.size w W)=>akr (h.below hb) (by omega));have HR:=hE0 hR;have HCP:=hE0 hcp;clear hC hR hcp h;go_enter Tryz.func156,Tryz.ntmps156
 go_wp2_with fail
 refine HC.out.mono ?_;rintro e w2 ⟨rfl,hb2⟩;have HC2:=hE0 (HCL.out w2 hb2);have HB2:=hE0 hb2;clear hb2 HC HCL;go_wp2_with fail
 refine HC2.out.mono ?_;rintro e w3 ⟨g3,A3,c3,rfl,a3,hb3,k1,k2⟩;obtain⟨w4,hw4⟩:=nmE (w3.alloc (.cells #[.pointer (some ⟨g3,0,none⟩)] 132));have hb4:=abE hw4;have n4:=anE hw4;have hb03:=HB2.out.trans (hb3.mono HB2.out.size);have hph:PH w4 w3.heap.size g3 base cap A3 c3 bs H:=⟨n4,a3.below hb4,HR.out,HCP.out,hc,hb⟩;have HF:Hid (PMade base cap H w (.returned (.tuple #[.pointer (some ⟨w3.heap.size,0,none⟩), .nilIface])) w4):=
  ⟨_,_,A3,c3,bs,rfl,hph,hb03.trans (hb4.mono hb03.size),hb03.size,Nat.le_trans HB2.out.size k1,fun a e=>Nat.le_trans HB2.out.size (k2 a e)⟩
 have HPH:=hE0 hph;have HW4:=hE0 hw4;clear a3 hb3 k1 k2 hw4 hb4 n4 hb03 hph HC2 HB2;go_wp2_with (first | (rw[HW4.out]) | fail)
 go_ret2
 exact⟨H,bs,HF.out,HR.out,rfl,_,_,_,_,rfl,HPH.out⟩
theorem adm (h:PH w q g base cap A c bs H):
 Calls Tryz.prog 35 #[.pointer (some ⟨q,0,none⟩)] w fun e w'=>asP base cap bs w e w':=by
 have HC:=hE0 (akr h.ar (by have:=h.len;omega));have k0:=h.c0;have hlq:=h.lt;clear h;go_enter Tryz.func35,Tryz.ntmps35
 go_wp2_with fail
 refine HC.out.mono ?_;rintro e w2 ⟨g2,A2,c2,rfl,h2⟩;have HF:=hE0 h2;clear h2 HC k0;go_wp2
 go_ret
 exact⟨g2,A2,c2,rfl,HF.out⟩
def Hp.capped (H:Hp) (n:Nat):Hp:={H with cap:=n}
theorem RtD.capped (h:RtD bs H){n:Nat}(hn:H.cap<=n):RtD bs (H.capped n):=⟨⟨h.rt.walk,h.rt.all_,h.rt.chk,Nat.le_trans h.rt.len hn⟩,h.dl,h.ho⟩
theorem aoo (h:PH w q g base cap A c bs H) (n:Nat) (h1:cap<=n) (h2:n<=16384):
 Calls Tryz.prog 50 #[.pointer (some ⟨q,0,none⟩), .int .i64 (n:Int)] w fun e w'=>e= .returned (ak1 0)/\PTurn g base n A (H.capped n) w w':=by
 have HC:=hE0 (aro h.ar n h1 h2);have k0:=h.c0;have hlq:=h.lt;have HR:=hE0 (h.rd.capped (n:=n) (by rw[h.cp];exact h1));clear h;go_enter Tryz.func50,Tryz.ntmps50
 go_wp2_with fail
 refine HC.out.mono ?_;rintro e w2 ⟨rfl,hbe⟩;have HF:Hid (PTurn g base n A (H.capped n) w w2):=⟨_,hbe,HR.out⟩;clear hbe HC k0;go_wp2
 go_ret
 exact⟨rfl,HF.out⟩
end
def ajr (n:Int) (l:List Rk) (d:List (List UInt8)):Option (List UInt8):=abz (agn (List.replicate n.toNat 0) (l.map toB) d)
theorem aqP (w:World) (n:Int) (hn: -9223372036854775808<=n/\n<=9223372036854775807) (A1 A2:Option Addr) (k1 k2:Nat) (l:List Rk) (d:List (List UInt8)) (hr:RkRd w w.heap.size A1 l) (hd:DtRd w w.heap.size A2 d) (hl:l.length<=1000000) (hdl:d.length<=1000000) (base:Nat) (hb:base<18446744073709551616) (cap:Int) (hc: -9223372036854775808<=cap/\cap<=9223372036854775807) (hm:adR n l d=true) (hno:base%16≠0\/4611686018427387904<base\/cap<1024\/16384<cap):
 Calls Tryz.prog 94 #[.agg #[.int .i64 n, .slice A1 l.length k1, .slice A2 d.length k2], .int .u64 (base:Int), .int .i64 cap] w fun e w'=>e= .returned (.tuple #[.pointer none, .iface 130 (.int .i64 1)])/\Below w.heap.size w w':=by
 obtain⟨w1,hw1⟩:=nmE (w.alloc (.cells #[.int .i64 n, .slice A1 l.length k1, .slice A2 d.length k2] 107));have hb1:=abE hw1;have n1:=anE hw1;have hmay:=afa w1 n hn A1 A2 k1 k2 l d ((hr.below hb1).more hb1.size) ((hd.below hb1).more hb1.size) hl hdl _ hm;unfold imV at hmay;obtain⟨c0,c1,c2⟩:=aal n1;have hl1:=aaa n1;have HMAY:=hE0 hmay;have HB1:=hE0 hb1;have HN1:=hE0 n1;have HW1:=hE0 hw1;have HR:=hE0 hr;have HD:=hE0 hd;have HNO:=hE0 (fun W=>asD W base cap hb hc hno);clear hmay hb1 n1 hw1 hr hd hm hno;go_enter Tryz.func94,Tryz.ntmps94
 go_wp2_with (first | (rw[HW1.out]) | fail)
 refine HMAY.out.mono ?_;rintro e w2 ⟨rfl,hb2⟩;have HB2:=hE0 (HB1.out.trans (hb2.mono HB1.out.size));have n2:=(hb2.block _ (aaa HN1.out)).trans HN1.out;have HN2:=hE0 n2;clear c0 c1 c2 hl1 hb2;obtain⟨c0,c1,c2⟩:=aal n2;have hl2:=aaa n2;clear n2;go_wp2_with fail
 refine(HNO.out w2).mono ?_;rintro e w3 ⟨rfl,rfl⟩;go_wp2
 go_ret2
 exact⟨rfl,HB2.out⟩
theorem aop (w:World) (n:Int) (hn: -9223372036854775808<=n/\n<=9223372036854775807) (A1 A2:Option Addr) (k1 k2:Nat) (l:List Rk) (d:List (List UInt8)) (hr:RkRd w w.heap.size A1 l) (hd:DtRd w w.heap.size A2 d) (hl:l.length<=1000000) (hdl:d.length<=1000000) (base:Nat) (_hb:base<18446744073709551616) (cap:Int) (hc: -9223372036854775808<=cap/\cap<=9223372036854775807) (hm:adR n l d=true) (h1:base%16=0) (h2:base<=4611686018427387904) (h3:1024<=cap) (h4:cap<=16384) (hlg:cap<n):
 Calls Tryz.prog 94 #[.agg #[.int .i64 n, .slice A1 l.length k1, .slice A2 d.length k2], .int .u64 (base:Int), .int .i64 cap] w fun e w'=>e= .returned (.tuple #[.pointer none, .iface 130 (.int .i64 10)])/\Below w.heap.size w w':=by
 obtain⟨cn,rfl⟩:∃cn:Nat,cap=(cn:Int):=⟨cap.toNat,by omega⟩;have g1:decide ((cn:Int)<n)=true:=decide_eq_true hlg;obtain⟨w1,hw1⟩:=nmE (w.alloc (.cells #[.int .i64 n, .slice A1 l.length k1, .slice A2 d.length k2] 107));have hb1:=abE hw1;have n1:=anE hw1;have hmay:=afa w1 n hn A1 A2 k1 k2 l d ((hr.below hb1).more hb1.size) ((hd.below hb1).more hb1.size) hl hdl _ hm;unfold imV at hmay;obtain⟨c0,c1,c2⟩:=aal n1;have hl1:=aaa n1;have HMAY:=hE0 hmay;have HB1:=hE0 hb1;have HN1:=hE0 n1;have HW1:=hE0 hw1;have HR:=hE0 hr;have HD:=hE0 hd;have HNEW:=hE0 (fun W=>ak6 W base cn h1 h2 (by omega) (by omega));clear hmay hb1 n1 hw1 hr hd hm;go_enter Tryz.func94,Tryz.ntmps94
 go_wp2_with (first | (rw[HW1.out]) | fail)
 refine HMAY.out.mono ?_;rintro e w2 ⟨rfl,hb2⟩;have HB2:=hE0 (HB1.out.trans (hb2.mono HB1.out.size));have n2:=(hb2.block _ (aaa HN1.out)).trans HN1.out;have HN2:=hE0 n2;clear c0 c1 c2 hl1 hb2;obtain⟨c0,c1,c2⟩:=aal n2;have hl2:=aaa n2;clear n2;go_wp2_with fail
 refine(HNEW.out w2).mono ?_;rintro e w3 ⟨rfl,har,hb3⟩;have HB3:=hE0 (HB2.out.trans (hb3.mono HB2.out.size));have n3:=(hb3.block _ (aaa HN2.out)).trans HN2.out;clear har hb3 c0 c1 c2 hl2;obtain⟨c0,c1,c2⟩:=aal n3;have hl3:=aaa n3;clear n3;go_wp2
 go_ret2
 exact⟨rfl,HB3.out⟩
theorem aug (w:World) (n:Int) (hn: -9223372036854775808<=n/\n<=9223372036854775807) (A1 A2:Option Addr) (k1 k2:Nat) (l:List Rk) (d:List (List UInt8)) (hr:RkRd w w.heap.size A1 l) (hd:DtRd w w.heap.size A2 d) (hl:l.length<=1000000) (hdl:d.length<=1000000) (base:Nat) (_hb:base<18446744073709551616) (cap:Int) (hc: -9223372036854775808<=cap/\cap<=9223372036854775807) (hm:adR n l d=true) (h1:base%16=0) (h2:base<=4611686018427387904) (h3:1024<=cap) (h4:cap<=16384) (hlg:n<=cap):
 Calls Tryz.prog 94 #[.agg #[.int .i64 n, .slice A1 l.length k1, .slice A2 d.length k2], .int .u64 (base:Int), .int .i64 cap] w fun e w'=>∃out H q g A c,ajr n l d=some out/\e= .returned (.tuple #[.pointer (some ⟨q,0,none⟩), .nilIface])/\PH w' q g base cap.toNat A c out H/\w.heap.size<=q/\w.heap.size<=g/\(∀a,A=some a->w.heap.size<=a.block)/\Below w.heap.size w w':=by
 obtain⟨cn,rfl⟩:∃cn:Nat,cap=(cn:Int):=⟨cap.toNat,by omega⟩;have hlo:ab0 n=true:=by unfold adR at hm;rw[Bool.and_eq_true]at hm;exact hm.1
 have hlB:=(aaT n).1 hlo;obtain⟨N,rfl⟩:∃N:Nat,n=(N:Int):=⟨n.toNat,by omega⟩;have g1:decide ((cn:Int)<(N:Int))=false:=decide_eq_false (by omega);have g1':decide (cn<N)=false:=decide_eq_false (by omega);obtain⟨out,hw0,hl0,hre,hck,hwk,hol,_⟩:=afF hm;have hrow:abh (N:Int) 184 false l=true:=by unfold adR at hm;simp only[Bool.and_eq_true]at hm;exact hm.2.1
 have hdat:datOk l d=true:=by unfold adR at hm;simp only[Bool.and_eq_true]at hm;exact hm.2.2
 obtain⟨htile,hmap,hz⟩:=ago (o:=184) hrow;rw[Int.toNat_natCast]at htile;have hdb:=agp (fun x hx=>⟨(hz x hx).1,(hz x hx).2.1⟩) hdat;have HLAYOF:Hid (ajr (N:Int) l d=some out):=(show _=_ by unfold ajr;rw[Int.toNat_natCast];exact hre);obtain⟨mid,hmid⟩:=nmE (agn (List.replicate N 0) (l.map toB) d);rw[hmid]at hl0 hre;obtain⟨L,hL⟩:=nmE (l.map toB);have hLl:L.length=l.length:=by rw[<-hL,List.length_map]
 rw[hL]at htile hdb hmap hmid;have HLY:=hE0 (fun wB W g A c (hst:St wB W g base cn A c (List.replicate N 0) []) (hrr:RkRd wB wB.heap.size A1 l) (hdd:DtRd wB wB.heap.size A2 d)=>aqM wB W g base cn c A (List.replicate N 0) N L d A1 A2 k1 k2 (N:Int) hst h2 (by simp) (by omega) htile hdb (by rw[<-hmap];exact hrr) hdd);rw[hLl,hmid]at HLY;have HRE:=hE0 (fun W g A c (h:Ar W 195 g base cn A c mid)=>am2 W g base cn c A mid _ h h2 (by omega) hre);dsimp only[aoE,aat]at HRE;have HOF:=hE0 (fun W g A c (h:Ar W 195 g base cn A c out)=>ass h h2 (by omega) (by omega) hck);obtain⟨w1,hw1⟩:=nmE (w.alloc (.cells #[.int .i64 (N:Int), .slice A1 l.length k1, .slice A2 d.length k2] 107));have hb1:=abE hw1;have n1:=anE hw1;have hmay:=afa w1 (N:Int) hn A1 A2 k1 k2 l d ((hr.below hb1).more hb1.size) ((hd.below hb1).more hb1.size) hl hdl _ hm;unfold imV at hmay;obtain⟨c0,c1,c2⟩:=aal n1;have hl1:=aaa n1;have HMAY:=hE0 hmay;have HB1:=hE0 hb1;have HN1:=hE0 n1;have HW1:=hE0 hw1;have HR:=hE0 hr;have HD:=hE0 hd;have HNEW:=hE0 (fun W=>ak6 W base cn h1 h2 (by omega) (by omega));clear hmay hb1 n1 hw1 hr hd hm hlo hw0 hl0 hre hck hwk hol hrow hdat htile hmap hz hdb hmid hL hLl hl hdl;go_enter Tryz.func94,Tryz.ntmps94
 go_wp2_with (first | (rw[HW1.out]) | fail)
 refine HMAY.out.mono ?_;rintro e w2 ⟨rfl,hb2⟩;have HB2:=hE0 (HB1.out.trans (hb2.mono HB1.out.size));have n2:=(hb2.block _ (aaa HN1.out)).trans HN1.out;have HN2:=hE0 n2;clear c0 c1 c2 hl1 hb2;obtain⟨c0,c1,c2⟩:=aal n2;have hl2:=aaa n2;clear n2;go_wp2_with fail
 refine(HNEW.out w2).mono ?_;rintro e w3 ⟨rfl,har,hb3⟩;have HB3:=hE0 (HB2.out.trans (hb3.mono HB2.out.size));have n3:=(hb3.block _ (aaa HN2.out)).trans HN2.out;obtain⟨g,hg⟩:=nmE w2.heap.size;rw[hg]at har;have hgm:w.heap.size<g:=by rw[<-hg];exact aaa HN2.out
 have HS3:Hid (Sm w2 w3 g base cn none 0 [] w.heap.size (.cells #[.int .i64 (N:Int), .slice A1 l.length k1, .slice A2 d.length k2] 107 (0,0))):=⟨⟨hb3,har,by omega,(fun a e=>by cases e),(fun q hq=>by cases hq)⟩,n3,fun hf=>by
  rcases hf with e | ⟨a,e,_⟩
  · omega
  · cases e⟩
 have HGR:=hE0 (aiD har N (by simp) (by omega) (by simp;omega));rw[List.nil_append]at HGR;have HR2:=hE0 ((HR.out.below HB2.out).more HB2.out.size);have HD2:=hE0 ((HD.out.below HB2.out).more HB2.out.size);have HGEQ:=hE0 hg;clear har hb3 c0 c1 c2 hl2;rw[hg];clear hg;obtain⟨c0,c1,c2⟩:=aal n3;have hl3:=aaa n3;clear n3;go_wp2_with fail
 refine HGR.out.mono ?_;rintro e w4 ⟨rfl,hbe⟩;obtain⟨A4,c4,s4⟩:=HS3.out.became hbe;have HS4:=hE0 s4;clear c0 c1 c2 hl3 hbe s4;obtain⟨c0,c1,c2⟩:=aal HS4.out.ob;have hl4:=akO HS4.out.ob;go_wp2_with fail
 refine(HLY.out w2 w4 g A4 c4 HS4.out.st HR2.out HD2.out).mono ?_;rintro e w5 ⟨rfl,A5,c5,s5⟩;have HS5:=hE0 s5;clear s5 c0 c1 c2 hl4 HLY;go_wp2_with fail
 refine(HRE.out w5 g A5 c5 HS5.out.ar).mono ?_;rintro e w6 ⟨rfl,hbe6⟩;obtain⟨A6,c6,s6⟩:=HS5.out.became hbe6;have HS6:=hE0 s6;clear hbe6 s6 HRE;go_wp2_with fail
 refine(HOF.out w6 g A6 c6 HS6.out.ar).mono ?_;rintro e w7 ⟨H,bs',⟨q1,g1x,A1x,c1x,bs1,he1,hp1,hb7,hq1,hg1x,hA1x⟩,_,hbs,q2,g2,A2x,c2x,he,hph⟩;rw[he]at he1;injection he1 with he1;injection he1 with he1;have he2:(Value.pointer (some ⟨q2,0,none⟩))= .pointer (some ⟨q1,0,none⟩):=by
  have:=congrArg (fun a=>a[0]?) he1;simpa using this
 injection he2 with he2;injection he2 with he2;injection he2 with he2 _ _;subst he2;have hgg:g2=g1x:=by
  have e1:=hph.obj;rw[hp1.obj]at e1;injection e1 with e1;injection e1 with e1 _ _;have:=congrArg (fun a=>a[0]?) e1;simp at this;exact this.symm
 subst hgg;have hAA:A2x=A1x:=by
  have e1:=hph.ar.obj;rw[hp1.ar.obj]at e1;injection e1 with e1;injection e1 with e1 _ _;have:=congrArg (fun a=>a[2]?) e1;simp at this;exact this.1.symm
 subst hAA;subst he;have HPH:=hE0 hph;have HBF:=hE0 (HB2.out.trans ((HS6.out.bel.trans (hb7.mono HS6.out.size)).mono HB2.out.size));have hlow:=Nat.le_trans HB2.out.size HS6.out.size;have HQ:=hE0 (Nat.le_trans hlow hq1);have HG:=hE0 (Nat.le_trans hlow hg1x);have HA:=hE0 (fun a (e:A2x=some a)=>Nat.le_trans hlow (hA1x a e));clear hp1 hb7 hq1 hg1x hA1x he1 hph hlow hbs HOF;go_wp2
 go_ret2
 exact⟨out,H,q2,g2,A2x,c2x,HLAYOF.out,rfl,by rw[Int.toNat_natCast];exact HPH.out,HQ.out,HG.out,HA.out,HBF.out⟩
end Go.Proofs.YtncadccbepjekaaGreatDoor
