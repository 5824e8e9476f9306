/- Texts of mine, joined. -/
import Derived.Deep.QuietTactic
import Derived.BigQuiet
import Derived.Test.YtncadccbepjekaaGreatDoorR11
set_option maxRecDepth 100000
set_option maxHeartbeats 8000000
namespace Go.Proofs.YtncadccbepjekaaGreatDoor
open Go.RowKit
theorem aiN (w:World) (x0 x1 x2 x3 x4 x5 x6 x7 x8:Value):(Instr.field 50 (.agg #[x0,x1,x2,x3,x4,x5,x6,x7,x8]) 0).run Tryz.prog w= .ok x0 w:=by
 kernel_rfl
theorem alC (w:World) (x0 x1 x2 x3 x4:Value):(Instr.field 48 (.agg #[x0,x1,x2,x3,x4]) 2).run Tryz.prog w= .ok x2 w:=by
 kernel_rfl
theorem PH.ownO2{w w':World}{q g base cap c B:Nat}{A:Option Addr}{bs:List UInt8}{H:Hp}(h:PH w q g base cap A c bs H) (ht:Tch (foot g A) w w'){n size:Nat}{ty:TypeId}{v:Value}{xs:List Value}(ho:w.ownsRow B ty size v n xs) (n1:ty≠132) (n2:ty≠195) (n3:ty≠5):w'.ownsRow B ty size v n xs:=by
 refine⟨ho.1,?_⟩;rcases ho.2 with h2 | ⟨g',cap',cur,hv,hg,hh,r⟩
 · exact .inl h2
 · exact .inr ⟨g',cap',cur,hv,hg,h.locO ht hh n1 n2 n3,r⟩
theorem auB (w:World) (hE:ET w) (cap:Int) (hc: -9223372036854775808<=cap/\cap<=9223372036854775807) (hbad:cap<1024\/16384<cap) (A:Option Addr) (n k:Nat) (N:Nat):
 Calls Tryz.prog 9 #[.int .i64 cap, .slice A n k, .int .u64 (N:Int)] w fun e w'=>e= .returned (.bool true)/\Below w.heap.size w w':=by
 have HUP:=hE0 (aiM w hE);have HBG:=hE0 (fun W=>aqr W 0 (by omega) cap hc (.inr (.inr hbad)) A n k 80);clear hbad hE;go_enter Tryz.func9,Tryz.ntmps9
 go_wp2_with fail
 refine HUP.out.mono ?_;rintro e w1 ⟨rfl,hb1⟩;have HB1:=hE0 hb1;clear hb1 HUP;go_wp2_with fail
 refine(HBG.out w1).mono ?_;rintro e w2 ⟨rfl,rfl⟩;go_wp2_with fail
 go_ret
 exact⟨rfl,HB1.out⟩
theorem atD (w:World) (hE:ET w) (cap:Nat) (h1:1024<=cap) (h2:cap<=16384) (A:Option Addr) (k:Nat) (l:List Cl) (hL:ClRd w w.heap.size A l) (hm:l.length<=maxLen) (hs:acT l 80=false) (N:Nat):
 Calls Tryz.prog 9 #[.int .i64 (cap:Int), .slice A l.length k, .int .u64 (N:Int)] w fun e w'=>e= .returned (.bool true)/\Below w.heap.size w w':=by
 have HUP:=hE0 (aiM w hE);have HBG:=hE0 (fun W (hb:Below w.heap.size w W)=>anO W 0 cap (by omega) (by omega) h1 h2 A k l (aiL hL hb) hm 80 (by omega) hs);obtain⟨n,hn⟩:=nmE l.length;rw[hn]at HBG hm ⊢;clear hs hL hn hE;go_enter Tryz.func9,Tryz.ntmps9
 go_wp2_with fail
 refine HUP.out.mono ?_;rintro e w1 ⟨rfl,hb1⟩;have HB1:=hE0 hb1;clear hb1 HUP;go_wp2_with fail
 refine(HBG.out w1 HB1.out).mono ?_;rintro e w2 ⟨rfl,hb2⟩;have HB2:=hE0 (HB1.out.trans (hb2.mono HB1.out.size));clear hb2 HBG;go_wp2_with fail
 go_ret
 exact⟨rfl,HB2.out⟩
theorem atE (w:World) (hE:ET w) (cap:Nat) (h1:1024<=cap) (h2:cap<=16384) (A:Option Addr) (k:Nat) (l:List Cl) (hL:ClRd w w.heap.size A l) (hs:acT l 80=true) (N:Nat) (hN:N<18446744073709551616):
 Calls Tryz.prog 9 #[.int .i64 (cap:Int), .slice A l.length k, .int .u64 (N:Int)] w fun e w'=>e= .returned (.bool true)/\Below w.heap.size w w':=by
 have HUP:=hE0 (aiM w hE);have HBG:=hE0 (fun W (hb:Below w.heap.size w W)=>aqs W (hE.below hb) 0 cap (by omega) (by omega) h1 h2 A k l (aiL hL hb) 80 (by omega) hs);have HE:=hE0 hE;obtain⟨n0,hn0⟩:∃n,l.length=n:=⟨_,rfl⟩;rw[hn0]at HBG ⊢;clear hs hL hn0 hE;go_enter Tryz.func9,Tryz.ntmps9
 go_wp2_with fail
 refine HUP.out.mono ?_;rintro e w1 ⟨rfl,hb1⟩;have HB1:=hE0 hb1;clear hb1 HUP;go_wp2_with fail
 refine(HBG.out w1 HB1.out).mono ?_;rintro e w2 ⟨hb2,q,g,A1,c1,b1,H,told,At,ct,rfl,hv,_,_,_,_⟩;have HB2:=hE0 (HB1.out.trans (hb2.mono HB1.out.size));have HV:=hE0 hv;have HP1:=hE0 (show 0<w1.heap.size from Nat.lt_of_lt_of_le HE.out.lt HB1.out.size);have H12:=hE0 hb2.size;have HAR:=hE0 (ahJ hv.ph);have HCK:=hE0 hv.ph.rd.rt.chk;have HWK:=hE0 hv.ph.rd.rt.walk;have HLN:=hE0 hv.ph.len;have HCP:=hE0 hv.ph.cp;clear hb2 hv HBG;go_wp2_with fail
 refine HAR.out.mono ?_;rintro e w3 ⟨g2,A2,c2,rfl,a2,hb3,k1,k2⟩;have HW:=hE0 (ajx w3 g2 0 cap c2 A2 b1 _ a2 (by omega) HLN.out HWK.out);have HA2:=hE0 a2;have HB3:=hE0 (HB2.out.trans (hb3.mono HB2.out.size));have HV3:=hE0 (HV.out.below hb3);have H23:=hE0 hb3.size;clear a2 hb3 k1 k2 HAR;go_wp2_with fail
 refine HW.out.mono ?_;rintro e w4 ⟨A3,c3,rfl,ho,hb4⟩;dsimp only[Option.getD,Option.isSome,aat]at ho ⊢;obtain⟨m,hm⟩:=nmE H.blks.length;have HMB:=hE0 hm;have HC:=hE0 (apl w4 g2 0 cap c2 A2 b1 true (HA2.out.below hb4) (by omega) HLN.out HCK.out);have HO4:=hE0 ho;have HB4:=hE0 (HB3.out.trans (hb4.mono HB3.out.size));have HV4:=hE0 (HV3.out.below hb4);have H34:=hE0 hb4.size;rw[hm];rw[hm]at ho;clear hm hb4 HW ho HV3 HA2;go_wp2_with fail
 refine HC.out.mono ?_;rintro e w5 ⟨rfl,hb5⟩;dsimp only[aat];have HO5:=hE0 (aaM HO4.out hb5);have HB5:=hE0 (HB4.out.trans (hb5.mono HB4.out.size));have HV5:=hE0 (HV4.out.below hb5);have H45:=hE0 hb5.size;have hok:=HV5.out.ph.rd.rt.ok (by rw[HCP.out];exact h2) HV5.out.ph.rd.dl;have hm512:m<=512:=by rw[<-HMB.out];exact hok.n
 have HSZ:=hE0 (fun(x:Bk) (hx:x∈H.blks)=>HV5.out.ph.rd.rt.sz hx);clear hb5 hok HC HO4 HV4;go_wp2_with fail
 go_loopw [13,14,15] (fun a b i wr=>∃j:Nat,a= .int .i64 (abq (H.blks.take j):Int)/\b= .int .i64 (aeX (H.blks.take j):Int)/\i= .int .i64 (j:Int)/\j<=m/\Below w5.heap.size w5 wr) (fun _ _ i _=>m-(intOf i).toNat)
 case atStart=>exact⟨0,rfl,rfl,rfl,Nat.zero_le _,Below.refl _ _⟩
 case round=>
  obtain⟨j,rfl,rfl,rfl,hj,hbr⟩:=hrel;have HBR:=hE0 hbr;have howr:=aaM HO5.out hbr;clear hbr;by_cases hlt:j<m
  · obtain⟨x,hx⟩:∃x,H.blks[j]?=some x:=⟨H.blks[j]'(by rw[HMB.out];exact hlt),List.getElem?_eq_getElem _⟩;obtain⟨bb,cc,he,hblt,hnl,hnc,⟨e0,e1,e2⟩,hfz⟩:=aiq (afP howr (Nat.zero_le _)) hx;clear hnl hnc hfz;have hsz:=HSZ.out x (List.mem_of_getElem? hx);have hm1:=anM hx;have hm2:=ajE hx;have hml:=agN (H.blks.take j) fun y hy=>(HSZ.out y (List.mem_of_mem_take hy)).2.2.1;obtain⟨xo,xs,xu⟩:=x;dsimp only at e0 e1 e2 hsz hm1 hm2;injection he with he1 he2 he3;rw[HMB.out]at he2;subst he1 he3;clear howr he2 hx;obtain⟨mo,hmo⟩:=nmE (abq (H.blks.take j));obtain⟨eo,heo⟩:=nmE (aeX (H.blks.take j));rw[hmo]at hm1 hml ⊢;rw[heo]at hm2 ⊢;clear hmo heo
    cases xu with
    | true=>
     rw[if_pos rfl]at hm1 hm2;have HM1:=hE0 hm1;have HM2:=hE0 hm2;clear hm1 hm2;go_wp2_with fail
     obtain⟨wd,hwd⟩:=nmE wr.drew;have hbd:=adE hwd;have hbld:bb<wd.heap.size:=Nat.lt_of_lt_of_le hblt hbd.size;have d0:=(hbd.cell (p:=⟨bb,j*3,none⟩) hblt).trans e0;have d1:=(hbd.cell (p:=⟨bb,j*3+1,none⟩) hblt).trans e1;have HBD:=hE0 (HBR.out.trans (hbd.mono HBR.out.size));have hx6:xo+xs<=16384:=by have:=HLN.out;omega
     refine aaq wd.heap.size [] [0,1,2,3,4,5,6,7,8,9,10,11] [] (by kernel_rfl) (by kernel_rfl) (by kernel_rfl) (fun _ _ _ _ _ h=>h) ?_;rw[hwd];have t0:=tfE d0 hbld;have t1:=tfE d1 hbld;clear hwd hbd;refine aaN (l:= ?ra) (t:= []) ?hra ?tra ?_
     case hra=>simp only[pick,lE1,lE2,lE3];rfl
     case tra=>rfl
     repeat (go_big_quiet_step (fail))
     refine wpQuiet_nil ?_;go_wp2_with fail
     go_roundw
     case rel=>exact⟨j+1,by rw[HM1.out],by rw[HM2.out];go_num,by go_num,by omega,HBD.out⟩
     case measure=>simp only[intOf];omega
    | false=>
     rw[if_neg Bool.false_ne_true]at hm1 hm2;have HM1:=hE0 hm1;have HM2:=hE0 hm2;clear hm1 hm2;go_wp2_with fail
     go_roundw
     case rel=>exact⟨j+1,by rw[HM1.out];congr 1;omega,by rw[HM2.out],by go_num,by omega,HBR.out⟩
     case measure=>simp only[intOf];omega
  · obtain rfl:m=j:=by omega
    rw[List.take_of_length_le (by rw[HMB.out];exact Nat.le_refl _)];obtain⟨q1,q2,q3⟩:=amB HV5.out.ph.rd (by rw[HCP.out];exact h2);have hroom:=amC HV5.out.ph.rd (by rw[HCP.out];exact h2) N 165;rw[HCP.out]at hroom q2;obtain⟨mo,hmo⟩:=nmE (abq H.blks);obtain⟨eo,heo⟩:=nmE (aeX H.blks);rw[hmo,heo]at hroom ⊢;rw[hmo]at q1;rw[heo]at q2 q3;obtain⟨mx,hmx⟩:=nmE (max mo (cap-eo));have hmxl:mx<=16384:=by omega
    have gmx:(max (mo:Int) ((cap:Int)-(eo:Int)))=(mx:Int):=by omega
    rw[hmx]at hroom;clear hroom;have HBW:=hE0 (HB5.out.trans (HBR.out.mono HB5.out.size));have HVW:=hE0 (HV5.out.below HBR.out);have HOW:=hE0 howr;have H1W:Hid (w1.heap.size<=wr.heap.size):=hE0 (by have:=H12.out;have:=H23.out;have:=H34.out;have:=H45.out;have:=HBR.out.size;omega);obtain⟨dc,hdc⟩:=nmE (H.doC ((1:Nat):Int) 0 N 0 0 []);have HD:=HVW.out.do_ H1W.out (HE.out.below HBW.out) HP1.out 1 (by omega) 0 N 0 0 0 0 none [] (by omega) hN (by omega) (by omega) rfl Rd.nil_ (by omega) dc hdc;obtain⟨⟨ck1,ch1,cn1,cb1,⟨sa1,sb1,sc1,sd1,se1⟩⟩,H1⟩:=dc;have hch:=asj HVW.out.ph.rd (by rw[HCP.out];exact h2) (op:=1) (by omega) 0 N 0 0 [];rw[hdc]at hch;unfold abj at HD;dsimp only at HD hch;obtain⟨cbl,hcbl⟩:=nmE cb1.length;have HCB:=hE0 hcbl;have HDO:=hE0 HD;have HDC:=hE0 hdc;have HMO:=hE0 (show max (abq H.blks) (H.cap-aeX H.blks)=mx from by rw[hmo,heo,HCP.out];exact hmx);have HJ:Hid (∀(j:Nat) (x:Bk),H.blks[j]?=some x->x.used=true->∃d,H.Has (x.off+8) d):=fun j x hx hu=>by
     obtain⟨i,d,a⟩:=akg HV5.out.ph.rd.dl (List.mem_of_getElem? hx);exact⟨d.2,i,x,d,a,hu,rfl,rfl⟩
    have HI:Hid (∀(p:Nat) (b:List UInt8),H.Has p b->∃(j:Nat) (x:Bk),H.blks[j]?=some x/\p=x.off+8/\x.used=true):=fun p b hb=>by
     obtain⟨j,x,d,a,u,e,_⟩:=hb;exact⟨j,x,a.1,e,u⟩
    have HONE:=hE0 HV5.out.ph.rd.rt.one;clear hdc hcbl HD hmo heo hmx howr HBR HO5 HV5 HB5;go_wp2_with fail
    refine HDO.out.mono ?_;rintro e w6 ⟨⟨A6,k6,rfl,_⟩,A7,c7,b7,hv6,t6,bb6⟩;unfold rpV aeS;dsimp only at hv6 ⊢;rw[HCB.out];have hcase:=alB HVW.out.ph.rd (by rw[HCP.out];exact h2) N HDC.out hv6.ph.rd (by show H1.cap<=16384;rw[hv6.ph.cp];exact h2);rw[HMO.out]at hcase;dsimp only at hcase;obtain⟨w7,hw7,n7,b7'⟩:=aeW w6 50 (.int .i64 ck1) (.int .u64 (ch1:Int)) (.int .u64 (cn1:Int)) (.slice A6 cbl k6) (.int .i64 (sa1:Int)) (.int .i64 (sb1:Int)) (.int .i64 (sc1:Int)) (.int .i64 (sd1:Int)) (.int .i64 (se1:Int));obtain⟨⟨z0,z1,z2,z3,z4,z5,z6,z7,z8⟩,_,hz8⟩:=ad1 n7.out;have HV7:=hE0 (hv6.below b7'.out);have hB6:=HBW.out.trans (bb6.mono HB1.out.size);have HB7:=hE0 (hB6.trans (b7'.out.mono hB6.size));have HO7:Hid (w7.ownsRow w3.heap.size 112 3 (.slice A3 m c3) m (abC H.blks)):=hE0 (aaM (HVW.out.ph.ownO2 t6 (show wr.ownsRow w3.heap.size 112 3 (.slice A3 m c3) m (abC H.blks) from by rw[<-HMB.out];exact HOW.out) (by decide) (by decide) (by decide)) b7'.out);have H17:Hid (w1.heap.size<=w7.heap.size):=hE0 (by have:=b7'.out.size;have:=t6.size;have:=H1W.out;omega);clear hv6 t6 bb6 hB6 HDO HVW HOW HBW H1W;rcases hcase with⟨rfl,hHH,hno⟩ | ⟨rfl,hy1,hy2,m9,hm1,hm2,hm3⟩
    · obtain rfl:=hHH.symm;by_cases hNl:N<=16384
      · have g1:decide ((N:Int)<=16384)=true:=decide_eq_true (by omega);have g1n:decide (N<=16384)=true:=decide_eq_true hNl;have g2:decide ((N:Int)+32<=(mx:Int))=false:=decide_eq_false (by omega);have g2n:decide (N+32<=mx)=false:=decide_eq_false (by omega);go_wp2_with (first | (rw[hw7.out]) | fail)
        have HHX:Hid (∀p b,H.Has p b ↔ H.Has p b):=fun p b=>Iff.rfl;go_loopw [17] (fun i wr=>∃(j:Nat) (Hj:Hp) (Aj:Option Addr) (cj:Nat) (bj:List UInt8),i= .int .i64 (j:Int)/\j<=m/\Hv w1.heap.size wr q g 0 cap Aj cj bj Hj/\(∀p b,Hj.Has p b ↔ H.Has p b/\∀(k:Nat) (y:Bk),k<j->H.blks[k]?=some y->p≠y.off+8)/\wr.ownsRow w3.heap.size 112 3 (.slice A3 m c3) m (abC H.blks)/\Below w.heap.size w wr/\w1.heap.size<=wr.heap.size) (fun i _=>m-(intOf i).toNat)
        case atStart=>exact⟨0,H,A7,c7,b7,rfl,Nat.zero_le _,HV7.out,fun p b=>⟨fun h=>⟨(HHX.out p b).1 h,fun k y hk=>absurd hk (Nat.not_lt_zero _)⟩,fun h=>(HHX.out p b).2 h.1⟩,HO7.out,HB7.out,H17.out⟩
        case round=>
         clear HV7 HO7 HB7 H17 HHX;obtain⟨j,Hj,Aj,cj,bj,rfl,hj,hvj,hhj,hoj,hbj,h1j⟩:=hrel;have HVJ:=hE0 hvj;have HHJ:Hid (∀p b,Hj.Has p b ↔ H.Has p b/\∀(k:Nat) (y:Bk),k<j->H.blks[k]?=some y->p≠y.off+8):=hhj;have HOJ:=hE0 hoj;have HBJ:=hE0 hbj;have H1J:=hE0 h1j;clear hvj hhj hoj hbj h1j;by_cases hlt:j<m
         · obtain⟨x,hx⟩:∃x,H.blks[j]?=some x:=⟨H.blks[j]'(by rw[HMB.out];exact hlt),List.getElem?_eq_getElem _⟩;obtain⟨bb,cc,he,hblt,hnl,hnc,⟨e0,e1,e2⟩,hfz⟩:=aiq (afP HOJ.out (Nat.zero_le _)) hx;clear hnl hnc hfz;have hsz:=HSZ.out x (List.mem_of_getElem? hx);have hx6:x.off+x.size<=16384:=by have:=HLN.out;omega
           have hju:=HJ.out j x hx;have HXX:=hE0 hx;obtain⟨xo,xs,xu⟩:=x;dsimp only at e0 e1 e2 hsz hju hx6;injection he with he1 he2 he3;subst he1 he3;clear he2 hx
           cases xu with
           | true=>
            obtain⟨d,hd⟩:=hju rfl;have hhas:Hj.Has (xo+8) d:=(HHJ.out _ _).2 ⟨hd,fun k y hk hy e=>by
             have:=HONE.out k j y ⟨xo,xs,true⟩ hy HXX.out (by show y.off=xo;omega);omega⟩
            obtain⟨H2,hdo,hh2⟩:=aeV HVJ.out.ph.rd (by rw[HVJ.out.ph.cp];exact h2) hhas;have HH2:Hid (∀p b,H2.Has p b ↔ Hj.Has p b/\p≠xo+8):=hh2;obtain⟨xp,hxp⟩:=nmE (xo+8);have hxi:(xo:Int)+8=(xp:Int):=by omega
            rw[hxp]at hdo;have HD:=HVJ.out.do_ H1J.out (HE.out.below HBJ.out) HP1.out 3 (by omega) xp 0 0 0 0 0 none [] (by omega) (by omega) (by omega) (by omega) rfl Rd.nil_ (by omega) _ hdo;unfold abj at HD;have HDO:=hE0 HD;clear hju hd hhas hh2 hdo HD hxp;go_wp2_with fail
            refine HDO.out.mono ?_;rintro e w8 ⟨⟨A8,k8,rfl,_⟩,A',c',b',hv8,t8,bb8⟩;unfold rpV aeS Rp.err St5.none;dsimp only;have ho8:=HVJ.out.ph.ownO2 t8 HOJ.out (by decide) (by decide) (by decide);have HF:Hid (Hv w1.heap.size w8 q g 0 cap A' c' b' H2/\w8.ownsRow w3.heap.size 112 3 (.slice (some ⟨bb,0,none⟩) m c3) m (abC H.blks)/\Below w.heap.size w w8/\w1.heap.size<=w8.heap.size):=⟨hv8,ho8,HBJ.out.trans (bb8.mono HB1.out.size),Nat.le_trans H1J.out t8.size⟩;clear hv8 t8 bb8 ho8 e0 e1 e2 hxi;have q9:=aiN w8 (.int .i64 0) (.int .u64 0) (.int .u64 0) (.slice A8 0 k8) (.int .i64 0) (.int .i64 0) (.int .i64 0) (.int .i64 0) (.int .i64 0);go_wp2_with fail
            clear q9;go_roundw
            case rel=>
             refine⟨j+1,H2,A',c',b',by go_num,by omega,HF.out.1,fun p b=> ?_,HF.out.2.1,HF.out.2.2.1,HF.out.2.2.2⟩;rw[HH2.out,HHJ.out];constructor
             · rintro⟨⟨a1,a2⟩,a3⟩;refine⟨a1,fun k y hk hy=> ?_⟩;by_cases e:k=j
               · subst e;rw[HXX.out]at hy;injection hy with hy;subst hy;exact a3
               · exact a2 k y (by omega) hy
             · rintro⟨a1,a2⟩;exact⟨⟨a1,fun k y hk hy=>a2 k y (by omega) hy⟩,a2 j _ (by omega) HXX.out⟩
            case measure=>simp only[intOf];omega
           | false=>
            clear hju;go_wp2_with fail
            go_roundw
            case rel=>
             refine⟨j+1,Hj,Aj,cj,bj,by go_num,by omega,HVJ.out,fun p b=> ?_,HOJ.out,HBJ.out,H1J.out⟩;rw[HHJ.out];constructor
             · rintro⟨a1,a2⟩;refine⟨a1,fun k y hk hy e=> ?_⟩;by_cases e':k=j
               · subst e';rw[HXX.out]at hy;injection hy with hy;subst hy;obtain⟨k2,x2,hx2,hp2,hu2⟩:=HI.out p b a1;have:=HONE.out k2 k x2 _ hx2 HXX.out (by show x2.off=xo;have:p=xo+8:=e;omega);subst this;rw[HXX.out]at hx2;injection hx2 with hx2;rw[<-hx2]at hu2
                 cases hu2
               · exact a2 k y (by omega) hy e
             · rintro⟨a1,a2⟩;exact⟨a1,fun k y hk hy=>a2 k y (by omega) hy⟩
            case measure=>simp only[intOf];omega
         · obtain rfl:m=j:=by omega
           have hno:∀p b,¬Hj.Has p b:=fun p b hb=>by
            obtain⟨a1,a2⟩:=(HHJ.out p b).1 hb;obtain⟨k2,x2,hx2,hp2,hu2⟩:=HI.out p b a1;exact a2 k2 x2 (by have:=aaG hx2;rw[HMB.out]at this;exact this) hx2 hp2
           have hst:=abK HVJ.out.ph;obtain⟨st,hst2⟩:=nmE Hj.stats;obtain⟨fs1,fs2⟩:=afh HVJ.out.ph.rd hno;rw[hst2]at hst fs1 fs2;obtain⟨su,sf,sb,sl,sc⟩:=st;unfold stV at hst;dsimp only at hst fs1 fs2;have FS1:=hE0 fs1;clear fs1;have HST:=hE0 hst;have HNO:Hid (∀p b,¬Hj.Has p b):=hno;clear hst hst2 hno;go_wp2_with fail
           refine HST.out.mono ?_;rintro e w8 ⟨rfl,hb8⟩;obtain⟨w9,hw9,n9,b9⟩:=aqq w8 48 (.int .i64 (su:Int)) (.int .i64 (sf:Int)) (.int .i64 (sb:Int)) (.int .i64 (sl:Int)) (.int .i64 (sc:Int));have hv9:=(HVJ.out.below hb8).below b9.out;have hB8:=HBJ.out.trans (hb8.mono HBJ.out.size);have hB9:=hB8.trans (b9.out.mono hB8.size);obtain⟨mm,hmm⟩:=nmE ((cap-184)/16*16-16);obtain⟨wq,hwq⟩:=nmE ((cap-184)/16);have hq1:((cap:Int)-184)/16=(wq:Int):=by omega
           have hq2:(wq:Int)*16-16=(mm:Int):=by omega
           have hwq3:52<=wq/\wq<=1013:=by omega
           obtain⟨dc,hdc⟩:=nmE (Hj.doC ((1:Nat):Int) 0 mm 0 0 []);have HD:=hv9.do_ (by have:=H1J.out;have:=hb8.size;have:=b9.out.size;omega) (HE.out.below hB9) HP1.out 1 (by omega) 0 mm 0 0 0 0 none [] (by omega) (by omega) (by omega) (by omega) rfl Rd.nil_ (by omega) dc hdc;obtain⟨⟨ck5,ch5,cn5,cb5,⟨sa5,sb5,sc5,sd5,se5⟩⟩,H5⟩:=dc;unfold abj at HD;dsimp only at HD;obtain⟨cbm,hcbm⟩:=nmE cb5.length;have HCM:=hE0 hcbm;have HDO:=hE0 HD;have HDC5:=hE0 hdc;have HMM:=hE0 hmm;have HB9:=hE0 hB9;have HV9:=hE0 hv9;have HPW9:=hE0 n9.out;clear hb8 hB8 hB9 hv9 hdc hcbm HD HST hmm hwq;go_wp2_with (first | (rw[hw9.out]) | fail)
           refine HDO.out.mono ?_;rintro e w10 ⟨⟨A10,k10,rfl,_⟩,A',c',b',hv10,t10,bb10⟩;unfold rpV aeS;dsimp only at hv10 ⊢;rw[HCM.out];obtain⟨y1,y2⟩:=afi HVJ.out.ph.rd (by rw[HVJ.out.ph.cp];exact h2) (by rw[HVJ.out.ph.cp];exact h1) HNO.out (by rw[HVJ.out.ph.cp];exact HMM.out) HDC5.out hv10.ph.rd (by rw[hv10.ph.cp,HVJ.out.ph.cp]);dsimp only at y1 y2;subst y1;obtain⟨w11,hw11,n11,b11⟩:=aeW w10 50 (.int .i64 0) (.int .u64 (ch5:Int)) (.int .u64 (cn5:Int)) (.slice A10 cbm k10) (.int .i64 (sa5:Int)) (.int .i64 (sb5:Int)) (.int .i64 (sc5:Int)) (.int .i64 (sd5:Int)) (.int .i64 (se5:Int));have hv11:=hv10.below b11.out;have n10:=HV9.out.ph.locO t10 HPW9.out (by decide) (by decide) (by decide);have n11':=(b11.out.block _ (aab n10)).trans n10;have hB10:=HB9.out.trans (bb10.mono HB1.out.size);have HB11:=hE0 (hB10.trans (b11.out.mono hB10.size));obtain⟨⟨s0,s1,s2,s3,s4⟩,_,hls⟩:=aqp n11';obtain⟨⟨z0,z1,z2,z3,z4,z5,z6,z7,z8⟩,_,hz8⟩:=ad1 n11.out;have hst:=abK hv11.ph;obtain⟨st,hst2⟩:=nmE H5.stats;rw[hst2]at hst y2;obtain⟨tu,tf,tb,tl,tc⟩:=st;unfold stV at hst;dsimp only at hst y2;have HY2:=hE0 y2;have HST:=hE0 hst;have gs0:((su:Int)==0)=true:=by rw[FS1.out];rfl
           have gs1:decide ((sf:Int)<=1)=true:=decide_eq_true (by omega);clear hv10 t10 bb10 y2 hv11 n10 n11' hB10 hst hst2 HDO HV9 HB9;go_wp2_with (first | (rw[hw11.out]) | fail)
           refine HST.out.mono ?_;rintro e w12 ⟨rfl,hb12⟩;have HB12:=hE0 (HB11.out.trans (hb12.mono HB11.out.size));have q9:=alC w12 (.int .i64 (tu:Int)) (.int .i64 (tf:Int)) (.int .i64 (tb:Int)) (.int .i64 (tl:Int)) (.int .i64 (tc:Int));have gtb:((tb:Int)==(mm:Int))=true:=by rw[HY2.out,beq_self_eq_true]
           clear hb12 HST;go_wp2_with fail
           go_ret
           exact⟨rfl,HB12.out⟩
      · have g1:decide ((N:Int)<=16384)=false:=decide_eq_false (by omega);have g1n:decide (N<=16384)=false:=decide_eq_false hNl;go_wp2_with (first | (rw[hw7.out]) | fail)
        have HHX:Hid (∀p b,H.Has p b ↔ H.Has p b):=fun p b=>Iff.rfl;go_loopw [17] (fun i wr=>∃(j:Nat) (Hj:Hp) (Aj:Option Addr) (cj:Nat) (bj:List UInt8),i= .int .i64 (j:Int)/\j<=m/\Hv w1.heap.size wr q g 0 cap Aj cj bj Hj/\(∀p b,Hj.Has p b ↔ H.Has p b/\∀(k:Nat) (y:Bk),k<j->H.blks[k]?=some y->p≠y.off+8)/\wr.ownsRow w3.heap.size 112 3 (.slice A3 m c3) m (abC H.blks)/\Below w.heap.size w wr/\w1.heap.size<=wr.heap.size) (fun i _=>m-(intOf i).toNat)
        case atStart=>exact⟨0,H,A7,c7,b7,rfl,Nat.zero_le _,HV7.out,fun p b=>⟨fun h=>⟨(HHX.out p b).1 h,fun k y hk=>absurd hk (Nat.not_lt_zero _)⟩,fun h=>(HHX.out p b).2 h.1⟩,HO7.out,HB7.out,H17.out⟩
        case round=>
         clear HV7 HO7 HB7 H17 HHX;obtain⟨j,Hj,Aj,cj,bj,rfl,hj,hvj,hhj,hoj,hbj,h1j⟩:=hrel;have HVJ:=hE0 hvj;have HHJ:Hid (∀p b,Hj.Has p b ↔ H.Has p b/\∀(k:Nat) (y:Bk),k<j->H.blks[k]?=some y->p≠y.off+8):=hhj;have HOJ:=hE0 hoj;have HBJ:=hE0 hbj;have H1J:=hE0 h1j;clear hvj hhj hoj hbj h1j;by_cases hlt:j<m
         · obtain⟨x,hx⟩:∃x,H.blks[j]?=some x:=⟨H.blks[j]'(by rw[HMB.out];exact hlt),List.getElem?_eq_getElem _⟩;obtain⟨bb,cc,he,hblt,hnl,hnc,⟨e0,e1,e2⟩,hfz⟩:=aiq (afP HOJ.out (Nat.zero_le _)) hx;clear hnl hnc hfz;have hsz:=HSZ.out x (List.mem_of_getElem? hx);have hx6:x.off+x.size<=16384:=by have:=HLN.out;omega
           have hju:=HJ.out j x hx;have HXX:=hE0 hx;obtain⟨xo,xs,xu⟩:=x;dsimp only at e0 e1 e2 hsz hju hx6;injection he with he1 he2 he3;subst he1 he3;clear he2 hx
           cases xu with
           | true=>
            obtain⟨d,hd⟩:=hju rfl;have hhas:Hj.Has (xo+8) d:=(HHJ.out _ _).2 ⟨hd,fun k y hk hy e=>by
             have:=HONE.out k j y ⟨xo,xs,true⟩ hy HXX.out (by show y.off=xo;omega);omega⟩
            obtain⟨H2,hdo,hh2⟩:=aeV HVJ.out.ph.rd (by rw[HVJ.out.ph.cp];exact h2) hhas;have HH2:Hid (∀p b,H2.Has p b ↔ Hj.Has p b/\p≠xo+8):=hh2;obtain⟨xp,hxp⟩:=nmE (xo+8);have hxi:(xo:Int)+8=(xp:Int):=by omega
            rw[hxp]at hdo;have HD:=HVJ.out.do_ H1J.out (HE.out.below HBJ.out) HP1.out 3 (by omega) xp 0 0 0 0 0 none [] (by omega) (by omega) (by omega) (by omega) rfl Rd.nil_ (by omega) _ hdo;unfold abj at HD;have HDO:=hE0 HD;clear hju hd hhas hh2 hdo HD hxp;go_wp2_with fail
            refine HDO.out.mono ?_;rintro e w8 ⟨⟨A8,k8,rfl,_⟩,A',c',b',hv8,t8,bb8⟩;unfold rpV aeS Rp.err St5.none;dsimp only;have ho8:=HVJ.out.ph.ownO2 t8 HOJ.out (by decide) (by decide) (by decide);have HF:Hid (Hv w1.heap.size w8 q g 0 cap A' c' b' H2/\w8.ownsRow w3.heap.size 112 3 (.slice (some ⟨bb,0,none⟩) m c3) m (abC H.blks)/\Below w.heap.size w w8/\w1.heap.size<=w8.heap.size):=⟨hv8,ho8,HBJ.out.trans (bb8.mono HB1.out.size),Nat.le_trans H1J.out t8.size⟩;clear hv8 t8 bb8 ho8 e0 e1 e2 hxi;have q9:=aiN w8 (.int .i64 0) (.int .u64 0) (.int .u64 0) (.slice A8 0 k8) (.int .i64 0) (.int .i64 0) (.int .i64 0) (.int .i64 0) (.int .i64 0);go_wp2_with fail
            clear q9;go_roundw
            case rel=>
             refine⟨j+1,H2,A',c',b',by go_num,by omega,HF.out.1,fun p b=> ?_,HF.out.2.1,HF.out.2.2.1,HF.out.2.2.2⟩;rw[HH2.out,HHJ.out];constructor
             · rintro⟨⟨a1,a2⟩,a3⟩;refine⟨a1,fun k y hk hy=> ?_⟩;by_cases e:k=j
               · subst e;rw[HXX.out]at hy;injection hy with hy;subst hy;exact a3
               · exact a2 k y (by omega) hy
             · rintro⟨a1,a2⟩;exact⟨⟨a1,fun k y hk hy=>a2 k y (by omega) hy⟩,a2 j _ (by omega) HXX.out⟩
            case measure=>simp only[intOf];omega
           | false=>
            clear hju;go_wp2_with fail
            go_roundw
            case rel=>
             refine⟨j+1,Hj,Aj,cj,bj,by go_num,by omega,HVJ.out,fun p b=> ?_,HOJ.out,HBJ.out,H1J.out⟩;rw[HHJ.out];constructor
             · rintro⟨a1,a2⟩;refine⟨a1,fun k y hk hy e=> ?_⟩;by_cases e':k=j
               · subst e';rw[HXX.out]at hy;injection hy with hy;subst hy;obtain⟨k2,x2,hx2,hp2,hu2⟩:=HI.out p b a1;have:=HONE.out k2 k x2 _ hx2 HXX.out (by show x2.off=xo;have:p=xo+8:=e;omega);subst this;rw[HXX.out]at hx2;injection hx2 with hx2;rw[<-hx2]at hu2
                 cases hu2
               · exact a2 k y (by omega) hy e
             · rintro⟨a1,a2⟩;exact⟨a1,fun k y hk hy=>a2 k y (by omega) hy⟩
            case measure=>simp only[intOf];omega
         · obtain rfl:m=j:=by omega
           have hno:∀p b,¬Hj.Has p b:=fun p b hb=>by
            obtain⟨a1,a2⟩:=(HHJ.out p b).1 hb;obtain⟨k2,x2,hx2,hp2,hu2⟩:=HI.out p b a1;exact a2 k2 x2 (by have:=aaG hx2;rw[HMB.out]at this;exact this) hx2 hp2
           have hst:=abK HVJ.out.ph;obtain⟨st,hst2⟩:=nmE Hj.stats;obtain⟨fs1,fs2⟩:=afh HVJ.out.ph.rd hno;rw[hst2]at hst fs1 fs2;obtain⟨su,sf,sb,sl,sc⟩:=st;unfold stV at hst;dsimp only at hst fs1 fs2;have FS1:=hE0 fs1;clear fs1;have HST:=hE0 hst;have HNO:Hid (∀p b,¬Hj.Has p b):=hno;clear hst hst2 hno;go_wp2_with fail
           refine HST.out.mono ?_;rintro e w8 ⟨rfl,hb8⟩;obtain⟨w9,hw9,n9,b9⟩:=aqq w8 48 (.int .i64 (su:Int)) (.int .i64 (sf:Int)) (.int .i64 (sb:Int)) (.int .i64 (sl:Int)) (.int .i64 (sc:Int));have hv9:=(HVJ.out.below hb8).below b9.out;have hB8:=HBJ.out.trans (hb8.mono HBJ.out.size);have hB9:=hB8.trans (b9.out.mono hB8.size);obtain⟨mm,hmm⟩:=nmE ((cap-184)/16*16-16);obtain⟨wq,hwq⟩:=nmE ((cap-184)/16);have hq1:((cap:Int)-184)/16=(wq:Int):=by omega
           have hq2:(wq:Int)*16-16=(mm:Int):=by omega
           have hwq3:52<=wq/\wq<=1013:=by omega
           obtain⟨dc,hdc⟩:=nmE (Hj.doC ((1:Nat):Int) 0 mm 0 0 []);have HD:=hv9.do_ (by have:=H1J.out;have:=hb8.size;have:=b9.out.size;omega) (HE.out.below hB9) HP1.out 1 (by omega) 0 mm 0 0 0 0 none [] (by omega) (by omega) (by omega) (by omega) rfl Rd.nil_ (by omega) dc hdc;obtain⟨⟨ck5,ch5,cn5,cb5,⟨sa5,sb5,sc5,sd5,se5⟩⟩,H5⟩:=dc;unfold abj at HD;dsimp only at HD;obtain⟨cbm,hcbm⟩:=nmE cb5.length;have HCM:=hE0 hcbm;have HDO:=hE0 HD;have HDC5:=hE0 hdc;have HMM:=hE0 hmm;have HB9:=hE0 hB9;have HV9:=hE0 hv9;have HPW9:=hE0 n9.out;clear hb8 hB8 hB9 hv9 hdc hcbm HD HST hmm hwq;go_wp2_with (first | (rw[hw9.out]) | fail)
           refine HDO.out.mono ?_;rintro e w10 ⟨⟨A10,k10,rfl,_⟩,A',c',b',hv10,t10,bb10⟩;unfold rpV aeS;dsimp only at hv10 ⊢;rw[HCM.out];obtain⟨y1,y2⟩:=afi HVJ.out.ph.rd (by rw[HVJ.out.ph.cp];exact h2) (by rw[HVJ.out.ph.cp];exact h1) HNO.out (by rw[HVJ.out.ph.cp];exact HMM.out) HDC5.out hv10.ph.rd (by rw[hv10.ph.cp,HVJ.out.ph.cp]);dsimp only at y1 y2;subst y1;obtain⟨w11,hw11,n11,b11⟩:=aeW w10 50 (.int .i64 0) (.int .u64 (ch5:Int)) (.int .u64 (cn5:Int)) (.slice A10 cbm k10) (.int .i64 (sa5:Int)) (.int .i64 (sb5:Int)) (.int .i64 (sc5:Int)) (.int .i64 (sd5:Int)) (.int .i64 (se5:Int));have hv11:=hv10.below b11.out;have n10:=HV9.out.ph.locO t10 HPW9.out (by decide) (by decide) (by decide);have n11':=(b11.out.block _ (aab n10)).trans n10;have hB10:=HB9.out.trans (bb10.mono HB1.out.size);have HB11:=hE0 (hB10.trans (b11.out.mono hB10.size));obtain⟨⟨s0,s1,s2,s3,s4⟩,_,hls⟩:=aqp n11';obtain⟨⟨z0,z1,z2,z3,z4,z5,z6,z7,z8⟩,_,hz8⟩:=ad1 n11.out;have hst:=abK hv11.ph;obtain⟨st,hst2⟩:=nmE H5.stats;rw[hst2]at hst y2;obtain⟨tu,tf,tb,tl,tc⟩:=st;unfold stV at hst;dsimp only at hst y2;have HY2:=hE0 y2;have HST:=hE0 hst;have gs0:((su:Int)==0)=true:=by rw[FS1.out];rfl
           have gs1:decide ((sf:Int)<=1)=true:=decide_eq_true (by omega);clear hv10 t10 bb10 y2 hv11 n10 n11' hB10 hst hst2 HDO HV9 HB9;go_wp2_with (first | (rw[hw11.out]) | fail)
           refine HST.out.mono ?_;rintro e w12 ⟨rfl,hb12⟩;have HB12:=hE0 (HB11.out.trans (hb12.mono HB11.out.size));have q9:=alC w12 (.int .i64 (tu:Int)) (.int .i64 (tf:Int)) (.int .i64 (tb:Int)) (.int .i64 (tl:Int)) (.int .i64 (tc:Int));have gtb:((tb:Int)==(mm:Int))=true:=by rw[HY2.out,beq_self_eq_true]
           clear hb12 HST;go_wp2_with fail
           go_ret
           exact⟨rfl,HB12.out⟩
    · obtain⟨H2,hdo,hh2⟩:=aeV HV7.out.ph.rd (by rw[HV7.out.ph.cp];exact h2) hm2;have HHX:Hid (∀p b,H2.Has p b ↔ H.Has p b):=fun p b=>by
       rw[hh2,hm3];constructor
       · rintro⟨⟨a1,_⟩ | a1,a2⟩
         · exact absurd a1 a2
         · exact a1
       · intro a1;exact⟨.inr a1,fun e=>hm1 b (by rw[<-e];exact a1)⟩
      have HD:=HV7.out.do_ H17.out (HE.out.below HB7.out) HP1.out 3 (by omega) ch1 0 0 0 0 0 none [] hch (by omega) (by omega) (by omega) rfl Rd.nil_ (by omega) _ hdo;unfold abj at HD;have HDO:=hE0 HD;have g1:decide ((mx:Int)<(N:Int)+16)=false:=decide_eq_false (by omega);have g1n:decide (mx<N+16)=false:=decide_eq_false (by omega);clear hh2 hm1 hm2 hm3 hdo HD;go_wp2_with (first | (rw[hw7.out]) | fail)
      refine HDO.out.mono ?_;rintro e w9 ⟨⟨A8,k8,rfl,_⟩,A9,c9,b9,hv9,t9,bb9⟩;unfold rpV aeS Rp.err St5.none;dsimp only;simp only[Int.natCast_zero,List.length_nil];have HV9x:Hid (Hv w1.heap.size w9 q g 0 cap A9 c9 b9 H2):=hv9;have HO9x:=hE0 (HV7.out.ph.ownO2 t9 HO7.out (by decide) (by decide) (by decide));have HB9x:=hE0 (HB7.out.trans (bb9.mono HB1.out.size));have H19x:=hE0 (Nat.le_trans H17.out t9.size);clear hv9 t9 bb9 HDO HV7 HO7 HB7 H17 z0 z1 z2 z3 z4 z5 z6 z7 z8 g1 g1n;have q9:=aiN w9 (.int .i64 0) (.int .u64 0) (.int .u64 0) (.slice A8 0 k8) (.int .i64 0) (.int .i64 0) (.int .i64 0) (.int .i64 0) (.int .i64 0);go_wp2_with fail
      clear q9;go_loopw [17] (fun i wr=>∃(j:Nat) (Hj:Hp) (Aj:Option Addr) (cj:Nat) (bj:List UInt8),i= .int .i64 (j:Int)/\j<=m/\Hv w1.heap.size wr q g 0 cap Aj cj bj Hj/\(∀p b,Hj.Has p b ↔ H.Has p b/\∀(k:Nat) (y:Bk),k<j->H.blks[k]?=some y->p≠y.off+8)/\wr.ownsRow w3.heap.size 112 3 (.slice A3 m c3) m (abC H.blks)/\Below w.heap.size w wr/\w1.heap.size<=wr.heap.size) (fun i _=>m-(intOf i).toNat)
      case atStart=>exact⟨0,H2,A9,c9,b9,rfl,Nat.zero_le _,HV9x.out,fun p b=>⟨fun h=>⟨(HHX.out p b).1 h,fun k y hk=>absurd hk (Nat.not_lt_zero _)⟩,fun h=>(HHX.out p b).2 h.1⟩,HO9x.out,HB9x.out,H19x.out⟩
      case round=>
       clear HV9x HO9x HB9x H19x HHX;obtain⟨j,Hj,Aj,cj,bj,rfl,hj,hvj,hhj,hoj,hbj,h1j⟩:=hrel;have HVJ:=hE0 hvj;have HHJ:Hid (∀p b,Hj.Has p b ↔ H.Has p b/\∀(k:Nat) (y:Bk),k<j->H.blks[k]?=some y->p≠y.off+8):=hhj;have HOJ:=hE0 hoj;have HBJ:=hE0 hbj;have H1J:=hE0 h1j;clear hvj hhj hoj hbj h1j;by_cases hlt:j<m
       · obtain⟨x,hx⟩:∃x,H.blks[j]?=some x:=⟨H.blks[j]'(by rw[HMB.out];exact hlt),List.getElem?_eq_getElem _⟩;obtain⟨bb,cc,he,hblt,hnl,hnc,⟨e0,e1,e2⟩,hfz⟩:=aiq (afP HOJ.out (Nat.zero_le _)) hx;clear hnl hnc hfz;have hsz:=HSZ.out x (List.mem_of_getElem? hx);have hx6:x.off+x.size<=16384:=by have:=HLN.out;omega
         have hju:=HJ.out j x hx;have HXX:=hE0 hx;obtain⟨xo,xs,xu⟩:=x;dsimp only at e0 e1 e2 hsz hju hx6;injection he with he1 he2 he3;subst he1 he3;clear he2 hx
         cases xu with
         | true=>
          obtain⟨d,hd⟩:=hju rfl;have hhas:Hj.Has (xo+8) d:=(HHJ.out _ _).2 ⟨hd,fun k y hk hy e=>by
           have:=HONE.out k j y ⟨xo,xs,true⟩ hy HXX.out (by show y.off=xo;omega);omega⟩
          obtain⟨H2,hdo,hh2⟩:=aeV HVJ.out.ph.rd (by rw[HVJ.out.ph.cp];exact h2) hhas;have HH2:Hid (∀p b,H2.Has p b ↔ Hj.Has p b/\p≠xo+8):=hh2;obtain⟨xp,hxp⟩:=nmE (xo+8);have hxi:(xo:Int)+8=(xp:Int):=by omega
          rw[hxp]at hdo;have HD:=HVJ.out.do_ H1J.out (HE.out.below HBJ.out) HP1.out 3 (by omega) xp 0 0 0 0 0 none [] (by omega) (by omega) (by omega) (by omega) rfl Rd.nil_ (by omega) _ hdo;unfold abj at HD;have HDO:=hE0 HD;clear hju hd hhas hh2 hdo HD hxp;go_wp2_with fail
          refine HDO.out.mono ?_;rintro e w8 ⟨⟨A8,k8,rfl,_⟩,A',c',b',hv8,t8,bb8⟩;unfold rpV aeS Rp.err St5.none;dsimp only;have ho8:=HVJ.out.ph.ownO2 t8 HOJ.out (by decide) (by decide) (by decide);have HF:Hid (Hv w1.heap.size w8 q g 0 cap A' c' b' H2/\w8.ownsRow w3.heap.size 112 3 (.slice (some ⟨bb,0,none⟩) m c3) m (abC H.blks)/\Below w.heap.size w w8/\w1.heap.size<=w8.heap.size):=⟨hv8,ho8,HBJ.out.trans (bb8.mono HB1.out.size),Nat.le_trans H1J.out t8.size⟩;clear hv8 t8 bb8 ho8 e0 e1 e2 hxi;have q9:=aiN w8 (.int .i64 0) (.int .u64 0) (.int .u64 0) (.slice A8 0 k8) (.int .i64 0) (.int .i64 0) (.int .i64 0) (.int .i64 0) (.int .i64 0);go_wp2_with fail
          clear q9;go_roundw
          case rel=>
           refine⟨j+1,H2,A',c',b',by go_num,by omega,HF.out.1,fun p b=> ?_,HF.out.2.1,HF.out.2.2.1,HF.out.2.2.2⟩;rw[HH2.out,HHJ.out];constructor
           · rintro⟨⟨a1,a2⟩,a3⟩;refine⟨a1,fun k y hk hy=> ?_⟩;by_cases e:k=j
             · subst e;rw[HXX.out]at hy;injection hy with hy;subst hy;exact a3
             · exact a2 k y (by omega) hy
           · rintro⟨a1,a2⟩;exact⟨⟨a1,fun k y hk hy=>a2 k y (by omega) hy⟩,a2 j _ (by omega) HXX.out⟩
          case measure=>simp only[intOf];omega
         | false=>
          clear hju;go_wp2_with fail
          go_roundw
          case rel=>
           refine⟨j+1,Hj,Aj,cj,bj,by go_num,by omega,HVJ.out,fun p b=> ?_,HOJ.out,HBJ.out,H1J.out⟩;rw[HHJ.out];constructor
           · rintro⟨a1,a2⟩;refine⟨a1,fun k y hk hy e=> ?_⟩;by_cases e':k=j
             · subst e';rw[HXX.out]at hy;injection hy with hy;subst hy;obtain⟨k2,x2,hx2,hp2,hu2⟩:=HI.out p b a1;have:=HONE.out k2 k x2 _ hx2 HXX.out (by show x2.off=xo;have:p=xo+8:=e;omega);subst this;rw[HXX.out]at hx2;injection hx2 with hx2;rw[<-hx2]at hu2
               cases hu2
             · exact a2 k y (by omega) hy e
           · rintro⟨a1,a2⟩;exact⟨a1,fun k y hk hy=>a2 k y (by omega) hy⟩
          case measure=>simp only[intOf];omega
       · obtain rfl:m=j:=by omega
         have hno:∀p b,¬Hj.Has p b:=fun p b hb=>by
          obtain⟨a1,a2⟩:=(HHJ.out p b).1 hb;obtain⟨k2,x2,hx2,hp2,hu2⟩:=HI.out p b a1;exact a2 k2 x2 (by have:=aaG hx2;rw[HMB.out]at this;exact this) hx2 hp2
         have hst:=abK HVJ.out.ph;obtain⟨st,hst2⟩:=nmE Hj.stats;obtain⟨fs1,fs2⟩:=afh HVJ.out.ph.rd hno;rw[hst2]at hst fs1 fs2;obtain⟨su,sf,sb,sl,sc⟩:=st;unfold stV at hst;dsimp only at hst fs1 fs2;have FS1:=hE0 fs1;clear fs1;have HST:=hE0 hst;have HNO:Hid (∀p b,¬Hj.Has p b):=hno;clear hst hst2 hno;go_wp2_with fail
         refine HST.out.mono ?_;rintro e w8 ⟨rfl,hb8⟩;obtain⟨w9,hw9,n9,b9⟩:=aqq w8 48 (.int .i64 (su:Int)) (.int .i64 (sf:Int)) (.int .i64 (sb:Int)) (.int .i64 (sl:Int)) (.int .i64 (sc:Int));have hv9:=(HVJ.out.below hb8).below b9.out;have hB8:=HBJ.out.trans (hb8.mono HBJ.out.size);have hB9:=hB8.trans (b9.out.mono hB8.size);obtain⟨mm,hmm⟩:=nmE ((cap-184)/16*16-16);obtain⟨wq,hwq⟩:=nmE ((cap-184)/16);have hq1:((cap:Int)-184)/16=(wq:Int):=by omega
         have hq2:(wq:Int)*16-16=(mm:Int):=by omega
         have hwq3:52<=wq/\wq<=1013:=by omega
         obtain⟨dc,hdc⟩:=nmE (Hj.doC ((1:Nat):Int) 0 mm 0 0 []);have HD:=hv9.do_ (by have:=H1J.out;have:=hb8.size;have:=b9.out.size;omega) (HE.out.below hB9) HP1.out 1 (by omega) 0 mm 0 0 0 0 none [] (by omega) (by omega) (by omega) (by omega) rfl Rd.nil_ (by omega) dc hdc;obtain⟨⟨ck5,ch5,cn5,cb5,⟨sa5,sb5,sc5,sd5,se5⟩⟩,H5⟩:=dc;unfold abj at HD;dsimp only at HD;obtain⟨cbm,hcbm⟩:=nmE cb5.length;have HCM:=hE0 hcbm;have HDO:=hE0 HD;have HDC5:=hE0 hdc;have HMM:=hE0 hmm;have HB9:=hE0 hB9;have HV9:=hE0 hv9;have HPW9:=hE0 n9.out;clear hb8 hB8 hB9 hv9 hdc hcbm HD HST hmm hwq;go_wp2_with (first | (rw[hw9.out]) | fail)
         refine HDO.out.mono ?_;rintro e w10 ⟨⟨A10,k10,rfl,_⟩,A',c',b',hv10,t10,bb10⟩;unfold rpV aeS;dsimp only at hv10 ⊢;rw[HCM.out];obtain⟨y1,y2⟩:=afi HVJ.out.ph.rd (by rw[HVJ.out.ph.cp];exact h2) (by rw[HVJ.out.ph.cp];exact h1) HNO.out (by rw[HVJ.out.ph.cp];exact HMM.out) HDC5.out hv10.ph.rd (by rw[hv10.ph.cp,HVJ.out.ph.cp]);dsimp only at y1 y2;subst y1;obtain⟨w11,hw11,n11,b11⟩:=aeW w10 50 (.int .i64 0) (.int .u64 (ch5:Int)) (.int .u64 (cn5:Int)) (.slice A10 cbm k10) (.int .i64 (sa5:Int)) (.int .i64 (sb5:Int)) (.int .i64 (sc5:Int)) (.int .i64 (sd5:Int)) (.int .i64 (se5:Int));have hv11:=hv10.below b11.out;have n10:=HV9.out.ph.locO t10 HPW9.out (by decide) (by decide) (by decide);have n11':=(b11.out.block _ (aab n10)).trans n10;have hB10:=HB9.out.trans (bb10.mono HB1.out.size);have HB11:=hE0 (hB10.trans (b11.out.mono hB10.size));obtain⟨⟨s0,s1,s2,s3,s4⟩,_,hls⟩:=aqp n11';obtain⟨⟨z0,z1,z2,z3,z4,z5,z6,z7,z8⟩,_,hz8⟩:=ad1 n11.out;have hst:=abK hv11.ph;obtain⟨st,hst2⟩:=nmE H5.stats;rw[hst2]at hst y2;obtain⟨tu,tf,tb,tl,tc⟩:=st;unfold stV at hst;dsimp only at hst y2;have HY2:=hE0 y2;have HST:=hE0 hst;have gs0:((su:Int)==0)=true:=by rw[FS1.out];rfl
         have gs1:decide ((sf:Int)<=1)=true:=decide_eq_true (by omega);clear hv10 t10 bb10 y2 hv11 n10 n11' hB10 hst hst2 HDO HV9 HB9;go_wp2_with (first | (rw[hw11.out]) | fail)
         refine HST.out.mono ?_;rintro e w12 ⟨rfl,hb12⟩;have HB12:=hE0 (HB11.out.trans (hb12.mono HB11.out.size));have q9:=alC w12 (.int .i64 (tu:Int)) (.int .i64 (tf:Int)) (.int .i64 (tb:Int)) (.int .i64 (tl:Int)) (.int .i64 (tc:Int));have gtb:((tb:Int)==(mm:Int))=true:=by rw[HY2.out,beq_self_eq_true]
         clear hb12 HST;go_wp2_with fail
         go_ret
         exact⟨rfl,HB12.out⟩
theorem auC (w:World) (hE:ET w) (cap:Int) (hc: -9223372036854775808<=cap/\cap<=9223372036854775807) (A:Option Addr) (k:Nat) (l:List Cl) (hL:ClRd w w.heap.size A l) (hm:l.length<=maxLen) (N:Nat) (hN:N<18446744073709551616):
 Calls Tryz.prog 9 #[.int .i64 cap, .slice A l.length k, .int .u64 (N:Int)] w fun e w'=>e= .returned (.bool true)/\Below w.heap.size w w':=by
 by_cases hb:cap<1024\/16384<cap
 · exact auB w hE cap hc hb A l.length k N
 · obtain⟨c,rfl⟩:∃c:Nat,cap=(c:Int):=⟨cap.toNat,by omega⟩
   cases hs:acT l 80 with
   | true=>exact atE w hE c (by omega) (by omega) A k l hL hs N hN
   | false=>exact atD w hE c (by omega) (by omega) A k l hL hm hs N
end Go.Proofs.YtncadccbepjekaaGreatDoor
