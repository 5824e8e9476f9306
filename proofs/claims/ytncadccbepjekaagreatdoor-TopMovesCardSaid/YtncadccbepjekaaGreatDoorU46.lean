/- Texts of mine, joined. -/
import Derived.Test.YtncadccbepjekaaGreatDoorU40
import Derived.Test.YtncadccbepjekaaGreatDoorU43
set_option maxRecDepth 100000
set_option maxHeartbeats 8000000
namespace Go.Proofs.YtncadccbepjekaaGreatDoor
open Go.RowKit
def acv (p:Nat) (b:List UInt8) (s:Dst):Nat × Dst:=andThen (adS s p b) dfl
def av6 (p:Nat) (b rec:List UInt8) (s:Dst):Nat × Dst:=andThen (andThen (acv p (List.replicate 512 0) s) (acv (p+1) b)) (acv p rec)
theorem aow (p:Nat) (b rec:List UInt8) (hr:rec.length=512) (s:Dst):av6 p b rec s=abb p b rec s:=by
 unfold av6 abb acv;rw[ane p _ List.length_replicate];by_cases h1:(dwr s p (List.replicate 512 0)).1=0
 · simp only[aao h1];by_cases h2:(dfl (dwr s p (List.replicate 512 0)).2).1=0
   · simp only[aao h2];by_cases h3:(adS (dfl (dwr s p (List.replicate 512 0)).2).2 (p+1) b).1=0
     · simp only[aao h3];by_cases h4:(dfl (adS (dfl (dwr s p (List.replicate 512 0)).2).2 (p+1) b).2).1=0
       · simp only[aao h4];rw[ane p _ hr]
       · simp only[aaN h4]
     · simp only[aaN h3]
   · simp only[aaN h2]
 · simp only[aaN h1]
theorem akV (p:Nat) (b:List UInt8) (s:Dst):(acv p b s).2.wt.length<=s.wt.length+need b.length/\(acv p b s).2.left<=s.left:=by
 have h1:=aud s p b;unfold acv;by_cases h:(adS s p b).1=0
 · rw[aao h];have h2:=avc (adS s p b).2;omega
 · rw[aaN h];omega
theorem ahw (k:Nat):(ahA k= .nilIface/\k=0)\/(ahA k= .iface 130 (.int .i64 (k:Int))/\k≠0):=by
 unfold ahA;by_cases h:k=0
 · exact .inl ⟨if_pos h,h⟩
 · exact .inr ⟨if_neg h,h⟩
section
variable {N:Nat} {S:Nat->Prop} {w:World} {g:Nat} {s:Dst}
theorem StpD.via{w1 w2 w3 w4:World}{r:Dst}(ht:Tch S w1 w2) (hb:Below w2.heap.size w2 w3) (h1:DS N (adz (adz S w1 w2) w3 w4) w4 g r) (h2:Tch (adz S w1 w2) w3 w4):DS N (adz S w1 w4) w4 g r/\Tch S w1 w4:=by
 have hs:=ht.size;have hbs:=hb.size;have h4:=h2.size;refine⟨?_,(ht.trans (Tch.of_below (S:=S) hb) fun _ _ h=>h).trans h2 fun i hi hg=> ?_⟩
 · obtain⟨q,c,W,cw,ws,k,e1,e2,hl⟩:=h1;refine⟨q,c,W,cw,ws,k.more fun j hj=> ?_,e1,e2,fun j hj=> ?_⟩
   · rcases(k.foot hj).1 with(h | h) | h
     · exact .inl h
     · exact .inr ⟨h.1,by omega⟩
     · exact .inr ⟨by omega,h.2⟩
   · rcases hj with h | h
     · exact hl j (.inl (.inl h))
     · exact h.2
 · rcases hg with h | h
   · exact h
   · exact absurd hi (Nat.not_lt.2 h.1)
theorem afN (h:DS N S w g s) (hN2:N<=128) (hw:s.wt.length<=90000) (hl:s.left<=9223372036854775807) (p:Nat) (A:Option Addr) (cA:Nat) (b:List UInt8) (hr:Rd w w.heap.size A b.length b) (hbc:b.length<=cA) (hcm:cA<=9223372036854775807) (hA:0<b.length->∀a,A=some a->¬S a.block) (hp:p+need b.length<=N):
 Calls Tryz.prog 144 #[.pointer (some ⟨g,0,none⟩), .int .i64 (p:Int), .slice A b.length cA] w fun e w'=>StpD N S w g (acv p b s) e w':=by
 have HW:=hE0 (h.outs hN2 (by omega) hl p A cA b hr hbc hcm hA hp);obtain⟨r,hr1⟩:=nmE (adS s p b);obtain⟨bl,hbl⟩:=nmE b.length;rw[hr1]at HW;have HE:Hid (acv p b s=andThen r dfl):=(show _=_ by unfold acv;rw[hr1]);rw[hbl]at HW;rw[hbl];clear h hr hbc hcm hA hp hr1 hbl;go_enter Tryz.func144,Tryz.ntmps144
 go_wp2_with fail
 refine HW.out.mono ?_;rintro e w1 ⟨rfl,hR,hT⟩;have HR:=hE0 hR;have HT:=hE0 hT;clear hR hT HW;rcases ahw r.1 with⟨e,h0⟩ | ⟨e,h0⟩
 · rw[e];have HC:=hE0 (HR.out.flush hN2);have HE2:Hid (acv p b s=dfl r.2):=(show _=_ by rw[HE.out,aao h0]);clear e h0;go_wp2_with fail
   refine DS.two HT.out HC.out HT.out.size ?_;rintro e w2 rfl hR hT;have HF:=hE0 (And.intro hR hT);clear hR hT HC;go_wp2
   go_ret
   rw[HE2.out];exact⟨rfl,HF.out.1,HF.out.2⟩
 · have HE2:Hid (acv p b s=r):=(show _=_ by rw[HE.out,aaN h0]);have HV:=hE0 e;rw[e];clear e h0;go_wp2_with fail
   go_ret
   rw[HE2.out];exact⟨by rw[HV.out];rfl,HR.out,HT.out⟩
theorem asz (h:DS N S w g s) (hN2:N<=128) (hw:s.wt.length<=50000) (hl:s.left<=9223372036854775807) (p half:Nat) (hph:p+half<=N) (A:Option Addr) (cA:Nat) (b:List UInt8) (hr:Rd w w.heap.size A b.length b) (hbc:b.length<=cA) (hcm:cA<=9223372036854775807) (hA:∀a,A=some a->¬S a.block) (h1:1<=half) (hfit:b.length<=512*(half-1)) (G:Nat) (hG:G<4611686018427387904):
 Calls Tryz.prog 81 #[.pointer (some ⟨g,0,none⟩), .int .i64 (p:Int), .slice A b.length cA, .int .u64 ((G+1:Nat):Int)] w fun e w'=>StpD N S w g (abb p b (abx (G+1) b.length (abd 0 b)) s) e w':=by
 obtain⟨rec,hrec⟩:=nmE (abx (G+1) b.length (abd 0 b));have hrl:rec.length=512:=by rw[<-hrec];exact acQ _ _ _
 rw[hrec,<-aow p b rec hrl];unfold av6;obtain⟨z,hz⟩:=nmE (List.replicate 512 (0:UInt8));have hzl:z.length=512:=by rw[<-hz];simp
 have hmk:(Instr.makeSlice 37 (.int .i64 512) (.int .i64 512)).run Tryz.prog w= .ok (.slice (some ⟨w.heap.size,0,none⟩) 512 512) (w.alloc (.cells (acd z) 5)):=by
  have:=run_make_row' (P:=Tryz.prog) 37 5 (.int .u8 0) 1 Tryz.underlying37 afq rfl .i64 .i64 512 (by omega) (by omega) w;rw[acE,hz]at this;exact this
 obtain⟨v1,hv1⟩:=nmE (w.alloc (.cells (acd z) 5));have hfz:Fill v1 w.heap.size 5 z:=by rw[<-hv1];exact Fill.made w 5 _
 have hbv:=abE hv1;have hsl:∀j,S j->j<w.heap.size:=by obtain⟨_,_,_,_,_,_,_,_,hs⟩:=h;exact hs
 have hc1:=afN (h.below hbv) hN2 (by omega) hl p (some ⟨w.heap.size,0,none⟩) 512 z hfz.reads (by rw[hzl];omega) (by omega) (fun _ a e hs=>by injection e with e;have:=hsl _ hs;rw[<-e]at this;exact Nat.lt_irrefl _ this) (by rw[hzl];unfold need;omega);rw[hz];obtain⟨r1,hr1⟩:∃r,acv p z s=r:=⟨_,rfl⟩;have hok1:r1.2.wt.length<=50001/\r1.2.left<=9223372036854775807:=by
  have:=akV p z s;rw[hr1,hzl]at this;have e:need 512=1:=rfl;omega
 rw[hr1]at hc1;rw[hr1];rw[hzl]at hc1;obtain⟨o,ho⟩:=nmE (andThen (andThen r1 (acv (p+1) b)) (acv p rec));rw[ho];have HO:=hE0 ho;clear ho;have HC1:=hE0 hc1;have HBV:=hE0 hbv;have HV1:=hE0 hv1;have HRD:=hE0 ((hr.below hbv).more hbv.size);have HAS:Hid (∀a,A=some a->¬S a.block):=hA;have HAB:Hid (0<b.length->∀a,A=some a->a.block<w.heap.size):=(show _->∀a,_->_ from fun hn a e=>by obtain⟨k,o,e',hk,_⟩:=hr.2 hn;rw[e]at e';injection e' with e';rw[e'];exact hk);have HSL:Hid (∀j,S j->j<w.heap.size):=hsl;obtain⟨bl,hbl⟩:=nmE b.length;have HSUM:=hE0 (fun W (h:Rd W W.heap.size A bl b)=>agz A bl cA W.heap.size b W h (by omega));obtain⟨sm,hsm⟩:=nmE (abd 0 b);have hsml:sm<4294967296:=by rw[<-hsm];exact aei _ _
 rw[hsm]at HSUM;have HPUT:=hE0 (fun W=>amQ W (G+1) bl sm hsml (by unfold akZ;simp only[Bool.and_eq_true,decide_eq_true_eq];omega));rw[hbl,hsm]at hrec;rw[hrec]at HPUT;have HBL:=hE0 hbl;have hpi:(p:Int)+1=((p+1:Nat):Int):=rfl;have HPI:=hE0 hpi;have hneed:p+1+need bl<=N:=by unfold need;omega
 have hn2:need bl<=200:=by unfold need;omega
 have HRL:=hE0 hrl;have hbl6:bl<=65536:=by omega
 rw[hbl]at hbc HRD HAB;rw[hbl];clear h hfz hbv hv1 hc1 hr hA hsl hz hzl hr1 hbl hsm hrec hpi hrl hfit;go_enter Tryz.func81,Tryz.ntmps81
 go_wp2_with (first | (rw[HV1.out]) | fail)
 clear hmk;refine HC1.out.mono ?_;rintro e v2 ⟨rfl,hR,hT⟩;have HR:=hE0 hR;have HT:=hE0 hT;clear hR hT HC1;rcases ahw r1.1 with⟨e,h0⟩ | ⟨e,h0⟩
 · rw[e];have ho:=HO.out;rw[aao h0]at ho;have hc:=afN HR.out hN2 (by omega) hok1.2 (p+1) A cA b (by rw[HBL.out];exact HRD.out.tch HT.out HAS.out) (by rw[HBL.out];exact hbc) hcm (fun hn a e hs=>by
    rcases hs with hs | hs
    · exact HAS.out a e hs
    · have h1:=HBV.out.size;have h2:=HAB.out (by rw[<-HBL.out];exact hn) a e;omega) (by rw[HBL.out];exact hneed)
   rw[HBL.out]at hc;obtain⟨r2,hr2⟩:∃r,acv (p+1) b r1.2=r:=⟨_,rfl⟩;have hok2:r2.2.wt.length<=60000/\r2.2.left<=9223372036854775807:=by
    have:=akV (p+1) b r1.2;rw[hr2,HBL.out]at this;omega
   rw[hr2]at hc ho;have HO2:=hE0 ho;have HC:=hE0 hc;clear hc hr2 e h0 ho HO;go_wp2_with fail
   rw[HPI.out];refine DS.two HT.out HC.out HT.out.size ?_;rintro e v3 rfl hR hT;have HR3:=hE0 hR;have HT3:=hE0 hT;clear hR hT HC HR HT;rcases ahw r2.1 with⟨e,h0⟩ | ⟨e,h0⟩
   · rw[e];have ho:=HO2.out;rw[aao h0]at ho;clear e h0 HO2;have HS3:=hE0 (HSUM.out v3 (HRD.out.tch HT3.out HAS.out));go_wp2_with fail
     refine HS3.out.mono ?_;rintro e v4 ⟨rfl,rfl⟩;go_wp2_with fail
     refine(HPUT.out v3).mono ?_;rintro e v4 ⟨b4,rfl,hb4,hf4,hbl4⟩;have hd3:∀j,adz S v1 v3 j->j<v3.heap.size:=by obtain⟨_,_,_,_,_,_,_,_,hs⟩:=HR3.out;exact hs
     have hc:=afN (HR3.out.below hbl4) hN2 (by omega) hok2.2 p (some ⟨b4,0,none⟩) 512 rec hf4.reads (by rw[HRL.out];omega) (by omega) (fun _ a e hs=>by
      injection e with e;have:=hd3 _ hs;rw[<-e]at this;exact absurd this (Nat.not_lt.2 hb4)) (by rw[HRL.out];unfold need;omega)
     rw[HRL.out]at hc;obtain⟨r3,hr3⟩:∃r,acv p rec r2.2=r:=⟨_,rfl⟩;rw[hr3]at hc ho;subst ho;have HC:=hE0 hc;have HB4:=hE0 hbl4;clear hc hr3 hd3 hb4 hf4 hbl4;go_wp2_with fail
     refine HC.out.mono ?_;rintro e v5 ⟨rfl,hR,hT⟩;have HF:=hE0 (StpD.via HT3.out HB4.out hR hT);clear hR hT HC;go_wp2
     go_ret
     exact StpD.from HBV.out rfl HF.out.1 HF.out.2
   · have HV:=hE0 e;have ho:=HO2.out;rw[aaN h0]at ho;subst ho;rw[e];clear e h0 HO2;go_wp2_with fail
     go_ret
     exact StpD.from HBV.out (by rw[HV.out];rfl) HR3.out HT3.out
 · have HV:=hE0 e;have ho:=HO.out;rw[aaN h0,aaN h0]at ho;subst ho;rw[e];clear e h0 HO;go_wp2_with fail
   go_ret
   exact StpD.from HBV.out (by rw[HV.out];rfl) HR.out HT.out
end
theorem awa (b:List UInt8) (half:Nat) (a:Nat->List UInt8):(ak0 b half a).G<=4611686018427387904:=by
 unfold ak0;split
 · exact Nat.zero_le _
 · rename_i h;have h:acC b=true:=by cases e:acC b;exact absurd e h;rfl
   have:=(asU h).1;split
   · exact this
   · unfold asf;split<;>exact this
section
variable {N:Nat} {S:Nat->Prop} {w:World} {g:Nat} {s:Dst} {q ga base cap c:Nat} {A:Option Addr} {bs:List UInt8} {H:Hp}
theorem DS.gz{s:Dst}(h:DS N S w g s):∀j,S j->j<w.heap.size:=by
 obtain⟨_,_,_,_,_,_,_,_,hs⟩:=h;exact hs
theorem ahx (h:DS N S w g s) (half:Nat) (hh:N/2=half) (h1:1<=half) (hN2:N<=128) (ho:s.off=false) (hwt:s.wt.length<=1000) (hleft:s.left<=9223372036854775807) (x y:Sk) (hx:aaE s.bs s.wt half 0=x) (hy:aaE s.bs s.wt half 1=y) (hp:PH w q ga base cap A c bs H) (o:Nat × Dst) (hO:afK x y half (aaH bs.length (H.blks.map toR) (ofD bs H.blks)) s=o):
 Calls Tryz.prog 24 #[.pointer (some ⟨g,0,none⟩), .pointer (some ⟨q,0,none⟩)] w fun e w'=>StpD N S w g o e w':=by
 have HL:=hE0 (akS h half hh h1 hN2 ho x y hx hy);have hlen:=hp.len;have hm:=aeg hp.rd.rt.walk hlen hp.rd.rt.nfree.2.1;have hGx:x.G<=4611686018427387904:=by rw[<-hx];exact awa _ _ _
 have hGy:y.G<=4611686018427387904:=by rw[<-hy];exact awa _ _ _
 obtain⟨hl,hdl,_⟩:=ahs hm;have hfl:=(agr hm).1;have HAR:=hE0 (fun W (hW:Below w.heap.size w W)=>adm (hp.below hW));have HOF:=hE0 (fun W g' c' A' (ha:Ar W 195 g' base cap A' c' bs)=>amf W g' base cap c' A' bs H.blks ha hp.b62 hlen hp.rd.rt.chk hp.rd.rt.walk);have HPUT:=hE0 (fun W A1 A2 k1 k2 (hr:RkRd W W.heap.size A1 (H.blks.map toR)) (hd:DtRd W W.heap.size A2 (ofD bs H.blks))=>aiZ W bs.length (by omega) A1 A2 k1 k2 (H.blks.map toR) (ofD bs H.blks) hr hd hl hdl (by omega) hm);unfold imV at HPUT;rw[List.length_map]at HPUT;obtain⟨b,hb⟩:=nmE (aaH bs.length (H.blks.map toR) (ofD bs H.blks));rw[hb]at HPUT hO;obtain⟨ll,hll⟩:=nmE H.blks.length;obtain⟨dl,hdl'⟩:∃dl,(ofD bs H.blks).length=dl:=⟨_,rfl⟩;obtain⟨nn,hnn⟩:=nmE bs.length;rw[hll,hdl',hnn]at HOF HPUT;have HOLD:=hE0 (fun W A1 c1 A2 c2 B1 k1 B2 k2=>aor W x y A1 c1 A2 c2 B1 k1 B2 k2);unfold ast at HOLD;have HALF:=hE0 (fun W (hW:Below w.heap.size w W)=>ahg (h.below hW) hN2 half hh);obtain⟨M,hM⟩:=nmE (512*(half-1));have HROOM:=hE0 (fun W (hW:Below w.heap.size w W)=>akF (h.below hW) hN2 half M hh h1 hM);have HD:=hE0 h;obtain⟨m,hml⟩:=nmE b.length;rw[hml]at HPUT;have HM:=hE0 hml;obtain⟨tO,hto⟩:∃tO,(if adI x y=0 then 1 else 0)=tO:=⟨_,rfl⟩;obtain⟨p,hpp⟩:=nmE (tO*half);have hto1:tO<=1:=by rw[<-hto];split<;>omega
 have hp2:p+half<=N:=by
  rw[<-hpp];rcases Nat.le_one_iff_eq_zero_or_eq_one.1 hto1 with e | e<;>rw[e]<;>omega
 have hpi:(tO:Int)*(half:Int)=(p:Int):=by rw[<-hpp];exact(Int.natCast_mul tO half).symm
 unfold afK at hO;rw[hM,hto,hpp,hml]at hO;rw[hto]at HOLD;obtain⟨xG,xN,xS,xo,xn,xl,xd⟩:=x;obtain⟨yG,yN,yS,yo,yn,yl,yd⟩:=y;dsimp only at HOLD hO hGx hGy;obtain⟨G,hG⟩:=nmE (max xG yG);rw[hG]at hO;have HO:=hE0 hO;have HG:=hE0 hG;have hGl:G<=4611686018427387904:=by omega
 have hMM:=hE0 hM;have hpq:p<=128:=by omega
 have hhl:half<=64:=by omega
 clear h hx hy hp hlen hm hl hdl hfl hb hll hdl' hnn hto hpp hto1 hO hG hml hM hGx hGy hh ho;go_enter Tryz.func24,Tryz.ntmps24
 go_wp2_with fail
 refine HL.out.mono ?_;rintro e w1 ⟨A1,c1,A2,c2,B1,k1,B2,k2,rfl,_,_,hb1⟩;unfold ast;dsimp only;obtain⟨w2,ha2⟩:=nmE (w1.alloc (.cells #[.int .u64 0, .int .u64 0, .int .u32 0, .bool false, .int .i64 0, .slice none 0 0, .slice none 0 0, .int .u64 0, .int .u64 0, .int .u32 0, .bool false, .int .i64 0, .slice none 0 0, .slice none 0 0] 149));have n2:=anE ha2;have b2:=abE ha2;have N2:=hE0 n2;have HA2:=hE0 ha2;obtain⟨⟨pc0,pc1,pc2,pc3,pc4,pc5,pc6,pc7,pc8,pc9,pc10,pc11,pc12,pc13⟩,⟨pf0,pf1,pf2,pf3,pf4,pf5,pf6,pf7,pf8,pf9,pf10,pf11,pf12,pf13⟩,hlp⟩:=acj n2;obtain⟨w3,hp3,n3,b3,_,_⟩:=anj N2 (.int .u64 (xG:Int)) (.int .u64 (xN:Int)) (.int .u32 (xS:Int)) (.bool xo) (.int .i64 (xn:Int)) (.slice A1 xl.length c1) (.slice A2 xd.length c2);obtain⟨w4,hp4,n4,b4,_,_⟩:=ank n3 (.int .u64 (yG:Int)) (.int .u64 (yN:Int)) (.int .u32 (yS:Int)) (.bool yo) (.int .i64 (yn:Int)) (.slice B1 yl.length k1) (.slice B2 yd.length k2);have b14:=b4.out _ _ (Nat.le_refl _) (b3.out _ _ (Nat.le_refl _) b2);have HB4:=hE0 (hb1.trans (b14.mono hb1.size));clear ha2 b2 hb1 n2 b14 HL;go_wp2_with (first | (rw[HA2.out]) | (rw[hp3.out,hp4.out]) | fail)
 clear pc0 pc1 pc2 pc3 pc4 pc5 pc6 pc7 pc8 pc9 pc10 pc11 pc12 pc13 pf0 pf1 pf2 pf3 pf4 pf5 pf6 pf7 pf8 pf9 pf10 pf11 pf12 pf13 hlp;refine(HAR.out w4 HB4.out).mono ?_;rintro e w5 ⟨g5,A5,c5,rfl,ha5,hb5,_,_⟩;have HB5:=hE0 (HB4.out.trans (hb5.mono HB4.out.size));have n5:=hE0 ((hb5.block _ (aaa n4.out)).trans n4.out);have HF5:=hE0 (HOF.out w5 g5 c5 A5 ha5);clear ha5 hb5 HAR HOF;go_wp2_with fail
 refine HF5.out.mono ?_;rintro e w6 ⟨I1,I2,i1,i2,rfl,hr6,hd6,hb6⟩;obtain⟨w7,ha7,m7,b7⟩:=agV w6 107 (.int .i64 0) (.slice none 0 0) (.slice none 0 0);obtain⟨w8,hp8,m8,b8,⟨z0,z1,z2⟩,⟨e0,e1,e2⟩,hle⟩:=auv m7 (.int .i64 (nn:Int)) (.slice I1 ll i1) (.slice I2 dl i2);have hb68:=b8.out w6.heap.size w6 (Nat.le_refl _) b7.out;have hb58:=hb6.trans (hb68.mono hb6.size);have HB8:=hE0 (HB5.out.trans (hb58.mono HB5.out.size));have n8:=hE0 ((hb58.block _ (aaa n5.out)).trans n5.out);have HP8:=hE0 (HPUT.out w8 I1 I2 i1 i2 ((hr6.below hb68).more hb68.size) ((hd6.below hb68).more hb68.size));obtain⟨⟨t0,t1,t2⟩,_,hlt⟩:=adg m8.out;clear hr6 hd6 hb6 hb68 hb58 HF5 HPUT;go_wp2_with (first | (rw[ha7.out]) | (rw[hp8.out]) | fail)
 clear z0 z1 z2 e0 e1 e2 hle t0 t1 t2 hlt;refine HP8.out.mono ?_;rintro e w9 ⟨A9,c9,rfl,o9,b9⟩;have HB9:=hE0 (HB8.out.trans (b9.mono HB8.out.size));have n9:=hE0 ((b9.block _ (aaa n8.out)).trans n8.out);have hc9:=akp o9;unfold maxLen at hc9;have HR9:=hE0 (ab8 o9);have HA9:Hid (∀a,A9=some a->¬S a.block):=(show ∀a,_->_ from fun a e hs=>by
  have h1:=HD.out.gz _ hs;have h2:=afb o9 a.block (by rw[e];rfl);have h3:=HB8.out.size;omega)
 obtain⟨⟨qc0,qc1,qc2,qc3,qc4,qc5,qc6,qc7,qc8,qc9,qc10,qc11,qc12,qc13⟩,⟨qf0,qf1,qf2,qf3,qf4,qf5,qf6,qf7,qf8,qf9,qf10,qf11,qf12,qf13⟩,hlq⟩:=acj n9.out;clear o9 b9 HP8;have hmx:max (xG:Int) (yG:Int)=(G:Int):=by have:=HG.out;omega
 have ho:=HO.out;have HFIN:Hid (StpD N S w g (7,s) (.returned (ahA 7)) w9):=StpD.from HB9.out rfl ((HD.out.below HB9.out).grown (Tch.refl _ _)) (Tch.refl _ _);go_wp2_with fail
 refine(HROOM.out _ HB9.out).mono ?_;rintro e w10 ⟨rfl,rfl⟩;clear qc0 qc1 qc2 qc3 qc4 qc5 qc6 qc7 qc8 qc9 qc10 qc11 qc12 qc13 qf0 qf1 qf2 qf3 qf4 qf5 qf6 qf7 qf8 qf9 qf10 qf11 qf12 qf13 hlq;by_cases hfar:M<m\/4611686018427387904<=G
 · rw[if_pos hfar]at ho;subst ho;by_cases hf1:M<m
   · have g1:decide ((M:Int)<(m:Int))=true:=decide_eq_true (by omega);have g1':decide (M<m)=true:=decide_eq_true hf1;go_wp2_with fail
     go_ret
     exact HFIN.out
   · have g1:decide ((M:Int)<(m:Int))=false:=decide_eq_false (by omega);have g1':decide (M<m)=false:=decide_eq_false hf1;obtain rfl:G=4611686018427387904:=by omega
     go_wp2_with fail
     go_ret
     exact HFIN.out
 · rw[if_neg hfar]at ho;have g1:decide ((M:Int)<(m:Int))=false:=decide_eq_false (by omega);have g1':decide (M<m)=false:=decide_eq_false (by omega);have g2:((G:Int)==4611686018427387904)=false:=by rw[beq_eq_false_iff_ne];omega
   have hGl':G<4611686018427387904:=by omega
   have hmM:m<=M:=by omega
   have HO2:=hE0 ho;clear ho hfar HFIN HO;obtain⟨⟨qc0,qc1,qc2,qc3,qc4,qc5,qc6,qc7,qc8,qc9,qc10,qc11,qc12,qc13⟩,⟨qf0,qf1,qf2,qf3,qf4,qf5,qf6,qf7,qf8,qf9,qf10,qf11,qf12,qf13⟩,hlq⟩:=acj n9.out;go_wp2_with fail
   clear qc0 qc1 qc2 qc3 qc4 qc5 qc6 qc7 qc8 qc9 qc10 qc11 qc12 qc13 qf0 qf1 qf2 qf3 qf4 qf5 qf6 qf7 qf8 qf9 qf10 qf11 qf12 qf13 hlq;refine(HOLD.out _ A1 c1 A2 c2 B1 k1 B2 k2).mono ?_;rintro e w10 ⟨rfl,hb10⟩;have HB10:=hE0 (HB9.out.trans (hb10.mono HB9.out.size));have HR10:=hE0 ((HR9.out.below hb10).more hb10.size);clear hb10;go_wp2_with fail
   refine(HALF.out _ HB10.out).mono ?_;rintro e w11 ⟨rfl,rfl⟩;have hG1:((G:Int)+1)=((G+1:Nat):Int):=rfl;have HG1:=hE0 hG1;clear hG1;have HLAY:=hE0 (asz (HD.out.below HB10.out) hN2 (by omega) hleft p half hp2 A9 c9 b (by rw[HM.out];exact HR10.out) (by rw[HM.out];exact hc9.1) (by omega) HA9.out h1 (by rw[HM.out,hMM.out];exact hmM) G hGl');rw[HM.out,HO2.out]at HLAY;go_wp2_with fail
   rw[HG1.out];refine HLAY.out.mono ?_;rintro e w12 ⟨rfl,hR,hT⟩;have HF:=hE0 (StpD.from HB10.out rfl hR hT);clear hR hT HLAY;go_wp2
   go_ret
   exact HF.out
end
end Go.Proofs.YtncadccbepjekaaGreatDoor
