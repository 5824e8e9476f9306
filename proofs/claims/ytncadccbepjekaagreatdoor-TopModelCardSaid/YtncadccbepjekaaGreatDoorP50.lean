/- Texts of mine, joined. -/
import Derived.Test.YtncadccbepjekaaGreatDoorP47
set_option maxRecDepth 100000
set_option maxHeartbeats 8000000
namespace Go.Proofs.YtncadccbepjekaaGreatDoor
open Go.RowKit
def acz (p:Nat) (b:List UInt8) (s:Dst):Nat × Dst:=andThen (aib s p b) dfl
def awi (p:Nat) (b rec:List UInt8) (s:Dst):Nat × Dst:=andThen (andThen (acz p (List.replicate 512 0) s) (acz (p+1) b)) (acz p rec)
theorem aoq (p:Nat) (b rec:List UInt8) (hr:rec.length=512) (s:Dst):awi p b rec s=adL p b rec s:=by
 unfold awi adL acz;rw[am2 p _ List.length_replicate];by_cases h1:(dwr s p (List.replicate 512 0)).1=0
 · simp only[aaC h1];by_cases h2:(dfl (dwr s p (List.replicate 512 0)).2).1=0
   · simp only[aaC h2];by_cases h3:(aib (dfl (dwr s p (List.replicate 512 0)).2).2 (p+1) b).1=0
     · simp only[aaC h3];by_cases h4:(dfl (aib (dfl (dwr s p (List.replicate 512 0)).2).2 (p+1) b).2).1=0
       · simp only[aaC h4];rw[am2 p _ hr]
       · simp only[abo h4]
     · simp only[abo h3]
   · simp only[abo h2]
 · simp only[abo h1]
theorem akU (p:Nat) (b:List UInt8) (s:Dst):(acz p b s).2.wt.length<=s.wt.length+need b.length/\(acz p b s).2.left<=s.left:=by
 have h1:=auh s p b;unfold acz;by_cases h:(aib s p b).1=0
 · rw[aaC h];have h2:=avn (aib s p b).2;omega
 · rw[abo h];omega
theorem ahm (k:Nat):(ajt k= .nilIface/\k=0)\/(ajt k= .iface 130 (.int .i64 (k:Int))/\k≠0):=by
 unfold ajt;by_cases h:k=0
 · exact .inl ⟨if_pos h,h⟩
 · exact .inr ⟨if_neg h,h⟩
section
variable {N:Nat} {S:Nat->Prop} {w:World} {g:Nat} {s:Dst}
theorem StpD.via{w1 w2 w3 w4:World}{r:Dst}(ht:Tch S w1 w2) (hb:Below w2.heap.size w2 w3) (h1:DS N (ad1 (ad1 S w1 w2) w3 w4) w4 g r) (h2:Tch (ad1 S w1 w2) w3 w4):DS N (ad1 S w1 w4) w4 g r/\Tch S w1 w4:=by
 have hs:=ht.size;have hbs:=hb.size;have h4:=h2.size;refine⟨?_,(ht.trans (Tch.of_below (S:=S) hb) fun _ _ h=>h).trans h2 fun i hi hg=> ?_⟩
 · obtain⟨q,c,W,cw,ws,k,e1,e2,hl⟩:=h1;refine⟨q,c,W,cw,ws,k.more fun j hj=> ?_,e1,e2,fun j hj=> ?_⟩
   · rcases(k.foot hj).1 with(h | h) | h
     · exact .inl h
     · exact .inr ⟨h.1,by omega⟩
     · exact .inr ⟨by omega,h.2⟩
   · rcases hj with h | h
     · exact hl j (.inl (.inl h))
     · exact h.2
 · rcases hg with h | h
   · exact h
   · exact absurd hi (Nat.not_lt.2 h.1)
theorem afF (h:DS N S w g s) (hN2:N<=128) (hw:s.wt.length<=90000) (hl:s.left<=9223372036854775807) (p:Nat) (A:Option Addr) (cA:Nat) (b:List UInt8) (hr:Rd w w.heap.size A b.length b) (hbc:b.length<=cA) (hcm:cA<=9223372036854775807) (hA:0<b.length->∀a,A=some a->¬S a.block) (hp:p+need b.length<=N):
 Calls Tryz.prog 144 #[.pointer (some ⟨g,0,none⟩), .int .i64 (p:Int), .slice A b.length cA] w fun e w'=>StpD N S w g (acz p b s) e w':=by
 have HW:=hE0 (h.outs hN2 (by omega) hl p A cA b hr hbc hcm hA hp);obtain⟨r,hr1⟩:=nmE (aib s p b);obtain⟨bl,hbl⟩:=nmE b.length;rw[hr1]at HW;have HE:Hid (acz p b s=andThen r dfl):=(show _=_ by unfold acz;rw[hr1]);rw[hbl]at HW;rw[hbl];clear h hr hbc hcm hA hp hr1 hbl;go_enter Tryz.func144,Tryz.ntmps144
 go_wp2_with fail
 refine HW.out.mono ?_;rintro e w1 ⟨rfl,hR,hT⟩;have HR:=hE0 hR;have HT:=hE0 hT;clear hR hT HW;rcases ahm r.1 with⟨e,h0⟩ | ⟨e,h0⟩
 · rw[e];have HC:=hE0 (HR.out.flush hN2);have HE2:Hid (acz p b s=dfl r.2):=(show _=_ by rw[HE.out,aaC h0]);clear e h0;go_wp2_with fail
   refine DS.two HT.out HC.out HT.out.size ?_;rintro e w2 rfl hR hT;have HF:=hE0 (And.intro hR hT);clear hR hT HC;go_wp2
   go_ret
   rw[HE2.out];exact⟨rfl,HF.out.1,HF.out.2⟩
 · have HE2:Hid (acz p b s=r):=(show _=_ by rw[HE.out,abo h0]);have HV:=hE0 e;rw[e];clear e h0;go_wp2_with fail
   go_ret
   rw[HE2.out];exact⟨by rw[HV.out];rfl,HR.out,HT.out⟩
theorem asR (h:DS N S w g s) (hN2:N<=128) (hw:s.wt.length<=50000) (hl:s.left<=9223372036854775807) (p half:Nat) (hph:p+half<=N) (A:Option Addr) (cA:Nat) (b:List UInt8) (hr:Rd w w.heap.size A b.length b) (hbc:b.length<=cA) (hcm:cA<=9223372036854775807) (hA:∀a,A=some a->¬S a.block) (h1:1<=half) (hfit:b.length<=512*(half-1)) (G:Nat) (hG:G<4611686018427387904):
 Calls Tryz.prog 81 #[.pointer (some ⟨g,0,none⟩), .int .i64 (p:Int), .slice A b.length cA, .int .u64 ((G+1:Nat):Int)] w fun e w'=>StpD N S w g (adL p b (abQ (G+1) b.length (abZ 0 b)) s) e w':=by
 obtain⟨rec,hrec⟩:=nmE (abQ (G+1) b.length (abZ 0 b));have hrl:rec.length=512:=by rw[<-hrec];exact aea _ _ _
 rw[hrec,<-aoq p b rec hrl];unfold awi;obtain⟨z,hz⟩:=nmE (List.replicate 512 (0:UInt8));have hzl:z.length=512:=by rw[<-hz];simp
 have hmk:(Instr.makeSlice 37 (.int .i64 512) (.int .i64 512)).run Tryz.prog w= .ok (.slice (some ⟨w.heap.size,0,none⟩) 512 512) (w.alloc (.cells (acb z) 5)):=by
  have:=run_make_row' (P:=Tryz.prog) 37 5 (.int .u8 0) 1 Tryz.underlying37 afp rfl .i64 .i64 512 (by omega) (by omega) w;rw[acK,hz]at this;exact this
 obtain⟨v1,hv1⟩:=nmE (w.alloc (.cells (acb z) 5));have hfz:Fill v1 w.heap.size 5 z:=by rw[<-hv1];exact Fill.made w 5 _
 have hbv:=abE hv1;have hsl:∀j,S j->j<w.heap.size:=by obtain⟨_,_,_,_,_,_,_,_,hs⟩:=h;exact hs
 have hc1:=afF (h.below hbv) hN2 (by omega) hl p (some ⟨w.heap.size,0,none⟩) 512 z hfz.reads (by rw[hzl];omega) (by omega) (fun _ a e hs=>by injection e with e;have:=hsl _ hs;rw[<-e]at this;exact Nat.lt_irrefl _ this) (by rw[hzl];unfold need;omega);rw[hz];obtain⟨r1,hr1⟩:∃r,acz p z s=r:=⟨_,rfl⟩;have hok1:r1.2.wt.length<=50001/\r1.2.left<=9223372036854775807:=by
  have:=akU p z s;rw[hr1,hzl]at this;have e:need 512=1:=rfl;omega
 rw[hr1]at hc1;rw[hr1];rw[hzl]at hc1;obtain⟨o,ho⟩:=nmE (andThen (andThen r1 (acz (p+1) b)) (acz p rec));rw[ho];have HO:=hE0 ho;clear ho;have HC1:=hE0 hc1;have HBV:=hE0 hbv;have HV1:=hE0 hv1;have HRD:=hE0 ((hr.below hbv).more hbv.size);have HAS:Hid (∀a,A=some a->¬S a.block):=hA;have HAB:Hid (0<b.length->∀a,A=some a->a.block<w.heap.size):=(show _->∀a,_->_ from fun hn a e=>by obtain⟨k,o,e',hk,_⟩:=hr.2 hn;rw[e]at e';injection e' with e';rw[e'];exact hk);have HSL:Hid (∀j,S j->j<w.heap.size):=hsl;obtain⟨bl,hbl⟩:=nmE b.length;have HSUM:=hE0 (fun W (h:Rd W W.heap.size A bl b)=>ago A bl cA W.heap.size b W h (by omega));obtain⟨sm,hsm⟩:=nmE (abZ 0 b);have hsml:sm<4294967296:=by rw[<-hsm];exact aeh _ _
 rw[hsm]at HSUM;have HPUT:=hE0 (fun W=>amM W (G+1) bl sm hsml (by unfold akX;simp only[Bool.and_eq_true,decide_eq_true_eq];omega));rw[hbl,hsm]at hrec;rw[hrec]at HPUT;have HBL:=hE0 hbl;have hpi:(p:Int)+1=((p+1:Nat):Int):=rfl;have HPI:=hE0 hpi;have hneed:p+1+need bl<=N:=by unfold need;omega
 have hn2:need bl<=200:=by unfold need;omega
 have HRL:=hE0 hrl;have hbl6:bl<=65536:=by omega
 rw[hbl]at hbc HRD HAB;rw[hbl];clear h hfz hbv hv1 hc1 hr hA hsl hz hzl hr1 hbl hsm hrec hpi hrl hfit;go_enter Tryz.func81,Tryz.ntmps81
 go_wp2_with (first | (rw[HV1.out]) | fail)
 clear hmk;refine HC1.out.mono ?_;rintro e v2 ⟨rfl,hR,hT⟩;have HR:=hE0 hR;have HT:=hE0 hT;clear hR hT HC1;rcases ahm r1.1 with⟨e,h0⟩ | ⟨e,h0⟩
 · rw[e];have ho:=HO.out;rw[aaC h0]at ho;have hc:=afF HR.out hN2 (by omega) hok1.2 (p+1) A cA b (by rw[HBL.out];exact HRD.out.tch HT.out HAS.out) (by rw[HBL.out];exact hbc) hcm (fun hn a e hs=>by
    rcases hs with hs | hs
    · exact HAS.out a e hs
    · have h1:=HBV.out.size;have h2:=HAB.out (by rw[<-HBL.out];exact hn) a e;omega) (by rw[HBL.out];exact hneed)
   rw[HBL.out]at hc;obtain⟨r2,hr2⟩:∃r,acz (p+1) b r1.2=r:=⟨_,rfl⟩;have hok2:r2.2.wt.length<=60000/\r2.2.left<=9223372036854775807:=by
    have:=akU (p+1) b r1.2;rw[hr2,HBL.out]at this;omega
   rw[hr2]at hc ho;have HO2:=hE0 ho;have HC:=hE0 hc;clear hc hr2 e h0 ho HO;go_wp2_with fail
   rw[HPI.out];refine DS.two HT.out HC.out HT.out.size ?_;rintro e v3 rfl hR hT;have HR3:=hE0 hR;have HT3:=hE0 hT;clear hR hT HC HR HT;rcases ahm r2.1 with⟨e,h0⟩ | ⟨e,h0⟩
   · rw[e];have ho:=HO2.out;rw[aaC h0]at ho;clear e h0 HO2;have HS3:=hE0 (HSUM.out v3 (HRD.out.tch HT3.out HAS.out));go_wp2_with fail
     refine HS3.out.mono ?_;rintro e v4 ⟨rfl,rfl⟩;go_wp2_with fail
     refine(HPUT.out v3).mono ?_;rintro e v4 ⟨b4,rfl,hb4,hf4,hbl4⟩;have hd3:∀j,ad1 S v1 v3 j->j<v3.heap.size:=by obtain⟨_,_,_,_,_,_,_,_,hs⟩:=HR3.out;exact hs
     have hc:=afF (HR3.out.below hbl4) hN2 (by omega) hok2.2 p (some ⟨b4,0,none⟩) 512 rec hf4.reads (by rw[HRL.out];omega) (by omega) (fun _ a e hs=>by
      injection e with e;have:=hd3 _ hs;rw[<-e]at this;exact absurd this (Nat.not_lt.2 hb4)) (by rw[HRL.out];unfold need;omega)
     rw[HRL.out]at hc;obtain⟨r3,hr3⟩:∃r,acz p rec r2.2=r:=⟨_,rfl⟩;rw[hr3]at hc ho;subst ho;have HC:=hE0 hc;have HB4:=hE0 hbl4;clear hc hr3 hd3 hb4 hf4 hbl4;go_wp2_with fail
     refine HC.out.mono ?_;rintro e v5 ⟨rfl,hR,hT⟩;have HF:=hE0 (StpD.via HT3.out HB4.out hR hT);clear hR hT HC;go_wp2
     go_ret
     exact StpD.from HBV.out rfl HF.out.1 HF.out.2
   · have HV:=hE0 e;have ho:=HO2.out;rw[abo h0]at ho;subst ho;rw[e];clear e h0 HO2;go_wp2_with fail
     go_ret
     exact StpD.from HBV.out (by rw[HV.out];rfl) HR3.out HT3.out
 · have HV:=hE0 e;have ho:=HO.out;rw[abo h0,abo h0]at ho;subst ho;rw[e];clear e h0 HO;go_wp2_with fail
   go_ret
   exact StpD.from HBV.out (by rw[HV.out];rfl) HR.out HT.out
end
theorem awm (b:List UInt8) (half:Nat) (a:Nat->List UInt8):(amW b half a).G<=4611686018427387904:=by
 unfold amW;split
 · exact Nat.zero_le _
 · rename_i h;have h:acJ b=true:=by cases e:acJ b;exact absurd e h;rfl
   have:=(as9 h).1;split
   · exact this
   · unfold asn;split<;>exact this
section
variable {N:Nat} {S:Nat->Prop} {w:World} {g:Nat} {s:Dst} {q ga base cap c:Nat} {A:Option Addr} {bs:List UInt8} {H:Hp}
theorem DS.gz{s:Dst}(h:DS N S w g s):∀j,S j->j<w.heap.size:=by
 obtain⟨_,_,_,_,_,_,_,_,hs⟩:=h;exact hs
theorem aq8 (h:DS N S w g s) (half:Nat) (hh:N/2=half) (h1:1<=half) (hN2:N<=128) (ho:s.off=false) (hwt:s.wt.length<=1000) (hleft:s.left<=9223372036854775807) (x y:Sk) (hx:adC s.bs s.wt half 0=x) (hy:adC s.bs s.wt half 1=y) (hp:PH w q ga base cap A c bs H) (o:Nat × Dst) (hO:asr x y half (aaZ bs.length (H.blks.map toR) (ofD bs H.blks)) s=o):
 Calls Tryz.prog 24 #[.pointer (some ⟨g,0,none⟩), .pointer (some ⟨q,0,none⟩)] w fun e w'=>StpD N S w g o e w':=by
 have HL:=hE0 (akQ h half hh h1 hN2 ho x y hx hy);have hlen:=hp.len;have hm:=aku hp.rd.rt.walk hlen hp.rd.rt.nfree.2.1;have hGx:x.G<=4611686018427387904:=by rw[<-hx];exact awm _ _ _
 have hGy:y.G<=4611686018427387904:=by rw[<-hy];exact awm _ _ _
 obtain⟨hl,hdl,_⟩:=aqT hm;have hfl:=(arL hm).1;have HAR:=hE0 (fun W (hW:Below w.heap.size w W)=>aog (hp.below hW));have HOF:=hE0 (fun W g' c' A' (ha:Ar W 195 g' base cap A' c' bs)=>aud W g' base cap c' A' bs H.blks ha hp.b62 hlen hp.rd.rt.chk hp.rd.rt.walk);have HPUT:=hE0 (fun W A1 A2 k1 k2 (hr:RkRd W W.heap.size A1 (H.blks.map toR)) (hd:DtRd W W.heap.size A2 (ofD bs H.blks))=>ar2 W bs.length (by omega) A1 A2 k1 k2 (H.blks.map toR) (ofD bs H.blks) hr hd hl hdl (by omega) hm);unfold imV at HPUT;rw[List.length_map]at HPUT;obtain⟨b,hb⟩:=nmE (aaZ bs.length (H.blks.map toR) (ofD bs H.blks));rw[hb]at HPUT hO;obtain⟨ll,hll⟩:=nmE H.blks.length;obtain⟨dl,hdl'⟩:∃dl,(ofD bs H.blks).length=dl:=⟨_,rfl⟩;obtain⟨nn,hnn⟩:=nmE bs.length;rw[hll,hdl',hnn]at HOF HPUT;have HOLD:=hE0 (fun W A1 c1 A2 c2 B1 k1 B2 k2=>aon W x y A1 c1 A2 c2 B1 k1 B2 k2);unfold asE at HOLD;have HALF:=hE0 (fun W (hW:Below w.heap.size w W)=>ag3 (h.below hW) hN2 half hh);obtain⟨M,hM⟩:=nmE (512*(half-1));have HROOM:=hE0 (fun W (hW:Below w.heap.size w W)=>akz (h.below hW) hN2 half M hh h1 hM);have HD:=hE0 h;obtain⟨m,hml⟩:=nmE b.length;rw[hml]at HPUT;have HM:=hE0 hml;obtain⟨tO,hto⟩:∃tO,(if ag2 x y=0 then 1 else 0)=tO:=⟨_,rfl⟩;obtain⟨p,hpp⟩:=nmE (tO*half);have hto1:tO<=1:=by rw[<-hto];split<;>omega
 have hp2:p+half<=N:=by
  rw[<-hpp];rcases Nat.le_one_iff_eq_zero_or_eq_one.1 hto1 with e | e<;>rw[e]<;>omega
 have hpi:(tO:Int)*(half:Int)=(p:Int):=by rw[<-hpp];exact(Int.natCast_mul tO half).symm
 unfold asr at hO;rw[hM,hto,hpp,hml]at hO;rw[hto]at HOLD;obtain⟨xG,xN,xS,xo,xn,xl,xd⟩:=x;obtain⟨yG,yN,yS,yo,yn,yl,yd⟩:=y;dsimp only at HOLD hO hGx hGy;obtain⟨G,hG⟩:=nmE (max xG yG);rw[hG]at hO;have HO:=hE0 hO;have HG:=hE0 hG;have hGl:G<=4611686018427387904:=by omega
 have hMM:=hE0 hM;have hpq:p<=128:=by omega
 have hhl:half<=64:=by omega
 clear h hx hy hp hlen hm hl hdl hfl hb hll hdl' hnn hto hpp hto1 hO hG hml hM hGx hGy hh ho;go_enter Tryz.func24,Tryz.ntmps24
 go_wp2_with fail
 refine HL.out.mono ?_;rintro e w1 ⟨A1,c1,A2,c2,B1,k1,B2,k2,rfl,_,_,hb1⟩;unfold asE;dsimp only;obtain⟨w2,ha2⟩:=nmE (w1.alloc (.cells #[.int .u64 0, .int .u64 0, .int .u32 0, .bool false, .int .i64 0, .slice none 0 0, .slice none 0 0, .int .u64 0, .int .u64 0, .int .u32 0, .bool false, .int .i64 0, .slice none 0 0, .slice none 0 0] 149));have n2:=anE ha2;have b2:=abE ha2;have N2:=hE0 n2;have HA2:=hE0 ha2;obtain⟨⟨pc0,pc1,pc2,pc3,pc4,pc5,pc6,pc7,pc8,pc9,pc10,pc11,pc12,pc13⟩,⟨pf0,pf1,pf2,pf3,pf4,pf5,pf6,pf7,pf8,pf9,pf10,pf11,pf12,pf13⟩,hlp⟩:=aci n2;obtain⟨w3,hp3,n3,b3,_,_⟩:=am9 N2 (.int .u64 (xG:Int)) (.int .u64 (xN:Int)) (.int .u32 (xS:Int)) (.bool xo) (.int .i64 (xn:Int)) (.slice A1 xl.length c1) (.slice A2 xd.length c2);obtain⟨w4,hp4,n4,b4,_,_⟩:=ana n3 (.int .u64 (yG:Int)) (.int .u64 (yN:Int)) (.int .u32 (yS:Int)) (.bool yo) (.int .i64 (yn:Int)) (.slice B1 yl.length k1) (.slice B2 yd.length k2);have b14:=b4.out _ _ (Nat.le_refl _) (b3.out _ _ (Nat.le_refl _) b2);have HB4:=hE0 (hb1.trans (b14.mono hb1.size));clear ha2 b2 hb1 n2 b14 HL;go_wp2_with (first | (rw[HA2.out]) | (rw[hp3.out,hp4.out]) | fail)
 clear pc0 pc1 pc2 pc3 pc4 pc5 pc6 pc7 pc8 pc9 pc10 pc11 pc12 pc13 pf0 pf1 pf2 pf3 pf4 pf5 pf6 pf7 pf8 pf9 pf10 pf11 pf12 pf13 hlp;refine(HAR.out w4 HB4.out).mono ?_;rintro e w5 ⟨g5,A5,c5,rfl,ha5,hb5,_,_⟩;have HB5:=hE0 (HB4.out.trans (hb5.mono HB4.out.size));have n5:=hE0 ((hb5.block _ (aaa n4.out)).trans n4.out);have HF5:=hE0 (HOF.out w5 g5 c5 A5 ha5);clear ha5 hb5 HAR HOF;go_wp2_with fail
 refine HF5.out.mono ?_;rintro e w6 ⟨I1,I2,i1,i2,rfl,hr6,hd6,hb6⟩;obtain⟨w7,ha7,m7,b7⟩:=aj2 w6 107 (.int .i64 0) (.slice none 0 0) (.slice none 0 0);obtain⟨w8,hp8,m8,b8,⟨z0,z1,z2⟩,⟨e0,e1,e2⟩,hle⟩:=auG m7 (.int .i64 (nn:Int)) (.slice I1 ll i1) (.slice I2 dl i2);have hb68:=b8.out w6.heap.size w6 (Nat.le_refl _) b7.out;have hb58:=hb6.trans (hb68.mono hb6.size);have HB8:=hE0 (HB5.out.trans (hb58.mono HB5.out.size));have n8:=hE0 ((hb58.block _ (aaa n5.out)).trans n5.out);have HP8:=hE0 (HPUT.out w8 I1 I2 i1 i2 ((hr6.below hb68).more hb68.size) ((hd6.below hb68).more hb68.size));obtain⟨⟨t0,t1,t2⟩,_,hlt⟩:=ad4 m8.out;clear hr6 hd6 hb6 hb68 hb58 HF5 HPUT;go_wp2_with (first | (rw[ha7.out]) | (rw[hp8.out]) | fail)
 clear z0 z1 z2 e0 e1 e2 hle t0 t1 t2 hlt;refine HP8.out.mono ?_;rintro e w9 ⟨A9,c9,rfl,o9,b9⟩;have HB9:=hE0 (HB8.out.trans (b9.mono HB8.out.size));have n9:=hE0 ((b9.block _ (aaa n8.out)).trans n8.out);have hc9:=apE o9;unfold maxLen at hc9;have HR9:=hE0 (acS o9);have HA9:Hid (∀a,A9=some a->¬S a.block):=(show ∀a,_->_ from fun a e hs=>by
  have h1:=HD.out.gz _ hs;have h2:=akb o9 a.block (by rw[e];rfl);have h3:=HB8.out.size;omega)
 obtain⟨⟨qc0,qc1,qc2,qc3,qc4,qc5,qc6,qc7,qc8,qc9,qc10,qc11,qc12,qc13⟩,⟨qf0,qf1,qf2,qf3,qf4,qf5,qf6,qf7,qf8,qf9,qf10,qf11,qf12,qf13⟩,hlq⟩:=aci n9.out;clear o9 b9 HP8;have hmx:max (xG:Int) (yG:Int)=(G:Int):=by have:=HG.out;omega
 have ho:=HO.out;have HFIN:Hid (StpD N S w g (7,s) (.returned (ajt 7)) w9):=StpD.from HB9.out rfl ((HD.out.below HB9.out).grown (Tch.refl _ _)) (Tch.refl _ _);go_wp2_with fail
 refine(HROOM.out _ HB9.out).mono ?_;rintro e w10 ⟨rfl,rfl⟩;clear qc0 qc1 qc2 qc3 qc4 qc5 qc6 qc7 qc8 qc9 qc10 qc11 qc12 qc13 qf0 qf1 qf2 qf3 qf4 qf5 qf6 qf7 qf8 qf9 qf10 qf11 qf12 qf13 hlq;by_cases hfar:M<m\/4611686018427387904<=G
 · rw[if_pos hfar]at ho;subst ho;by_cases hf1:M<m
   · have g1:decide ((M:Int)<(m:Int))=true:=decide_eq_true (by omega);have g1':decide (M<m)=true:=decide_eq_true hf1;go_wp2_with fail
     go_ret
     exact HFIN.out
   · have g1:decide ((M:Int)<(m:Int))=false:=decide_eq_false (by omega);have g1':decide (M<m)=false:=decide_eq_false hf1;obtain rfl:G=4611686018427387904:=by omega
     go_wp2_with fail
     go_ret
     exact HFIN.out
 · rw[if_neg hfar]at ho;have g1:decide ((M:Int)<(m:Int))=false:=decide_eq_false (by omega);have g1':decide (M<m)=false:=decide_eq_false (by omega);have g2:((G:Int)==4611686018427387904)=false:=by rw[beq_eq_false_iff_ne];omega
   have hGl':G<4611686018427387904:=by omega
   have hmM:m<=M:=by omega
   have HO2:=hE0 ho;clear ho hfar HFIN HO;obtain⟨⟨qc0,qc1,qc2,qc3,qc4,qc5,qc6,qc7,qc8,qc9,qc10,qc11,qc12,qc13⟩,⟨qf0,qf1,qf2,qf3,qf4,qf5,qf6,qf7,qf8,qf9,qf10,qf11,qf12,qf13⟩,hlq⟩:=aci n9.out;go_wp2_with fail
   clear qc0 qc1 qc2 qc3 qc4 qc5 qc6 qc7 qc8 qc9 qc10 qc11 qc12 qc13 qf0 qf1 qf2 qf3 qf4 qf5 qf6 qf7 qf8 qf9 qf10 qf11 qf12 qf13 hlq;refine(HOLD.out _ A1 c1 A2 c2 B1 k1 B2 k2).mono ?_;rintro e w10 ⟨rfl,hb10⟩;have HB10:=hE0 (HB9.out.trans (hb10.mono HB9.out.size));have HR10:=hE0 ((HR9.out.below hb10).more hb10.size);clear hb10;go_wp2_with fail
   refine(HALF.out _ HB10.out).mono ?_;rintro e w11 ⟨rfl,rfl⟩;have hG1:((G:Int)+1)=((G+1:Nat):Int):=rfl;have HG1:=hE0 hG1;clear hG1;have HLAY:=hE0 (asR (HD.out.below HB10.out) hN2 (by omega) hleft p half hp2 A9 c9 b (by rw[HM.out];exact HR10.out) (by rw[HM.out];exact hc9.1) (by omega) HA9.out h1 (by rw[HM.out,hMM.out];exact hmM) G hGl');rw[HM.out,HO2.out]at HLAY;go_wp2_with fail
   rw[HG1.out];refine HLAY.out.mono ?_;rintro e w12 ⟨rfl,hR,hT⟩;have HF:=hE0 (StpD.from HB10.out rfl hR hT);clear hR hT HLAY;go_wp2
   go_ret
   exact HF.out
end
theorem anc (w:World) (hE:ET w):
 Calls Tryz.prog 46 #[] w fun e w'=>e= .returned (.bool true)/\Below w.heap.size w w':=by
 have HDN:=hE0 (arF w 20 (by omega) (by omega));have HHN:=hE0 (fun W=>ahd W 0 1024 (by omega) (by omega) (by omega) (by omega));have HE:=hE0 hE;have HE0:=hE0 hE.lt;clear hE;go_enter Tryz.func46,Tryz.ntmps46
 go_wp2_with fail
 refine HDN.out.mono ?_;rintro e w1 ⟨rfl,hdk,hb1⟩;have hds:=DS.made (N:=20) hdk (by rw[List.length_replicate]);obtain⟨gd,hgd⟩:=nmE (w.heap.size+1);obtain⟨S,hS⟩:=nmE (ad1 (fun _=>False) w w1);obtain⟨s0,hs0⟩:∃s0:Dst,(⟨List.replicate (20*512) 0,[],-1,false⟩:Dst)=s0:=⟨_,rfl⟩;rw[hgd,hS,hs0]at hds;rw[hgd];have HS:Hid (∀j,S j->w.heap.size<=j/\j<w1.heap.size):=fun j hj=>by
  rw[<-hS]at hj;exact hj.elim False.elim id
 have HDS:=hE0 hds;have HB1:=hE0 hb1;have HL0:Hid (akY s0/\s0.wt= []/\s0.bs.length=10240/\adC s0.bs s0.wt 10 0=arb/\adC s0.bs s0.wt 10 1=arb/\s0.off=false/\s0.left= -1):=by
  subst hs0;exact⟨⟨rfl,by show(-1:Int)<0;decide⟩,rfl,List.length_replicate,ag6 _ _ _ (by omega),ag6 _ _ _ (by omega),rfl,rfl⟩
 have HE1:=hE0 (HE.out.below hb1);clear hdk hb1 hds hgd hS hs0 HDN;go_wp2_with fail
 refine(HHN.out w1).mono ?_;intro e w2 hm;obtain⟨q,g,A,c,bs,rfl,hv,hb2⟩:=hm.hv;have HB2:=hE0 (HB1.out.trans (hb2.mono HB1.out.size));have HD2:=hE0 (HDS.out.below hb2);have HV2:=hE0 hv;have HW2:=hE0 hb2.size;have HE2:=hE0 (HE1.out.below hb2);have HB1P:=hE0 HB1.out.size;obtain⟨dc,hdc⟩:=nmE ((aez 1024).doC ((1:Nat):Int) 0 100 0 0 []);have HD:=hv.do_ hb2.size (HE1.out.below hb2) (by have:=HE1.out.lt;omega) 1 (by omega) 0 100 0 0 0 0 none [] (by omega) (by omega) (by omega) (by omega) rfl (Rd.nil_) (by omega) dc hdc;have HQ:Hid ((⟨0,192,0,[],St5.none⟩,up19A)=dc):=by rw[<-hdc];exact up19_1.symm
 obtain⟨⟨ck1,ch1,cn1,cb1,⟨sa1,sb1,sc1,sd1,se1⟩⟩,H1⟩:=dc;unfold abp at HD;dsimp only at HD;obtain⟨cbl,hcbl⟩:=nmE cb1.length;have HCB:=hE0 hcbl;have HDO:=hE0 HD;clear HD hm hv hb2 HHN HDS HE1 hdc hcbl;go_wp2_with fail
 refine HDO.out.mono ?_;rintro e w3 ⟨⟨A3,k3,rfl,ho3⟩,A',c',bs',hv3,t3,b3⟩;unfold rpV ahB;dsimp only at hv3 ⊢;rw[HCB.out];obtain⟨e1,rfl⟩:=Prod.mk.inj HQ.out;injection e1 with q1 q2 q3 q4 q5;have HCH:Hid (ch1=192):=q2.symm;have hd3:=HD2.out.tch t3 fun j hj hf=>by have h1:=(HS.out j hj).2;have h2:=HV2.out.fB hf;omega
 obtain⟨w4,hw4,n4,b4⟩:=abx w3 50 (.int .i64 ck1) (.int .u64 (ch1:Int)) (.int .u64 (cn1:Int)) (.slice A3 cbl k3) (.int .i64 (sa1:Int)) (.int .i64 (sb1:Int)) (.int .i64 (sc1:Int)) (.int .i64 (sd1:Int)) (.int .i64 (se1:Int));obtain⟨⟨z0,z1,z2,z3,z4,z5,z6,z7,z8⟩,_,hz8⟩:=aaS n4.out;have HV4:=hv3.below b4.out;have hB3:=HB2.out.trans (b3.mono HB1P.out);have hB4:=hB3.trans (b4.out.mono hB3.size);obtain⟨y3,hy3⟩:∃y:List UInt8,[1,2,3]=y:=⟨_,rfl⟩;have hyl:y3.length=3:=by rw[<-hy3];rfl
 obtain⟨w5,hw5⟩:=nmE (w4.alloc (.cells #[.int .u8 1, .int .u8 2, .int .u8 3] 5));have b5:=abE hw5;have f5:Fill w5 w4.heap.size 5 y3:=by rw[<-hw5,<-hy3];exact Fill.made w4 5 [1,2,3]
 have hv5:=HV4.below b5;have hB5:=hB4.trans (b5.mono hB4.size);have hE5:=HE.out.below hB5;have hd2:=hv5.do_ (by have:=hB5.size;have:=b5.size;have:=b4.out.size;have:=t3.size;have:=HW2.out;omega) hE5 (by have:=HB1P.out;have:=HE0.out;omega) 7 (by omega) ch1 0 0 0 3 3 (some ⟨w4.heap.size,0,none⟩) y3 (by rw[HCH.out];omega) (by omega) (by omega) (by omega) hyl f5.reads (by omega) (Rp.err 0,up19B) (by rw[HCH.out,<-hy3];exact avw);unfold abp at hd2;have HDO2:=hE0 hd2;have H23:=hE0 t3.size;have HV5:=hE0 hv5;have HB5:=hE0 hB5;have HD5:=hE0 ((hd3.below b4.out).below b5);have N5:=hE0 ((b5.block _ (aaa n4.out)).trans n4.out);have H25:=hE0 (show w2.heap.size<=w5.heap.size from by have:=b5.size;have:=b4.out.size;have:=t3.size;omega);have HW5:=hE0 hw5;clear hv3 t3 b3 q1 q2 q3 q4 q5 hd3 HV4 hB3 hB4 hyl hw5 b5 f5 hv5 hB5 hE5 hd2 hy3 HDO HD2 HV2 ho3 HQ;go_wp2_with (first | (rw[hw4.out]) | (rw[HW5.out]) | fail)
 refine HDO2.out.mono ?_;rintro e w6 ⟨⟨A6,k6,rfl,_⟩,A'',c'',bs'',hv6,t6,b6⟩;have hd6:=HD5.out.tch t6 fun j hj hf=>by have h1:=(HS.out j hj).2;have h2:=HV5.out.fB hf;omega
 have n6:=HV5.out.ph.locO t6 N5.out (by decide) (by decide) (by decide);have HB6:=hE0 (HB5.out.trans (b6.mono HB1P.out));have HD6:=hE0 hd6;have N6:=hE0 n6;obtain⟨e1,e2⟩:=avx;obtain⟨o1,o2,o3⟩:=aq5 hv6.ph.rd e1 (by rw[e2];omega);have od:=avy hv6.ph.rd;obtain⟨b,hb⟩:=nmE (aaZ bs''.length (up19B.blks.map toR) (ofD bs'' up19B.blks));obtain⟨L,hL⟩:=nmE (up19B.blks.map toR);obtain⟨d,hd⟩:=nmE (ofD bs'' up19B.blks);have hLb:L.map toB= [⟨184,128,true⟩]:=by rw[<-hL,avt,e1]
 have hsv:=aq8 HD6.out 10 (by omega) (by omega) (by omega) HL0.out.2.2.2.2.2.1 (by rw[HL0.out.2.1];exact Nat.zero_le _) (by rw[HL0.out.2.2.2.2.2.2];omega) arb arb HL0.out.2.2.2.1 HL0.out.2.2.2.2.1 hv6.ph _ rfl;rw[hb]at hsv o3;rw[hL,hd]at hb o2;rw[hd]at od;rw[o1]at hb;have hsp:asr arb arb 10 b s0=adL (0*10) b (abQ 1 b.length (abZ 0 b)) s0:=by
  unfold asr;rw[if_neg (by show ¬(512*(10-1)<b.length\/4611686018427387904<=max 0 0);omega)];rfl
 rw[hsp]at hsv;obtain⟨s1,hs1⟩:=nmE (adL (0*10) b (abQ 1 b.length (abZ 0 b)) s0);obtain⟨l1,l2,l3,l4,l5,l6,l7⟩:=HL0.out;obtain⟨v1,v2,v3⟩:=an9 l1 (0*10) b (abQ 1 b.length (abZ 0 b));have hx:=aoa l1 l2 10 0 1 (184+128) L d o2 b hb (by omega) (by omega) (by omega) (by omega) (by omega);have hy:=al2 l1 l2 10 0 1 b (abQ 1 b.length (abZ 0 b)) (aea _ _ _) (by omega) (by omega) (by omega) (by omega);rw[l2]at l5;rw[hs1]at hsv v1 v2 v3 hx hy;rw[l5]at hy;have HSV:=hE0 hsv;have HV:Hid (s1.1=0/\s1.2.wt= []/\s1.2.off=false/\adC s1.2.bs s1.2.wt 10 0=⟨1,b.length,abZ 0 b,true,184+128,L,d⟩/\adC s1.2.bs s1.2.wt 10 1=arb):=⟨v1,v3,v2.1,by rw[v3];exact hx,by rw[v3];exact hy⟩;have HLB:=hE0 hLb;have HMM:=hE0 o2;have HOD:=hE0 od;have H26:=hE0 (show w2.heap.size<=w6.heap.size from by have:=t6.size;have:=H25.out;omega);have HL6:=hE0 (aaa n6);have HL64:=hE0 (show w1.heap.size<=w3.heap.size from Nat.le_trans HW2.out H23.out);clear hv6 t6 b6 hd6 n6 e1 e2 o1 o2 o3 od hb hL hd hLb hsv hsp l1 l2 l3 l4 l5 l6 l7 v1 v2 v3 hx hy hs1 HDO2 HV5 HD5 N5 z0 z1 z2 z3 z4 z5 z6 z7 z8 HB5;go_wp2_with fail
 refine HSV.out.mono ?_;rintro e w7 ⟨rfl,hd7,t7⟩;have HB7:=hE0 (HB6.out.trans (t7.below (fun k hk=>(HS.out k hk).1) HB6.out.size));have n7:=(t7.block _ HL6.out (fun hs=>by have:=(HS.out _ hs).2;have:=HL64.out;omega)).trans N6.out;have N7:=hE0 n7;have HLD2:Hid (Calls Tryz.prog 30 #[.pointer (some ⟨gd,0,none⟩), .int .u64 4096, .int .i64 4096] w7 fun e w'=>Below w7.heap.size w7 w'/\∃out H q g A c,e= .returned (.tuple #[.pointer (some ⟨q,0,none⟩), .nilIface])/\Hv w7.heap.size w' q g 4096 4096 A c out H/\H.blks= [⟨184,128,true⟩]/\ofD out H.blks= [1::2::3::List.replicate 109 165]):=by
  obtain⟨h1,h2,h3,h4,h5⟩:=HV.out;refine(aqU hd7 10 (by omega) (by omega) (by omega) h3 _ arb h4 h5 4096 (by omega) 4096 (by omega) (0,184+128,L,d) rfl).mono ?_;rintro e w' ⟨hb,h⟩;rw[if_pos rfl]at h;obtain⟨out,H,q,g,A,c,hl,rfl,hp,q1,q2,q3⟩:=h;obtain⟨_,_,_,_,_,hw,_,hof,_⟩:=amf HMM.out hl;have e1:H.blks= [⟨184,128,true⟩]:=by
   have:=hp.rd.rt.walk;rw[hw,HLB.out]at this;injection this with this;exact this.symm
  refine⟨hb,out,H,q,g,A,c,rfl,⟨hp,q1,q2,q3⟩,e1,?_⟩;rw[e1,<-HLB.out,hof];exact HOD.out
 rw[HV.out.1];rw[show ajt 0= .nilIface from rfl];clear hd7 t7 n7 HSV N6 HB6 HD6;go_wp2_with fail
 refine HLD2.out.mono ?_;rintro e w8 ⟨hb8,out8,H8,q8,g8,A8,c8,rfl,hv8,e8,d8⟩;obtain⟨⟨z0,z1,z2,z3,z4,z5,z6,z7,z8⟩,_,hz8⟩:=aaS ((hb8.block _ (aaa N7.out)).trans N7.out);have HB8:=hE0 (HB7.out.trans (hb8.mono HB7.out.size));have HP7:=hE0 (show 0<w7.heap.size from Nat.lt_of_lt_of_le HE0.out HB7.out.size);obtain⟨y4,hy4⟩:∃y:List UInt8,[1,2,3,165]=y:=⟨_,rfl⟩;have hyl:y4.length=4:=by rw[<-hy4];rfl
 have hr6:=avz hv8.ph.rd e8 d8;rw[hy4]at hr6;obtain⟨dc,hdc⟩:=nmE (H8.doC ((6:Nat):Int) ch1 4 0 0 []);have HD:=aux hv8.ph (HE.out.below HB8.out) (fun hf=>by have h1:=hv8.fB hf;have h2:=HP7.out;omega) ch1 4 0 0 0 0 none [] (by rw[HCH.out];omega) (by omega) (by omega);have hdc':H8.doC 6 ch1 4 0 0 []=dc:=hdc;rw[hdc']at HD;have HQ:Hid ((⟨0,0,0,y4,St5.none⟩,H8)=dc):=by rw[<-hdc,HCH.out];exact hr6.symm
 obtain⟨⟨ck3,ch3,cn3,cb3,⟨sa3,sb3,sc3,sd3,se3⟩⟩,H3⟩:=dc;unfold abp at HD;dsimp only at HD;obtain⟨e1,e2⟩:=Prod.mk.inj HQ.out;injection e1 with q1 q2 q3 q4 q5;subst e2 q4 q1;clear q2 q3 q5 hdc';have HDO:=hE0 HD;have HYL:=hE0 hyl;have HY4:=hE0 hy4;have HE8:=hE0 e8;have HV8:=hE0 hv8;have N8:=hE0 ((hb8.block _ (aaa N7.out)).trans N7.out);have HW78:=hE0 hb8.size;have H07:=hE0 HB7.out.size;clear hb8 hv8 e8 d8 hyl hr6 hdc HD HQ HLD2 N7 hy4;go_wp2_with fail
 refine HDO.out.mono ?_;rintro e w9 ⟨⟨A9,k9,rfl,ho9⟩,_,b9⟩;have hv9:=HV8.out.below b9;unfold rpV ahB;dsimp only at ho9 ⊢;rw[HYL.out]at ho9 ⊢;clear z0 z1 z2 z3 z4 z5 z6 z7 z8 hz8;obtain⟨w10,hw10,n10,b10⟩:=abx w9 50 (.int .i64 0) (.int .u64 (ch3:Int)) (.int .u64 (cn3:Int)) (.slice A9 4 k9) (.int .i64 (sa3:Int)) (.int .i64 (sb3:Int)) (.int .i64 (sc3:Int)) (.int .i64 (sd3:Int)) (.int .i64 (se3:Int));have hB9:=HB8.out.trans (b9.mono HB8.out.size);have hB10:=hB9.trans (b10.out.mono hB9.size);have m9:=(b9.block _ (aaa N8.out)).trans N8.out;have M10:=hE0 ((b10.out.block _ (aaa m9)).trans m9);obtain⟨⟨z0,z1,z2,z3,z4,z5,z6,z7,z8⟩,_,hz8⟩:=aaS M10.out;have hv10:=hv9.below b10.out;have ho10:=aaw ho9 b10.out;have h3:H8.doC ((3:Nat):Int) ch1 0 0 0 []=(Rp.err 0,H8.give 0):=by
  rw[HCH.out];have e:H8.doC ((3:Nat):Int) 192 0 0 0 []=_:=aqY (H:=H8) 192 0 0 0 [];rw[e];unfold Hp.freeP;rw[atg HE8.out]
 have hnf:∀j,(Value.slice A9 4 k9).ownBlock=some j->w8.heap.size<=j/\j<w10.heap.size:=fun j e=>⟨(ho9.lt j e).1,(ho10.lt j e).2⟩;have HNF:=hE0 (fun j (e:(Value.slice A9 4 k9).ownBlock=some j)=>(⟨fun hf=>by have h1:=HV8.out.ph.ar.foot_lt hf;have h2:=(hnf j e).1;omega,(hnf j e).2⟩:¬foot g8 A8 j/\j<w10.heap.size));have HD:=hv10.do4_ (by have:=b10.out.size;have:=b9.size;have:=HW78.out;omega) (HE.out.below hB10) HP7.out 3 (by omega) ch1 0 0 0 0 0 none [] (by rw[HCH.out];omega) (by omega) (by omega) (by omega) rfl (Rd.nil_) (by omega) _ h3;unfold abp at HD;have HDO3:=hE0 HD;have HB10:=hE0 hB10;have HV10:=hE0 hv10;have HO10:=hE0 ho10;have HB10S:=hE0 (show w7.heap.size<=w10.heap.size from by have:=b10.out.size;have:=b9.size;have:=HW78.out;omega);clear hv9 b9 ho9 hB9 hB10 m9 hv10 ho10 hnf h3 HD HDO HV8 N8 HB8;go_wp2_with (first | (rw[hw10.out]) | fail)
 refine HDO3.out.mono ?_;rintro e w11 ⟨⟨A11,k11,rfl,_⟩,Ab,c',bs',hv11,t11,b11,hA11⟩;unfold rpV ahB Rp.err St5.none;dsimp only;clear z0 z1 z2 z3 z4 z5 z6 z7 z8 hz8;obtain⟨w12,hw12,n12,b12⟩:=abx w11 50 (.int .i64 0) (.int .u64 0) (.int .u64 0) (.slice A11 0 k11) (.int .i64 0) (.int .i64 0) (.int .i64 0) (.int .i64 0) (.int .i64 0);have hB11:=HB10.out.trans (b11.mono H07.out);have hB12:=hB11.trans (b12.out.mono hB11.size);have m11:=HV10.out.ph.locO t11 n10.out (by decide) (by decide) (by decide);have M12:=hE0 ((b12.out.block _ (aaa m11)).trans m11);have hv12:=hv11.below b12.out;have ho12:=aaw (ahh HO10.out fun j e=>t11.block j (HNF.out j e).2 (HNF.out j e).1) b12.out;have hnf2:∀j,(Value.slice A9 4 k9).ownBlock=some j->¬foot g8 Ab j:=fun j e hf=>by
  rcases hA11 with rfl | hA
  · exact(HNF.out j e).1 hf
  · rcases hf with hf | ⟨a,ea,rfl⟩
    · exact(HNF.out j e).1 (.inl hf)
    · have h1:=hA a ea;have h2:=(HNF.out _ e).2;omega
 have hb9:=asP HE8.out;have hend:anz (H8.give 0).blks=184:=by rw[hb9.1];rfl
 have hgc:(H8.give 0).cap=4096:=hv12.ph.cp;have h5:=avu hv12.ph.rd 165 (show acn 3880=some 3904 from rfl) (show aaG ((3904:Nat):Int)=true from by decide) (by rw[hend,hgc];omega);obtain⟨dc,hdc⟩:=nmE ((H8.give 0).doC ((1:Nat):Int) 0 3880 0 0 []);have hk5:dc.1.code=0:=by
  rw[<-hdc];have e:(H8.give 0).doC ((1:Nat):Int) 0 3880 0 0 []=_:=aoo (H:=H8.give 0) 0 3880 0 0 [];rw[e];exact h5
 have HD:=hv12.do_ (by have:=b12.out.size;have:=t11.size;have:=HB10S.out;omega) (HE.out.below hB12) HP7.out 1 (by omega) 0 3880 0 0 0 0 none [] (by omega) (by omega) (by omega) (by omega) rfl (Rd.nil_) (by omega) dc hdc;obtain⟨⟨ck5,ch5,cn5,cb5,⟨sa5,sb5,sc5,sd5,se5⟩⟩,H5⟩:=dc;unfold abp at HD;dsimp only at HD hk5;subst hk5;obtain⟨cbm,hcbm⟩:=nmE cb5.length;have HCM:=hE0 hcbm;have HDO5:=hE0 HD;have HV12:=hE0 hv12;have HO12:=hE0 ho12;have HB12:=hE0 hB12;have HNF2:Hid (∀j,(Value.slice A9 4 k9).ownBlock=some j->¬foot g8 Ab j):=hnf2;have N12:=hE0 n12.out;clear hv11 t11 b11 hA11 hB11 hB12 m11 hv12 ho12 hnf2 hb9 hend hgc h5 hdc HD hcbm HDO3 HV10 HO10 HB10;go_wp2_with (first | (rw[hw12.out]) | fail)
 refine HDO5.out.mono ?_;rintro e w13 ⟨⟨A13,k13,rfl,_⟩,A',c',bs',hv13,t13,b13⟩;unfold rpV ahB;dsimp only;rw[HCM.out];obtain⟨w14,hw14,n14,b14⟩:=abx w13 50 (.int .i64 0) (.int .u64 (ch5:Int)) (.int .u64 (cn5:Int)) (.slice A13 cbm k13) (.int .i64 (sa5:Int)) (.int .i64 (sb5:Int)) (.int .i64 (sc5:Int)) (.int .i64 (sd5:Int)) (.int .i64 (se5:Int));have hB13:=HB12.out.trans (b13.mono H07.out);have HB14:=hE0 (hB13.trans (b14.out.mono hB13.size));have m13:=HV12.out.ph.locO t13 M12.out (by decide) (by decide) (by decide);have m14:=(b14.out.block _ (aaa m13)).trans m13;have l13:=HV12.out.ph.locO t13 N12.out (by decide) (by decide) (by decide);have l14:=(b14.out.block _ (aaa l13)).trans l13;have ho14:=aaw (ahh HO12.out fun j e=>t13.block j (HO12.out.lt j e).2 (HNF2.out j e)) b14.out;obtain⟨w15,hw15⟩:=nmE (w14.alloc (.cells #[.int .u8 1, .int .u8 2, .int .u8 3, .int .u8 165] 5));have b15:=abE hw15;have f15:Fill w15 w14.heap.size 5 y4:=by rw[<-hw15,<-HY4.out];exact Fill.made w14 5 [1,2,3,165]
 have r15:=f15.reads;rw[HYL.out]at r15;obtain⟨S9,hS9⟩:=nmE (anh y4);have q1:(convert 37 9 (.slice A9 4 k9)).run Tryz.prog w14= .ok (.string S9) w14:=by rw[<-hS9];exact adR (acS ho14)
 have q2:(convert 37 9 (.slice (some ⟨w14.heap.size,0,none⟩) 4 4)).run Tryz.prog w15= .ok (.string S9) w15:=by rw[<-hS9];exact adR r15
 obtain⟨⟨z0,z1,z2,z3,z4,z5,z6,z7,z8⟩,_,hz8⟩:=aaS m14;obtain⟨⟨u0,u1,u2,u3,u4,u5,u6,u7,u8⟩,_,hu8⟩:=aaS ((b15.block _ (aaa l14)).trans l14);obtain⟨⟨x0,x1,x2,x3,x4,x5,x6,x7,x8⟩,_,hx8⟩:=aaS ((b15.block _ (aaa n14.out)).trans n14.out);have HB15:=hE0 (HB14.out.trans (b15.mono HB14.out.size));have HW15:=hE0 hw15;clear hv13 t13 b13 hB13 m13 m14 l13 l14 ho14 hw15 b15 f15 r15 hS9 HDO5 HV12 HO12 HB12;go_wp2_with (first | (rw[hw14.out]) | (rw[HW15.out]) | fail)
 go_ret
 exact⟨rfl,HB15.out⟩
end Go.Proofs.YtncadccbepjekaaGreatDoor
