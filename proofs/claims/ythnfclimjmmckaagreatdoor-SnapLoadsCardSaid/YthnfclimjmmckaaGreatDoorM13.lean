/- Texts of mine, joined. -/
import Derived.Lib.SmallJoins
import Derived.Test.YthnfclimjmmckaaGreatDoorM12
set_option maxRecDepth 100000
set_option maxHeartbeats 16000000
namespace Go.Proofs.YthnfclimjmmckaaGreatDoor
open Go.RowKit
theorem ash (w:World) (hE:ET w) (N:Nat) (x y:Sl) (hx:x.In w) (hy:y.In w) (A3:Option Addr) (k3:Nat) (l3:List Int) (hr3:IRd w w.heap.size A3 l3) (bt:UInt8) (base:Nat) (hb64:base<18446744073709551616) (cap:Int) (hc: -9223372036854775808<=cap/\cap<=9223372036854775807) (hN:2<=N) (hN2:N<=40) (hf:x.b.length+y.b.length<=20000/\x.l.length+y.l.length<=100/\x.d.length+y.d.length<=100/\l3.length<=10):
 Calls Tryz.prog 4 #[.int .i64 (N:Int),x.v,y.v, .slice A3 l3.length k3, .int .u8 (bt.toNat:Int), .int .u64 (base:Int), .int .i64 cap] w fun e w'=>e= .returned (.bool true)/\Below w.heap.size w w':=by
 have HDISK:=hE0 (fun W (hW:Below w.heap.size w W)=>amA W N hN hN2 x y (hx.below hW) (hy.below hW));have HXD:=hE0 hx.rd;have HYD:=hE0 hy.rd;have HI:=hE0 hr3;have HE:=hE0 hE;unfold Sl.v at HDISK ⊢;obtain⟨xb,hxb⟩:=nmE x.b.length;obtain⟨xl,hxl⟩:=nmE x.l.length;obtain⟨xd,hxd⟩:=nmE x.d.length;obtain⟨yb,hyb⟩:=nmE y.b.length;obtain⟨yl,hyl⟩:=nmE y.l.length;obtain⟨yd,hyd⟩:=nmE y.d.length;obtain⟨al,hal⟩:=nmE l3.length;rw[hxb,hxl,hxd,hyb,hyl,hyd,hal]at hf;rw[hxb,hxl,hxd,hyb,hyl,hyd]at HDISK;rw[hxb,hxl,hxd,hyb,hyl,hyd,hal];have HXL:=hE0 hxd;have HYL:=hE0 hyd;have HAL:=hE0 hal;clear hxb hxl hxd hyb hyl hyd hal hr3 hE hx hy;obtain⟨f1,f2,f3,f4⟩:=hf;have g0:decide ((N:Int)<2)=false:=decide_eq_false (by omega);have g1:decide ((40:Int)<(N:Int))=false:=decide_eq_false (by omega);have g1n:decide (40<N)=false:=decide_eq_false (by omega);obtain⟨w1,ha1,n1,b1⟩:=agx w 78 (.int .u64 (x.G:Int)) (.int .i64 x.len) (.bool x.right) (.slice x.A xb x.c) (.bool x.image) (.int .i64 x.n) (.slice x.L xl x.lc) (.slice x.D xd x.dc);obtain⟨w2,ha2,n2,b2⟩:=agx w1 78 (.int .u64 (y.G:Int)) (.int .i64 y.len) (.bool y.right) (.slice y.A yb y.c) (.bool y.image) (.int .i64 y.n) (.slice y.L yl y.lc) (.slice y.D yd y.dc);have n12:=hE0 ((b2.out.block _ (aaa n1.out)).trans n1.out);have HB2:=hE0 (b1.out.trans (b2.out.mono b1.out.size));have HUP:=hE0 (alV w2);have g2:decide ((20000:Int)<(xb:Int)+(yb:Int))=false:=decide_eq_false (by omega);have g2n:decide (20000<xb+yb)=false:=decide_eq_false (by omega);have g3:decide ((100:Int)<(xl:Int)+(yl:Int))=false:=decide_eq_false (by omega);have g3n:decide (100<xl+yl)=false:=decide_eq_false (by omega);have g4:decide ((100:Int)<(xd:Int)+(yd:Int))=false:=decide_eq_false (by omega);have g4n:decide (100<xd+yd)=false:=decide_eq_false (by omega);have g5:decide ((10:Int)<(al:Int))=false:=decide_eq_false (by omega);have g5n:decide (10<al)=false:=decide_eq_false (by omega);go_enter Tryz.func4,Tryz.ntmps4
 go_wp2_with (first | (rw[ha1.out]) | (rw[ha2.out]) | fail)
 refine HUP.out.mono ?_;rintro e w3 ⟨rfl,hb3⟩;have HB3:=hE0 (HB2.out.trans (hb3.mono HB2.out.size));have m1:=hE0 ((hb3.block _ (aaa n12.out)).trans n12.out);have m2:=hE0 ((hb3.block _ (aaa n2.out)).trans n2.out);obtain⟨⟨c0,c1,c2,c3,c4,c5,c6,c7⟩,_,hlc⟩:=abT m1.out;obtain⟨⟨d0,d1,d2,d3,d4,d5,d6,d7⟩,_,hld⟩:=abT m2.out;clear hb3 HUP;go_wp2_with fail
 clear g2 g2n g3 g3n g4 g4n g5 g5n g0 g1 g1n;go_loopw [16] (fun t W=>∃j:Nat,t= .int .i64 (j:Int)/\w3=W) (fun t _=>(xd+yd)-(intOf t).toNat)
 case atStart=>exact⟨0,rfl,rfl⟩
 case round=>
  obtain⟨j,rfl,rfl⟩:=hrel;by_cases hjx:j<xd
  · skip
    have gx:decide ((j:Int)<(xd:Int))=true:=decide_eq_true (by omega);have gxn:decide (j<xd)=true:=decide_eq_true (by omega);obtain⟨u,hu⟩:∃u,x.d[j]?=some u:=⟨x.d[j]'(by rw[HXL.out];exact hjx),List.getElem?_eq_getElem _⟩;obtain⟨bkx,okx,hAx,_,hcx⟩:=(HXD.out.below HB3.out) (by rw[HXL.out];omega);obtain⟨Ax_,kx_,px,_⟩:=hcx j u hu;obtain⟨un,hun⟩:=nmE u.length;rw[hun]at px;rw[hAx]at c7;clear hAx hcx hu hun;by_cases hbu:5000<un
    · skip
      have gu:decide ((5000:Int)<(un:Int))=true:=decide_eq_true (by omega);have gun:decide (5000<un)=true:=decide_eq_true (by omega);go_wp2_with fail
      go_ret
      exact⟨rfl,HB3.out⟩
    · skip
      have gu:decide ((5000:Int)<(un:Int))=false:=decide_eq_false (by omega);have gun:decide (5000<un)=false:=decide_eq_false (by omega);by_cases hjy:j<yd
      · skip
        have gy:decide ((j:Int)<(yd:Int))=true:=decide_eq_true (by omega);have gyn:decide (j<yd)=true:=decide_eq_true (by omega);obtain⟨v,hv⟩:∃v,y.d[j]?=some v:=⟨y.d[j]'(by rw[HYL.out];exact hjy),List.getElem?_eq_getElem _⟩;obtain⟨bky,oky,hAy,_,hcy⟩:=(HYD.out.below HB3.out) (by rw[HYL.out];omega);obtain⟨Ay_,ky_,py,_⟩:=hcy j v hv;obtain⟨vn,hvn⟩:=nmE v.length;rw[hvn]at py;rw[hAy]at d7;clear hAy hcy hv hvn;by_cases hbv:5000<vn
        · skip
          have gv:decide ((5000:Int)<(vn:Int))=true:=decide_eq_true (by omega);have gvn:decide (5000<vn)=true:=decide_eq_true (by omega);go_wp2_with fail
          go_ret
          exact⟨rfl,HB3.out⟩
        · skip
          have gv:decide ((5000:Int)<(vn:Int))=false:=decide_eq_false (by omega);have gvn:decide (5000<vn)=false:=decide_eq_false (by omega);go_wp2_with fail
          go_roundw
          case rel=>exact⟨j+1,by go_num,trivial⟩
          case measure=>simp only[intOf];omega
      · skip
        have gy:decide ((j:Int)<(yd:Int))=false:=decide_eq_false (by omega);have gyn:decide (j<yd)=false:=decide_eq_false (by omega);go_wp2_with fail
        go_roundw
        case rel=>exact⟨j+1,by go_num,trivial⟩
        case measure=>simp only[intOf];omega
  · skip
    have gx:decide ((j:Int)<(xd:Int))=false:=decide_eq_false (by omega);have gxn:decide (j<xd)=false:=decide_eq_false (by omega);by_cases hjy:j<yd
    · skip
      have gy:decide ((j:Int)<(yd:Int))=true:=decide_eq_true (by omega);have gyn:decide (j<yd)=true:=decide_eq_true (by omega);obtain⟨v,hv⟩:∃v,y.d[j]?=some v:=⟨y.d[j]'(by rw[HYL.out];exact hjy),List.getElem?_eq_getElem _⟩;obtain⟨bky,oky,hAy,_,hcy⟩:=(HYD.out.below HB3.out) (by rw[HYL.out];omega);obtain⟨Ay_,ky_,py,_⟩:=hcy j v hv;obtain⟨vn,hvn⟩:=nmE v.length;rw[hvn]at py;rw[hAy]at d7;clear hAy hcy hv hvn;by_cases hbv:5000<vn
      · skip
        have gv:decide ((5000:Int)<(vn:Int))=true:=decide_eq_true (by omega);have gvn:decide (5000<vn)=true:=decide_eq_true (by omega);go_wp2_with fail
        go_ret
        exact⟨rfl,HB3.out⟩
      · skip
        have gv:decide ((5000:Int)<(vn:Int))=false:=decide_eq_false (by omega);have gvn:decide (5000<vn)=false:=decide_eq_false (by omega);go_wp2_with fail
        go_roundw
        case rel=>exact⟨j+1,by go_num,trivial⟩
        case measure=>simp only[intOf];omega
    · skip
      have gy:decide ((j:Int)<(yd:Int))=false:=decide_eq_false (by omega);have gyn:decide (j<yd)=false:=decide_eq_false (by omega);go_wp2_with fail
      clear gx gxn gy gyn hjx hjy c0 c1 c2 c3 c4 c5 c6 c7 hlc d0 d1 d2 d3 d4 d5 d6 d7 hld;refine(HDISK.out w3 HB3.out).mono ?_;rintro e w4 ⟨AD,cD,bs,rfl,hown,hb4⟩;have HB4:=hE0 (HB3.out.trans (hb4.mono HB3.out.size));obtain⟨n5,hn5⟩:=nmE (512*N);rw[hn5]at hown;rw[hn5];have hn1:1024<=n5:=by omega
      have hn2:n5<=20480:=by omega
      obtain⟨gb,rfl⟩:∃gb,AD=some ⟨gb,0,none⟩:=by
       rcases hown.2 with⟨_,h0⟩ | ⟨q,_,_,hv,_⟩
       · omega
       · injection hv with h1 h2 h3;exact⟨q,h1⟩
      have HO4:=hE0 (ahD hown HB3.out.size);have hgb:w.heap.size<=gb:=abS HO4.out gb rfl;have HN5:=hE0 hn5;clear hown hb4 HDISK;go_wp2_with fail
      go_loopw [18] (fun t W=>∃(j:Nat) (bs':List UInt8),t= .int .i64 (j:Int)/\j<=al/\W.ownsRow w.heap.size 5 1 (.slice (some ⟨gb,0,none⟩) n5 cD) n5 (bs'.map bv)/\Below w.heap.size w W) (fun t _=>al-(intOf t).toNat)
      case atStart=>exact⟨0,bs,rfl,Nat.zero_le _,HO4.out,HB4.out⟩
      case round=>
       obtain⟨j,bs',rfl,hj,hown,hb⟩:=hrel;have hbl':bs'.length=n5:=by have:=hown.1;simpa using this
       by_cases hlt:j<al
       · have gj:decide ((j:Int)<(al:Int))=true:=decide_eq_true (by omega);have gjn:decide (j<al)=true:=decide_eq_true hlt;obtain⟨z,hz⟩:∃z,l3[j]?=some z:=⟨l3[j]'(by rw[HAL.out];exact hlt),List.getElem?_eq_getElem _⟩;obtain⟨b3,o3,hA3,hB3,hc3⟩:=HI.out (by rw[HAL.out];omega);have q3:=(hb.cell (p:=⟨b3,o3+j,none⟩) hB3).trans (hc3 j z hz);subst hA3;obtain⟨p,hp⟩:=nmE ((z%(n5:Int)).toNat);have hpl:p<n5:=by
          have h1:=Int.emod_nonneg z (b:=(n5:Int)) (by omega);have h2:=Int.emod_lt_of_pos z (b:=(n5:Int)) (by omega);omega
         have HPK:=hE0 (fun W=>anD z n5 W (by omega) (by omega) p hp);obtain⟨u,hu⟩:∃u,bs'[p]?=some u:=⟨bs'[p]'(by omega),List.getElem?_eq_getElem _⟩;have c0:wr.cell? ⟨gb,p,none⟩=some (.int .u8 (u.toNat:Int)):=by
          rw[hown.cellAt p (by omega),List.getElem?_map,hu];rfl
         have f0:=hown.frozenAt p;have lg:=hown.lt gb rfl;have lg2:=lg.2;have hi1:(p:Int)<(n5:Int):=by omega
         have hx0:=atA u bt;obtain⟨zb,hzb⟩:=nmE (u^^^bt);rw[hzb]at hx0;have hst:=(hown.stored p (bv zb)).1;rw[<-List.map_set]at hst;have HST:=hE0 (show(wr.setCell ⟨gb,p,none⟩ (.int .u8 (zb.toNat:Int))).ownsRow _ _ _ _ _ _ from hst);have HBS:=hE0 (hb.setCell (p:=⟨gb,p,none⟩) hgb (.int .u8 (zb.toNat:Int)));have HBR:=hE0 hb;clear hown hb hst hbl' hu hzb hp hz hc3;go_wp2_with fail
         refine(HPK.out wr).mono ?_;rintro e w5 ⟨rfl,rfl⟩;clear q3;go_wp2_with fail
         go_roundw
         case rel=>exact⟨j+1,_,by go_num,by omega,HST.out,HBS.out⟩
         case measure=>simp only[intOf];omega
       · have gj:decide ((j:Int)<(al:Int))=false:=decide_eq_false (by omega);have gjn:decide (j<al)=false:=decide_eq_false hlt;have hcp:=aeE hown;unfold maxLen at hcp;have hof:=arF wr (some ⟨gb,0,none⟩) cD bs' (by rw[hbl'];exact aak hown) (fun e=>by cases e) (by rw[hbl'];omega) (by omega) (by omega);have hnew:=fun W (hW:Below wr.heap.size wr W)=>apR W gb 0 cD bs' N (by omega) (by omega) (by rw[hbl'];exact((aak hown).below hW).more hW.size) (by rw[hbl'];exact hcp.1) (by omega);rw[hbl']at hof hnew;have HOF:=hE0 hof;have HNEW:=hE0 hnew;have HBW:=hE0 hb;have HBL:Hid (bs'.length=512*N):=(show _=_ by rw[hbl',HN5.out]);clear hown hof hnew hb hbl' hcp;go_wp2_with fail
         refine HOF.out.mono ?_;rintro e w5 ⟨gd,hgd,cd,rfl,hdk,hb5⟩;have hds:=DS.made hdk HBL.out;have HB5:=hE0 (HBW.out.trans (hb5.mono HBW.out.size));have HNW:=hE0 (HNEW.out w5 hb5);have hd0:∀k,abj (fun _=>False) wr w5 k->wr.heap.size<=k/\k<w5.heap.size:=fun k hk=>hk.elim False.elim id;obtain⟨S1,hS1⟩:=nmE (abj (fun _=>False) wr w5);rw[hS1]at hds hd0;have HDS:=hE0 hds;have HS1:=hE0 hd0;clear hdk hb5 hds hd0 hS1 HOF HNEW;go_wp2_with fail
         refine HNW.out.mono ?_;rintro e w6 ⟨rfl,⟨L6,cl6,ls6,hrq,hjd⟩,hb6⟩;have hrs:=RS.made hrq hjd HBL.out;have hd0:∀k,abj (fun _=>False) w5 w6 k->w5.heap.size<=k/\k<w6.heap.size:=fun k hk=>hk.elim False.elim id;obtain⟨S2,hS2⟩:=nmE (abj (fun _=>False) w5 w6);rw[hS2]at hrs hd0;obtain⟨gm,hgm⟩:=nmE w5.heap.size;rw[hgm]at hrs;rw[hgm];obtain⟨s0,hs0⟩:∃s0:Dst,(⟨bs',[],-1,false⟩:Dst)=s0:=⟨_,rfl⟩;rw[hs0]at hrs HDS;have HL0:Hid (ag1 s0/\s0.wt= []):=by
          subst hs0;exact⟨⟨rfl,by show(-1:Int)<0;decide⟩,rfl⟩
         have HIN:Hid (DS N S1 w6 gd s0/\RS N S2 w6 gm s0/\(∀k,S1 k->w.heap.size<=k)/\(∀k,S2 k->w.heap.size<=k)/\(∀k,S1 k->¬S2 k)/\Below w.heap.size w w6):=
          ⟨HDS.out.below hb6,hrs,fun k hk=>Nat.le_trans HBW.out.size (HS1.out k hk).1,fun k hk=>Nat.le_trans HB5.out.size (hd0 k hk).1,fun k h1 h2=>by have:=(HS1.out k h1).2;have:=(hd0 k h2).1;omega,HB5.out.trans (hb6.mono HB5.out.size)⟩
         clear hrq hjd hb6 hrs hd0 hS2 hgm hs0 HDS HS1 HNW HBW HB5 gj gjn;obtain⟨half,hh⟩:=nmE (N/2);have h1h:1<=half:=by omega
         have HHALF:=hE0 hh;clear hh;go_wp2_with fail
         go_loopw [22] (fun t W=>∃(j:Nat) (s:Dst) (S1 S2:Nat->Prop),t= .int .i64 (j:Int)/\j<=2/\(ag1 s/\s.wt= [])/\DS N S1 W gd s/\RS N S2 W gm s/\(∀k,S1 k->w.heap.size<=k)/\(∀k,S2 k->w.heap.size<=k)/\(∀k,S1 k->¬S2 k)/\Below w.heap.size w W) (fun t _=>2-(intOf t).toNat)
         case atStart=>
          obtain⟨i1,i2,i3,i4,i5,i6⟩:=HIN.out;exact⟨0,s0,S1,S2,rfl,by omega,HL0.out,i1,i2,i3,i4,i5,i6⟩
         case round=>
          clear HIN HL0;obtain⟨j,s,S1,S2,rfl,hj2,⟨hlv,hwt⟩,hds,hrs,hg1,hg2,hg12,hbW⟩:=hrel;by_cases hlt2:j<2
          · skip
            have gj2:decide ((j:Int)<2)=true:=decide_eq_true (by omega);obtain⟨X,hX⟩:=nmE (abw s.bs s.wt half 0);obtain⟨Y,hY⟩:=nmE (abw s.bs s.wt half 1);obtain⟨G,hG⟩:=nmE (aco X Y base cap);have hk10:G.1<=10:=by rw[<-hG];exact amX X Y base cap
            have hgok:G.1=0->acG (G.2.1:Int) G.2.2.1 G.2.2.2=true/\base%16=0/\base<=4611686018427387904/\1024<=cap/\cap<=16384/\(G.2.1:Int)<=cap:=by
             rw[<-hG];exact aqP (by rw[<-hX];exact aga _ _ _) (by rw[<-hY];exact aga _ _ _)
            have HLD:=hE0 (agY hds half HHALF.out h1h (by omega) hlv.1 X Y hX hY base hb64 cap hc G hG);have HLM:=hE0 (fun W (hW:Below wr.heap.size wr W)=>(hrs.below hW).load half HHALF.out h1h (by omega) hlv.1 X Y hX hY base cap hc G hG);have HGOK:=hE0 hgok;have HDS:=hE0 hds;have HRS:=hE0 hrs;have HBR:=hE0 hbW;have HLW:Hid (ag1 s/\s.wt= []):=⟨hlv,hwt⟩;have HXY:Hid (abw s.bs s.wt half 0=X/\abw s.bs s.wt half 1=Y):=⟨hX,hY⟩;have HG12:Hid ((∀k,S1 k->w.heap.size<=k)/\(∀k,S2 k->w.heap.size<=k)/\∀k,S1 k->¬S2 k):=⟨hg1,hg2,hg12⟩;obtain⟨kd,im,il,id⟩:=G;dsimp only at hk10 HGOK HLD HLM;clear hds hrs hbW hlv hwt hX hY hG hgok hg1 hg2 hg12;go_wp2_with fail
            refine HLD.out.mono ?_;rintro e w7 ⟨hb7,h7⟩;dsimp only at h7;have HB7:=hE0 hb7;have HL7:=hE0 (HLM.out w7 hb7);clear hb7 HLD HLM;by_cases hk:kd=0
            case' pos=>
             rw[if_pos hk]at h7;subst hk;obtain⟨out,Hq,q,ga,A,c,hlay,rfl,hph,_,_,_⟩:=h7;obtain⟨hm,hb16,hb62,hc1,hc2,hle⟩:=HGOK.out rfl;obtain⟨cn,rfl⟩:∃cn:Nat,cap=(cn:Int):=⟨cap.toNat,by omega⟩;rw[Int.toNat_natCast]at hph;have HPH:=hE0 hph;obtain⟨h16,htl,hdb,hmap,hrt⟩:=ao8 (cap:=cn) hm hlay (by omega);have HTD:Hid (ach 184 (il.map toB) im/\afT (il.map toB) id/\il=(il.map toB).map toR):=⟨htl,hdb,hmap⟩;have HRT:=hE0 hrt;clear hm hlay hph htl hdb hmap hrt hle HGOK;go_wp2_with fail
             refine HL7.out.mono ?_;rintro e w8 ⟨I1,I2,i1,i2,rfl,hr8,hd8,_,hb8⟩;dsimp only at hr8 hd8;dsimp only;obtain⟨ll,hll⟩:=nmE il.length;obtain⟨dl,hdl⟩:=nmE id.length;rw[hll,hdl];obtain⟨w9,ha9,m9,b9⟩:=ac0 w8 59 (.int .i64 0) (.slice none 0 0) (.slice none 0 0);obtain⟨w10,hp10,m10,b10,⟨z0,z1,z2⟩,⟨e0,e1,e2⟩,hle⟩:=afj m9 (.int .i64 (im:Int)) (.slice I1 ll i1) (.slice I2 dl i2);have hb810:=b10.out w8.heap.size w8 (Nat.le_refl _) b9.out;have HB10:=hE0 (HB7.out.trans ((hb8.trans (hb810.mono hb8.size)).mono HB7.out.size));have HP10:=hE0 (HPH.out.below (hb8.trans (hb810.mono hb8.size)));have HI10:Hid (RkRd w10 w10.heap.size I1 il/\DtRd w10 w10.heap.size I2 id):=⟨(hr8.below hb810).more hb810.size,(hd8.below hb810).more hb810.size⟩;have HLL:Hid (il.length=ll/\id.length=dl):=⟨hll,hdl⟩;clear hr8 hd8 hb8 hb810 hll hdl HL7 HPH;go_wp2_with (first | (rw[ha9.out]) | (rw[hp10.out]) | fail)
             clear z0 z1 z2 e0 e1 e2 hle;refine(ahl w10).mono ?_;rintro e w11 ⟨rfl,rfl⟩;go_wp2_with fail
             obtain⟨wd,hwd⟩:=nmE w10.drew;have hbd:=adE hwd;have md:=hE0 ((hbd.block _ (aaa m10.out)).trans m10.out);have HBD:=hE0 (HB10.out.trans (hbd.mono HB10.out.size));have HPD:=hE0 (HP10.out.below hbd);have HID:Hid (RkRd wd wd.heap.size I1 il/\DtRd wd wd.heap.size I2 id):=⟨(HI10.out.1.below hbd).more hbd.size,(HI10.out.2.below hbd).more hbd.size⟩;refine aad wd.heap.size [([0,2,3],1),([],4),([],5)] [6] [] (by kernel_rfl) (by kernel_rfl) (by kernel_rfl) (fun _ _ _ _ _ h=>h) ?_;rw[hwd];clear hwd hbd;obtain⟨⟨t0,t1,t2⟩,_,hlt⟩:=abO md.out;have q0:=tfE t0 hlt;have q1:=tfE t1 hlt;have q2:=tfE t2 hlt;refine tail_cons (l:= ?segA) ?hsegA ?_
             case hsegA=>simp only[pick,lE1,lE2,lE3];rfl
             repeat (go_big_quiet_step (fail))
             refine wpQuiet_nil ?_;clear q0 q1 q2 t0 t1 t2 hlt;refine aas (vs:= #[.pointer (some ⟨q,0,none⟩)]) Tryz.call29 rfl rfl rfl (R:=fun r w'=>∃g' A' c',r= .pointer (some ⟨g',0,none⟩)/\Ar w' 160 g' base cn A' c' out/\Below wd.heap.size wd w'/\wd.heap.size<=g'/\∀a,A'=some a->wd.heap.size<=a.block) ((ahN HPD.out).mono ?_) ?_
             · rintro e w' ⟨g',A',c',rfl,har,hb,h1,h2⟩;exact⟨_,rfl,hb,g',A',c',rfl,har,hb,h1,h2⟩
             rintro r we _ ⟨g',A',c',rfl,har,hbe,hg',hA'⟩;refine⟨we.heap.size,hbe.size,?_⟩;simp only[Act.put,lE4,lE5,lE6];refine tail_cons (l:= []) rfl (wpQuiet_nil ?_);have hhp:=ao7 we (im:Int) I1 I2 i1 i2 (il.map toB) id im h16 HTD.out.1 HTD.out.2.1 (by rw[<-HTD.out.2.2];exact(HID.out.1.below hbe).more hbe.size) ((HID.out.2.below hbe).more hbe.size) cn;rw[List.length_map,HLL.out.1,HLL.out.2]at hhp;refine aas (vs:= #[.agg #[.int .i64 (im:Int), .slice I1 ll i1, .slice I2 dl i2], .int .i64 (cn:Int)]) Tryz.call32 rfl rfl rfl (R:=fun r w'=>∃p ds F,r= .pointer (some ⟨p,0,none⟩)/\ds.length=ll/\HM F w' p (⟨cn,il.map toB,ds,fun _=> []⟩:Hp).rebuild/\(∀k,F k->we.heap.size<=k)/\Below we.heap.size we w') (hhp.mono ?_) ?_
             · rintro e w' ⟨p,ds,F,rfl,hds,hm8,hF,hb⟩;exact⟨_,rfl,hb,p,ds,F,rfl,hds,hm8,hF,hb⟩
             rintro r wf _ ⟨p,ds,F,rfl,hds,hm8,hF,hbf⟩;obtain⟨rt8,rc8,rd8⟩:=HRT.out ds (by rw[List.length_map,HLL.out.1];exact hds);obtain⟨F',hm',hFF,hFlt⟩:=HM.tight hm8;obtain⟨HR,hHR⟩:=nmE ((⟨cn,il.map toB,ds,fun _=> []⟩:Hp).rebuild);rw[hHR]at rt8 rc8 rd8 hm';have hdf:=hbe.trans (hbf.mono hbe.size);have al8:Al wd wf g' base cn A' c' out F' p HR:=⟨⟨hdf,har.below hbf,hg',hA',fun q hq=>by cases hq⟩,hm',fun k hk=>Nat.le_trans hbe.size (hF k (hFF k hk)),hFlt,fun k hk hf=>by
              have e1:=har.foot_lt hf;have e2:=hF k (hFF k hk);omega⟩
             have hsm:=aoE akz asC aow al8 rt8 rc8 hb62 (by omega) rd8;have HDF:=hE0 hdf;clear hds hm8 hF rt8 rc8 rd8 hm' hFF hFlt hHR hhp har hbe hg' hA' al8 hdf HRT HTD;refine⟨wf.heap.size,hbf.size,?_⟩;simp only[Act.put,lE4,lE5,lE6];refine tail_cons (l:= []) rfl (wpQuiet_nil ?_);refine aas (vs:= #[.pointer (some ⟨g',0,none⟩), .pointer (some ⟨p,0,none⟩)]) Tryz.call31 rfl rfl rfl (R:=fun r w'=>r= .int .i64 1/\Below wf.heap.size wf w') (hsm.mono ?_) ?_
             · rintro e w' ⟨rfl,hb⟩;exact⟨_,rfl,hb,rfl,hb⟩
             rintro r w13 _ ⟨rfl,hb13⟩;have HBW:=hE0 (HBD.out.trans ((HDF.out.trans (hb13.mono HDF.out.size)).mono HBD.out.size));refine⟨w13.heap.size,hb13.size,?_⟩;simp only[Act.put,lE4,lE5,lE6];clear hb13 hsm hbf;refine aam (l:= ?lastB) (t:= []) ?hlastB rfl ?_
             case hlastB=>simp only[pick,lE1,lE2,lE3];rfl
             repeat (go_big_quiet_step (fail))
             refine wpQuiet_nil ?_;go_wp2_with fail
            case' neg=>
             rw[if_neg hk]at h7;subst h7;have gk:((kd:Int)==0)=false:=by rw[beq_eq_false_iff_ne];omega
             go_wp2_with fail
             refine HL7.out.mono ?_;rintro e w8 ⟨I1,I2,i1,i2,rfl,hr8,hd8,_,hb8⟩;dsimp only;obtain⟨w9,ha9,m9,b9⟩:=ac0 w8 59 (.int .i64 0) (.slice none 0 0) (.slice none 0 0);obtain⟨w13,hp10,m10,b10,⟨z0,z1,z2⟩,⟨e0,e1,e2⟩,hle⟩:=afj m9 (.int .i64 (im:Int)) (.slice I1 il.length i1) (.slice I2 id.length i2);have hb810:=b10.out w8.heap.size w8 (Nat.le_refl _) b9.out;have HBW:=hE0 (HB7.out.trans ((hb8.trans (hb810.mono hb8.size)).mono HB7.out.size));clear hr8 hd8 hb8 hb810 HL7 HGOK;go_wp2_with (first | (rw[ha9.out]) | (rw[hp10.out]) | fail)
             clear z0 z1 z2 e0 e1 e2 hle;refine(ajT w13 kd hk10).mono ?_;rintro e w12 ⟨rfl,rfl⟩;go_wp2_with fail
            all_goals
             obtain⟨z,hz⟩:=nmE (List.replicate 184 (0:UInt8));refine(aoN w13 z hz 0 1024 (by omega) (by omega) (by omega) (by omega)).mono ?_;rintro e w14 ⟨q1,ga1,A1,c1,rfl,hp14,hb14,hq14,hg14,hA14⟩;have HZ:=hE0 hz;have HB14:=hE0 (HBW.out.trans (hb14.mono HBW.out.size));have HP14:=hE0 hp14;have HWW:Hid (wr.heap.size<=w14.heap.size):=hE0 HB14.out.size;have HFT:Hid (∀k,(k=q1\/foot ga1 A1 k)->w13.heap.size<=k/\k<w14.heap.size):=fun k hk=>by
              rcases hk with rfl | hk
              · exact⟨hq14,hp14.lt⟩
              · refine⟨?_,hp14.ar.foot_lt hk⟩;rcases hk with rfl | ⟨a,ea,rfl⟩
                · exact hg14
                · exact hA14 a ea
             clear hz hp14 hb14 hq14 hg14 hA14;go_wp2_with fail
             refine(aql w14 1024).mono ?_;rintro e w15 ⟨p1,rfl,hm15,hb15⟩;obtain⟨F,hd15,hF1,hF2⟩:=Hd.made hm15;have HB15:=hE0 (HB14.out.trans (hb15.mono HB14.out.size));have HP15:=hE0 (HP14.out.below hb15);have HD15:=hE0 hd15;have HS14:=hE0 hb15.size;have HF15:Hid (∀k,F k->w14.heap.size<=k/\k<w15.heap.size):=fun k hk=>⟨hF1 k hk,hF2 k hk⟩;have hE15:ET w15:=HE.out.below ((HBR.out.trans (HB15.out.mono HBR.out.size)));have h015:¬foot ga1 A1 0:=fun h=>by
              have h1:=(HFT.out 0 (.inr h)).1;have h2:=HE.out.lt;have h3:=HBR.out.size;have h4:=HBW.out.size;omega
             have hdo:=aqO HP15.out HZ.out hE15 h015 0 40 64 0 0 0 0 none [] (by omega) rfl (by omega);unfold ag9 at hdo;have HDO:=hE0 hdo;clear hm15 hb15 hd15 hF1 hF2 hdo h015 hE15;go_wp2_with fail
             refine HDO.out.mono ?_;rintro e w16 ⟨⟨Ar1,cr1,rfl,_⟩,ht⟩;obtain⟨H1,hH1⟩:=nmE (((aaX 1024).get 40 165).2);have hdc:((aaX 1024).doC 1 0 40 0 0 []).2=H1:=by rw[<-hH1];unfold Hp.doC;rw[if_pos rfl];rfl
             obtain⟨e1,e2⟩:=alU (cap:=1024) (n:=40) (s:=64) (x:=165) rfl (by omega);rw[hH1]at e1 e2;rw[hdc]at ht;obtain⟨A16,c16,out1,hp16,t16,hA16⟩:=ht.ph HP15.out e2;have hs15:=HB15.out.size;have b16:Below wr.heap.size w15 w16:=t16.below (fun k hk=>Nat.le_trans HBW.out.size (HFT.out k (.inr hk)).1) hs15;have HB16:=hE0 (HB15.out.trans b16);have HP16:=hE0 hp16;have HA16:Hid (∀k,foot ga1 A16 k->foot ga1 A1 k\/w15.heap.size<=k):=fun k hk=>by
              rcases hk with rfl | ⟨a,ea,rfl⟩
              · exact .inl (.inl rfl)
              · rcases hA16 with e | h
                · exact .inl (.inr ⟨a,by rw[<-e];exact ea,rfl⟩)
                · exact .inr (h a ea)
             have HD16:=hE0 (HD15.out.tch t16 (fun k hk hf=>by have:=(HF15.out k hk).1;have:=(HFT.out k (.inr hf)).2;omega) (fun k hk=>hk.elim));have HHH:Hid (H1.blks= [⟨184,64,true⟩]/\H1.cap=1024):=⟨e1,e2⟩;have hmd:=aoV HD16.out (by omega) 0 40 64 0 0 0 0 none (by omega) rfl (by omega);unfold ag9 at hmd;have HMD:=hE0 hmd;have HH1:=hE0 hH1;have hs16:=t16.size;clear ht hp16 t16 hA16 b16 e1 e2 hdc hmd hH1 HDO;go_wp2_with fail
             refine HMD.out.mono ?_;rintro e w17 ⟨⟨Ar2,cr2,rfl,_⟩,H',⟨F',G',hd17,t17,hfg⟩,hstr⟩;have hstr':H'.str=H1.str:=by rw[hstr,<-HH1.out];rfl
             have hs17:=t17.size;have b17:Below wr.heap.size w16 w17:=t17.below (fun k hk=>by
              rcases hk with hk | hk
              · have h1:=(HF15.out k hk).1;have h2:=HB14.out.size;omega
              · exact hk.elim) (by omega)
             have HB17:=hE0 (HB16.out.trans b17);have HFG:Hid (∀k,(F' k\/G' k)->w14.heap.size<=k):=fun k hk=>by
              rcases hfg k hk with(h | h) | h
              · exact(HF15.out k h).1
              · exact h.elim
              · have h2:=HB15.out.size;have h3:=HS14.out;omega
             have HP17:=HP16.out.tchW t17 (fun k hk h=>by
              rcases h with h | h
              · have h1:=(HF15.out k h).1;have h2:=HFT.out k;have h3:k=q1\/foot ga1 A1 k\/w15.heap.size<=k:=by
                 rcases hk with h4 | h4
                 · exact .inl h4
                 · exact .inr (HA16.out k h4)
                rcases h3 with h4 | h4 | h4
                · have:=h2 (.inl h4);omega
                · have:=h2 (.inr h4);omega
                · have:=(HF15.out k h).2;omega
              · exact h.elim)
             have hok1:H1.Ok:=HP16.out.rd.rt.ok (by rw[HHH.out.2];omega) HP16.out.rd.dl;have hok':=as0 hstr' hok1;have hlen':∀d∈H'.ds,d.2.length<=100000:=asg hstr' fun d hd=>by
              obtain⟨i,hi⟩:=List.mem_iff_getElem?.1 hd;have hl:=HP16.out.rd.dl;unfold Hp.Dl at hl;rw[HHH.out.1]at hl;have h0:i<H1.ds.length:=by
               rcases Nat.lt_or_ge i H1.ds.length with h' | h'
               · exact h'
               · rw[List.getElem?_eq_none h']at hi;cases hi
              have h00:i=0:=by simp at hl;omega
              subst h00;have:=(HP16.out.rd.ho 0 ⟨184,64,true⟩ d ⟨by rw[HHH.out.1];rfl,hi⟩ rfl).1;dsimp only at this;omega
             obtain⟨eb,ed⟩:=alX hstr';obtain⟨o1,o2,_⟩:=ajS HP16.out.rd HHH.out.1 (by rw[HHH.out.2];omega);have hne:acz H'.blks=out1.length:=by rw[eb];exact HP16.out.rd.rt.lenE
             have hde:afl H'.blks H'.ds=ofD out1 H1.blks:=by rw[ed,aqQ HP16.out.rd]
             obtain⟨wd,hwd⟩:=nmE w17.drew;have hbd:=adE hwd;have hBd:=HB17.out.trans (hbd.mono HB17.out.size);have HBd:=hE0 (HBR.out.trans (hBd.mono HBR.out.size));have HHd:=hE0 (hd17.below hbd);have HRd:=hE0 (HRS.out.below hBd);have hwr:=hBd.size;have HDZ:Hid (∀k,S1 k->k<wr.heap.size):=(HDS.out.gz:∀k,_);have HRZ:Hid (∀k,S2 k->k<wr.heap.size):=(HRS.out.gz:∀k,_);obtain⟨b,hb⟩:=nmE (aaM out1.length (H1.blks.map toR) (ofD out1 H1.blks));obtain⟨o,ho⟩:=nmE (afW X Y half b s);have hsv:=ajQ (HDS.out.below hBd) half HHALF.out h1h (by omega) HLW.out.1.1 (by rw[HLW.out.2];exact Nat.zero_le _) (by have:=HLW.out.1.2;omega) X Y HXY.out.1 HXY.out.2 (HP17.below hbd) o (by rw[hb];exact ho);obtain⟨hk7,hlo,hwo⟩:=amW HLW.out.1 HLW.out.2 X Y half b;rw[ho]at hk7 hlo hwo;have hko:o.1<=10:=by omega
             have HLO:Hid (ag1 o.2/\o.2.wt= []):=⟨hlo,hwo⟩;have HSV2:Hid (∀W I1 I2 i1 i2,RS N S2 W gm s->RkRd W W.heap.size I1 (H'.blks.map toR)->DtRd W W.heap.size I2 (afl H'.blks H'.ds)->Calls Tryz.prog 19 #[.pointer (some ⟨gm,0,none⟩), .agg #[.int .i64 (acz H'.blks:Int), .slice I1 H'.blks.length i1, .slice I2 (afl H'.blks H'.ds).length i2]] W fun e w'=>StpR N S2 W gm o e w'):=fun W I1 I2 i1 i2 hR hr hd=>by
              have hl:=akS o2;have hf:=(aig o2).1;have:=aoh hR half HHALF.out h1h (by omega) HLW.out.1.1 (by rw[HLW.out.2];exact Nat.zero_le _) (by have:=HLW.out.1.2;omega) X Y HXY.out.1 HXY.out.2 (acz H'.blks) (by omega) I1 I2 i1 i2 (H'.blks.map toR) (afl H'.blks H'.ds) hr hd (by rw[eb];exact hl.1) (by rw[hde];exact hl.2.1) (by rw[hde];omega) o (by rw[hde,hne,eb,hb];exact ho);unfold imV at this;rw[List.length_map]at this;exact this
             obtain⟨hb1,hb2,hb12⟩:=HG12.out;have hwB:w.heap.size<=wr.heap.size:=HBR.out.size;clear hd17 t17 hfg hstr hstr' HP17 hbd hBd hok1 eb ed o1 o2 hne hde hb ho hk7 hlo hwo b17 HP16 HP15 HP14 HD15 HD16 HB16 HB15 HB14 HMD HH1 HHH HBW HB7;go_wp2_with fail
             refine aad w.heap.size [([0,1,4,5],2),([],3),([],6),([],7),([8,9,10,13],11),([12],14)] [15,16,17] [] (by kernel_rfl) (by kernel_rfl) (by kernel_rfl) (fun _ _ _ _ _ h=>h) ?_;rw[hwd];clear hwd;refine tail_cons (l:=_) (by simp only[pick,lE1,lE2,lE3];rfl) ?_;repeat (go_big_quiet_step (fail))
             refine wpQuiet_nil ?_;refine aas (vs:= #[.pointer (some ⟨gd,0,none⟩), .pointer (some ⟨q1,0,none⟩)]) Tryz.call18 rfl rfl rfl (R:=fun r w'=>r=ag8 o.1/\DS N (abj S1 wd w') w' gd o.2/\Tch S1 wd w') (hsv.mono ?_) ?_
             · rintro e w' ⟨rfl,h1,h2⟩;exact⟨_,rfl,h2.below hb1 (by omega),rfl,h1,h2⟩
             rintro r we _ ⟨rfl,hDe,hTe⟩;refine⟨w.heap.size,Nat.le_refl _,?_⟩;simp only[Act.put,lE4,lE5,lE6];refine tail_cons (l:= []) rfl (wpQuiet_nil ?_);refine aas (vs:= #[ag8 o.1]) Tryz.call17 rfl rfl rfl (R:=fun r w'=>r= .int .i64 (o.1:Int)/\we=w') ((ajT we o.1 hko).mono ?_) ?_
             · rintro e w' ⟨rfl,rfl⟩;exact⟨_,rfl,Below.refl _ _,rfl,rfl⟩
             rintro r w' _ ⟨rfl,rfl⟩;refine⟨w.heap.size,Nat.le_refl _,?_⟩;simp only[Act.put,lE4,lE5,lE6];refine tail_cons (l:= []) rfl (wpQuiet_nil ?_);have hse:=hTe.size;have hHe:=HHd.out.tch hTe (fun k hk hs=>by have:=HFG.out k (.inl hk);have:=HDZ.out k hs;have:=HWW.out;omega) (fun k hk hs=>by have:=HFG.out k (.inr hk);have:=HDZ.out k hs;have:=HWW.out;omega);refine aas (vs:= #[.pointer (some ⟨p1,0,none⟩)]) Tryz.call20 rfl rfl rfl (R:=fun r w'=>∃I1 I2 i1 i2,r= .agg #[.int .i64 (acz H'.blks:Int), .slice I1 H'.blks.length i1, .slice I2 (afl H'.blks H'.ds).length i2]/\RkRd w' w'.heap.size I1 (H'.blks.map toR)/\DtRd w' w'.heap.size I2 (afl H'.blks H'.ds)/\Below we.heap.size we w') ((aqM hHe hok' hlen').mono ?_) ?_
             · rintro e w' ⟨I1,I2,i1,i2,rfl,h1,h2,h3⟩;exact⟨_,rfl,h3.mono (by omega),I1,I2,i1,i2,rfl,h1,h2,h3⟩
             rintro r wf _ ⟨I1,I2,i1,i2,rfl,hrf,hdf,hbf⟩;refine⟨w.heap.size,Nat.le_refl _,?_⟩;simp only[Act.put,lE4,lE5,lE6];refine tail_cons (l:= []) rfl (wpQuiet_nil ?_);have hsf:=hbf.size;have hRf:=(HRd.out.tch hTe (fun k h2 h1=>hb12 k h1 h2)).below hbf;refine aas (vs:= #[.pointer (some ⟨gm,0,none⟩), .agg #[.int .i64 (acz H'.blks:Int), .slice I1 H'.blks.length i1, .slice I2 (afl H'.blks H'.ds).length i2]]) Tryz.call19 rfl rfl rfl (R:=fun r w'=>r= .int .i64 (o.1:Int)/\RS N (abj S2 wf w') w' gm o.2/\Tch S2 wf w') ((HSV2.out wf I1 I2 i1 i2 hRf hrf hdf).mono ?_) ?_
             · rintro e w' ⟨rfl,h1,h2⟩;exact⟨_,rfl,h2.below hb2 (by omega),rfl,h1,h2⟩
             rintro r wg _ ⟨rfl,hRg,hTg⟩;have hsg:=hTg.size;refine⟨wg.heap.size,by omega,?_⟩;simp only[Act.put,lE4,lE5,lE6];have hDg:DS N (abj S1 wd we) wg gd o.2:=(hDe.below hbf).tch hTg (fun k h1 h2=>by
              rcases h1 with h1 | h1
              · exact hb12 k h1 h2
              · have:=HRZ.out k h2;omega)
             have HBg:=hE0 (HBd.out.trans (((hTe.below hb1 (by omega)).trans (hbf.mono (by omega))).trans (hTg.below hb2 (by omega))));have HDG:=hE0 hDg;have HRG:=hE0 hRg;have HGG:Hid ((∀k,abj S1 wd we k->w.heap.size<=k)/\(∀k,abj S2 wf wg k->w.heap.size<=k)/\∀k,abj S1 wd we k->¬abj S2 wf wg k):=by
              have z1:=HDZ.out;have z2:=HRZ.out;refine⟨fun k hk=> ?_,fun k hk=> ?_,fun k h1 h2=> ?_⟩
              · rcases hk with h | h
                · exact hb1 k h
                · omega
              · rcases hk with h | h
                · exact hb2 k h
                · omega
              · rcases h1 with h1 | h1
                · rcases h2 with h2 | h2
                  · exact hb12 k h1 h2
                  · have:=z1 k h1;omega
                · rcases h2 with h2 | h2
                  · have:=z2 k h2;omega
                  · omega
             clear hDe hTe hHe hrf hdf hbf hRf hRg hTg hDg hsv hok' hlen';refine tail_cons (l:=_) (by simp only[pick,lE1,lE2,lE3];rfl) ?_;repeat (go_big_quiet_step (fail))
             refine wpQuiet_nil ?_;have hby:=HDG.out.bytes (by omega);unfold aeT at hby
             obtain⟨ob,hob⟩:=nmE o.2.bs;rw[hob]at hby
             refine aas (vs:= #[.pointer (some ⟨gd,0,none⟩)]) Tryz.call22 rfl rfl rfl (R:=fun r w'=>∃A c,r= .slice A ob.length c/\w'.ownsRow wg.heap.size 5 1 (.slice A ob.length c) ob.length (ob.map bv)/\Below wg.heap.size wg w') (hby.mono ?_) ?_
             · rintro e w' ⟨A,c,rfl,ho,hb⟩;exact⟨_,rfl,hb,A,c,rfl,ho,hb⟩
             rintro r wh _ ⟨Z1,z1,rfl,ho1,hbh⟩;refine⟨wh.heap.size,hbh.size,?_⟩;simp only[Act.put,lE4,lE5,lE6];obtain⟨U,hU⟩:=nmE (adh ob);have HU:=hE0 hU;have gU:(U.toList==U.toList)=true:=by simp
             have HR1:=hE0 (aak ho1);have HBH:=hE0 hbh;obtain⟨on,hon⟩:=nmE ob.length;have HON:=hE0 hon;have HOB:=hE0 hob;rw[hon]at HR1;have u1:∀z:LaterB wh.heap.size wh,(convert 37 9 (.slice Z1 on z1)).run Tryz.prog z.val= .ok (.string U) z.val:=fun z=>by rw[<-HU.out];exact aaJ (HR1.out.below z.ext)
             rw[hon];clear hby ho1 hU hbh hob hon;refine tail_cons (l:=_) (by simp only[pick,lE1,lE2,lE3];rfl) ?_;repeat (go_big_quiet_step (fail))
             refine wpQuiet_nil ?_;clear u1;have hby:=(HRG.out.below HBH.out).bytes (by omega);unfold aeT at hby
             rw[HOB.out,HON.out]at hby
             refine aas (vs:= #[.pointer (some ⟨gm,0,none⟩)]) Tryz.call23 rfl rfl rfl (R:=fun r w'=>∃A c,r= .slice A on c/\w'.ownsRow wh.heap.size 5 1 (.slice A on c) on (ob.map bv)/\Below wh.heap.size wh w') (hby.mono ?_) ?_
             · rintro e w' ⟨A,c,rfl,ho,hb⟩;exact⟨_,rfl,hb,A,c,rfl,ho,hb⟩
             rintro r wi _ ⟨Z2,z2,rfl,ho2,hbi⟩;refine⟨wi.heap.size,hbi.size,?_⟩;simp only[Act.put,lE4,lE5,lE6];have HR2:=hE0 (aak ho2);have hgi:=HBH.out.trans (hbi.mono HBH.out.size);have HFI:Hid (DS N (abj S1 wd we) wi gd o.2/\RS N (abj S2 wf wg) wi gm o.2/\Below w.heap.size w wi):=⟨HDG.out.below hgi,HRG.out.below hgi,HBg.out.trans (hgi.mono HBg.out.size)⟩;have u2:∀z:LaterB wi.heap.size wi,(convert 37 9 (.slice Z2 on z2)).run Tryz.prog z.val= .ok (.string U) z.val:=fun z=>by rw[<-HU.out];exact aaJ (HR2.out.below z.ext)
             clear hby ho2 hbi hgi;refine aam (l:=_) (t:= []) (by simp only[pick,lE1,lE2,lE3];rfl) rfl ?_;repeat (go_big_quiet_step (fail))
             refine wpQuiet_nil ?_;clear u2;go_wp2_with fail
             go_roundw
             case' rel=>
              obtain⟨i1,i2,i3⟩:=HFI.out;obtain⟨i4,i5,i6⟩:=HGG.out;exact⟨j+1,o.2,abj S1 wd we,abj S2 wf wg,by go_num,by omega,HLO.out,i1,i2,i4,i5,i6,i3⟩
             case' measure=>simp only[intOf];omega
          · have hj3:j=2:=by omega
            subst hj3;have HBF:=hE0 hbW;clear hds hrs hg1 hg2 hg12 hbW;go_wp2_with fail
            go_ret
            exact⟨rfl,HBF.out⟩
open Go.RowKit Go.ChangeShapes Go.WideShapes Go.Deep
structure Sl.Raw (s:Sl) (w:World):Prop where
 rb:Rd w w.heap.size s.A s.b.length s.b
 ra:s.A=none->s.c=0
 rl:RkRd w w.heap.size s.L s.l
 rd:DtRd w w.heap.size s.D s.d
 gG:s.G<18446744073709551616
 gl: -9223372036854775808<=s.len/\s.len<=9223372036854775807
 gn: -9223372036854775808<=s.n/\s.n<=9223372036854775807
 bl:s.b.length<=maxLen
 ll:s.l.length<=maxLen
 dl:s.d.length<=maxLen
theorem Sl.Raw.in_{s:Sl}{w:World}(h:s.Raw w) (hb:s.b.length<=20000) (hl:s.l.length<=1000) (hd:s.d.length<=1000):s.In w:=
 ⟨h.rb,h.ra,h.rl,h.rd,h.gG,h.gl,h.gn,hb,hl,hd⟩
def Sl.Few (s:Sl):Prop:=s.b.length<=140737488351232/\s.l.length<=140737488351232/\s.d.length<=140737488351232
section
variable {H:Type} {enc:TypeId × Value->H} {w:World} {base:Nat} {held:Bool}
theorem aeM{P:Program}{spare:Nat->Bool}{fuel:Nat}{t e:TypeId}{x:DataW H × List MemPlace}{A:Option Addr}{n c:Nat}(hu:P.underlying t=some (.slice e)) (hb:1<=P.bytesOf e) (h:DataW.trod enc P w base spare held fuel t [.slice A n c]=some x) (hw:(x.1.weights P t).all (· <=reachBytes)=true):n<=140737488351232:=by
 rcases DataW.trod_slice hu h with⟨hc,_⟩ | ⟨a,l,c',elems,rest,k,_,hc,hx,_,_,_,hl,_⟩
 · injection hc with hc _;injection hc with _ h2 _;omega
 · injection hc with hc _;injection hc with _ h2 _;rw[hx]at hw;unfold DataW.weights at hw;rw[hu]at hw;dsimp only at hw;rw[List.all_cons,Bool.and_eq_true]at hw;have h3:=of_decide_eq_true hw.1;rw[List.length_map,List.length_map]at h3;unfold reachBytes at h3;have h4:elems.length+rest.length<=(elems.length+rest.length)*P.bytesOf e:=Nat.le_mul_of_pos_right _ hb;omega
theorem ajU{r:Reach}{b0:Nat}{v:Value}{d:DataW H}{p:List MemPlace}(hval:Value.okWide Tryz.prog w r b0 78 v) (h:DataW.Trod enc Tryz.prog w base (fun _=>true) held 78 v d p):
 ∃s:Sl,v=s.v/\s.Raw w/\((d.weights Tryz.prog 78).all (· <=reachBytes)=true->s.Few):=by
 have hone:oneCellFields Tryz.prog (match Tryz.prog.underlying 78 with
  | some (.struct fs)=>fs
  | _=> #[])=true:=by kernel_rfl
 rw[Tryz.underlying78]at hone;dsimp only at hone;have hC:Tryz.prog.cellsOf 78=8:=by kernel_rfl
 obtain⟨cs,rfl,hsz⟩:=okWide_struct Tryz.underlying78 hval;obtain⟨fuel,hf⟩:=h;obtain⟨xs,n,_,hxd,_,hlen,hg⟩:=DataW.trod_struct Tryz.underlying78 hf;rw[hC]at hsz;obtain⟨l⟩:=cs;match l,hsz,xs,hlen,hxd with
 | [v0,v1,v2,v3,v4,v5,v6,v7],_,[y0,y1,y2,y3,y4,y5,y6,y7],_,hxd=>
  have g0:=hg 0 _ rfl;have g1:=hg 1 _ rfl;have g2:=hg 2 _ rfl;have g3:=hg 3 _ rfl;have g4:=hg 4 _ rfl;have g5:=hg 5 _ rfl;have g6:=hg 6 _ rfl;have g7:=hg 7 _ rfl;rw[(hone_of hone 0 _ rfl).1,(hone_of hone 0 _ rfl).2]at g0;rw[(hone_of hone 1 _ rfl).1,(hone_of hone 1 _ rfl).2]at g1;rw[(hone_of hone 2 _ rfl).1,(hone_of hone 2 _ rfl).2]at g2;rw[(hone_of hone 3 _ rfl).1,(hone_of hone 3 _ rfl).2]at g3;rw[(hone_of hone 4 _ rfl).1,(hone_of hone 4 _ rfl).2]at g4;rw[(hone_of hone 5 _ rfl).1,(hone_of hone 5 _ rfl).2]at g5;rw[(hone_of hone 6 _ rfl).1,(hone_of hone 6 _ rfl).2]at g6;rw[(hone_of hone 7 _ rfl).1,(hone_of hone 7 _ rfl).2]at g7;simp only[Value.cells,List.drop_zero,List.drop_succ_cons,List.take_succ_cons,List.take_zero,List.getElem?_cons_zero,List.getElem?_cons_succ]at g0 g1 g2 g3 g4 g5 g6 g7;obtain⟨n0,h0,_,w0⟩:=DataW.trod_int Tryz.underlying25 g0;obtain⟨n1,h1,_,w1⟩:=DataW.trod_int Tryz.underlying3 g1;obtain⟨u2,h2,_⟩:=DataW.trod_bool Tryz.underlying4 g2;obtain⟨bA,bn,bc,rfl⟩:∃bA bn bc,v3= .slice bA bn bc:=by
   rcases open_slice Tryz.underlying37 g3 with⟨h,_⟩ | ⟨a,l,c,_,_,_,_,h,_⟩
   · exact⟨_,_,_,by simpa using h⟩
   · exact⟨_,_,_,by simpa using h⟩
  obtain⟨bs,hbs,hbl,hbc,hA0⟩:=alg g3;obtain⟨u4,h4,_⟩:=DataW.trod_bool Tryz.underlying4 g4;obtain⟨n5,h5,_,w5⟩:=DataW.trod_int Tryz.underlying3 g5;obtain⟨lA,ln,lc,rfl⟩:∃lA ln lc,v6= .slice lA ln lc:=by
   rcases open_slice Tryz.underlying56 g6 with⟨h,_⟩ | ⟨a,l,c,_,_,_,_,h,_⟩
   · exact⟨_,_,_,by simpa using h⟩
   · exact⟨_,_,_,by simpa using h⟩
  obtain⟨ll,hll,hlr,hlm⟩:=ap5 g6;obtain⟨dA,dn,dc,rfl⟩:∃dA dn dc,v7= .slice dA dn dc:=by
   rcases open_slice Tryz.underlying57 g7 with⟨h,_⟩ | ⟨a,l,c,_,_,_,_,h,_⟩
   · exact⟨_,_,_,by simpa using h⟩
   · exact⟨_,_,_,by simpa using h⟩
  obtain⟨dl,hdl,hdr,hdm⟩:=ap6 g7;have hfew:(d.weights Tryz.prog 78).all (· <=reachBytes)=true->bn<=140737488351232/\ln<=140737488351232/\dn<=140737488351232:=fun hw=>by
   have e:=congrArg Prod.fst hxd;dsimp only[List.map_cons,List.map_nil]at e;rw[e]at hw;unfold DataW.weights at hw;rw[Tryz.underlying78]at hw;simp only[DataW.weightsEach,List.map_cons,List.all_append,Bool.and_eq_true]at hw;exact⟨aeM Tryz.underlying37 (of_decide_eq_true (by kernel_rfl)) g3 hw.2.2.2.1,aeM Tryz.underlying56 (of_decide_eq_true (by kernel_rfl)) g6 hw.2.2.2.2.2.2.1,aeM Tryz.underlying57 (of_decide_eq_true (by kernel_rfl)) g7 hw.2.2.2.2.2.2.2.1⟩
  obtain rfl:bs.length=bn:=hbs.1;subst hll hdl;simp at h0 h1 h2 h4 h5;subst h0 h1 h2 h4 h5;have b0:=bounds_u64 w0;have b1:=bounds_i64 w1;have b5:=bounds_i64 w5;obtain⟨m0,rfl⟩:∃m:Nat,n0=(m:Int):=⟨n0.toNat,by omega⟩;exact⟨⟨m0,n1,u2,bA,bs,bc,u4,n5,lA,ll,lc,dA,dl,dc⟩,rfl,⟨hbs,hA0,hlr,hdr,by show m0<_;omega,by show _<=n1/\n1<=_;omega,by show _<=n5/\n5<=_;omega,by show bs.length<=_;omega,hlm,hdm⟩,hfew⟩
end
end Go.Proofs.YthnfclimjmmckaaGreatDoor
