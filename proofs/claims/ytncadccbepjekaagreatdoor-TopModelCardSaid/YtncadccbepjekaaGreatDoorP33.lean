/- Texts of mine, joined. -/
import Derived.Test.YtncadccbepjekaaGreatDoorP31
set_option maxRecDepth 100000
set_option maxHeartbeats 2000000
namespace Go.Proofs.YtncadccbepjekaaGreatDoor
open Go.RowKit
structure PH (w:World) (q g base cap:Nat) (A:Option Addr) (c:Nat) (bs:List UInt8) (H:Hp):Prop where
 obj:w.heap[q]?=some (.cells #[.pointer (some ⟨g,0,none⟩)] 132 (0,0))
 ar:Ar w 195 g base cap A c bs
 rd:RtD bs H
 cp:H.cap=cap
 c16:cap<=16384
 b62:base<=4611686018427387904
section
variable {w w':World} {q g base cap c:Nat} {A:Option Addr} {bs out:List UInt8} {H H':Hp}
theorem PH.lt (h:PH w q g base cap A c bs H):q<w.heap.size:=aae h.obj
theorem PH.c0 (h:PH w q g base cap A c bs H):w.cell? ⟨q,0,none⟩=some (.pointer (some ⟨g,0,none⟩)):=by rw[cell_of_row w q 0 _ _ (0,0) h.obj];rfl
theorem PH.ap (h:PH w q g base cap A c bs H):¬foot g A q:=by
 rintro(rfl | ⟨a,ea,rfl⟩)
 · have h1:=h.ar.obj;rw[h.obj]at h1;injection h1 with h1;injection h1 with _ h2 _;exact absurd h2 (by decide)
 · obtain⟨h',e,cur,hg,_⟩:=h.ar.row ea;subst e;rw[h.obj]at hg;injection hg with hg;injection hg with _ h2 _;exact absurd h2 (by decide)
theorem PH.below (h:PH w q g base cap A c bs H) (hb:Below w.heap.size w w'):PH w' q g base cap A c bs H:=
 ⟨(hb.block q h.lt).trans h.obj,h.ar.below hb,h.rd,h.cp,h.c16,h.b62⟩
theorem PH.len (h:PH w q g base cap A c bs H):bs.length<=16384:=(h.rd.rt.bound (by rw[h.cp];exact h.c16)).1
theorem PH.became (h:PH w q g base cap A c bs H) (hb:Became 195 g base cap A out w w') (rd:RtD out H') (hc:H'.cap=cap):
 ∃A' c',PH w' q g base cap A' c' out H'/\Tch (foot g A) w w'/\(A'=A\/∀a,A'=some a->w.heap.size<=a.block):=by
 obtain⟨A',c',a,t,k⟩:=hb;exact⟨A',c',⟨(t.block q h.lt h.ap).trans h.obj,a,rd,hc,h.c16,h.b62⟩,t,k⟩
theorem abS (w:World) (o:Int) (s:Nat) (u:Bool) (h1:16<=s) (h2:s<=16384):
 Calls Tryz.prog 110 #[.agg #[.int .i64 o, .int .i64 (s:Int), .bool u]] w fun e w'=>e= .returned (.int .u64 ((s-16:Nat):Int))/\Below w.heap.size w w':=by
 have e:((s-16:Nat):Int)=(s:Int)-16:=by omega
 rw[e];have ew:IntKind.u64.wrap ((s:Int)-16)=(s:Int)-16:=IntWalk.u64_in _ (by omega);clear e;go_enter Tryz.func110,Tryz.ntmps110
 go_wp2
 go_ret
 exact⟨rfl,(Below.refl _ _).alloc (Nat.le_refl _) _⟩
theorem aqB (h:PH w q g base cap A c bs H){p:Nat}(p8:8<=p) (pl:p<=bs.length):H.handleB p=aa3 H.blks ((p:Int)-8):=by
 have:=h.len;unfold Hp.handleB;rw[if_neg (by omega)]
theorem aob (h:PH w q g base cap A c bs H){p:Nat}(pl:bs.length<p):H.handleB p=none:=by
 unfold Hp.handleB;split
 · rfl
 · refine akB fun i x hx hh=> ?_;have:=(h.rd.rt.bound (by rw[h.cp];exact h.c16)).2 x (List.mem_of_getElem? hx);omega
theorem adi (h:PH w q g base cap A c bs H) (p:Nat) (hp:p<18446744073709551616):
 Calls Tryz.prog 125 #[.pointer (some ⟨q,0,none⟩), .int .u64 (p:Int)] w fun e w'=>e= .returned (.tuple #[bkV ((H.handleB p).map (aal H.blks)),aav (H.handleB p).isSome 4])/\Below w.heap.size w w':=by
 obtain⟨w1,hw1⟩:=nmE (w.alloc (.cells #[.int .i64 0, .int .i64 0, .bool false] 112));have hb1:=abE hw1;have n1:=anE hw1;have h1:=h.below hb1;have hl:=h.len;obtain⟨⟨c0,c1,c2⟩,f0,f1,f2⟩:=aad n1;have hlt1:=aac n1;have HW1:=hE0 hw1;have HB1:=hE0 hb1;have HN1:=hE0 n1;have k0:=h1.c0;have HL:=hE0 (abO h1.ar);by_cases p8:p<8
 · have e:H.handleB p=none:=by unfold Hp.handleB;rw[if_pos (.inl p8)]
   rw[e];dsimp only[bkV,aav,Option.map,Option.isSome];have g1:decide ((p:Int)<8)=true:=decide_eq_true (by omega);clear e h h1 hw1 hb1 n1 k0 HL;go_enter Tryz.func125,Tryz.ntmps125
   go_wp2_with (first | (rw[HW1.out]) | fail)
   (try simp only[Exit.inBlock,Exit.then])
   refine abP (x:= .iface 130 (.int .i64 4)) (g:=w.heap.size) (o:=0) (s:=0) (b:=false) Tryz.results125 ?_ ?_ ?_ (aaK HN1.out _ _ _) ?_
   · rfl
   · rfl
   · rfl
   · exact⟨rfl,((HB1.out.setCell (Nat.le_refl _) _).setCell (Nat.le_refl _) _).setCell (Nat.le_refl _) _⟩
 · have g1:decide ((p:Int)<8)=false:=decide_eq_false (by omega);obtain⟨n,hn⟩:=nmE bs.length;rw[hn]at HL hl;by_cases pl:n<p
   · have e:=aob h (p:=p) (by omega);rw[e];dsimp only[bkV,aav,Option.map,Option.isSome];have g2:decide ((n:Int)<(p:Int))=true:=decide_eq_true (by omega);clear e h h1 hw1 hb1 n1;go_enter Tryz.func125,Tryz.ntmps125
     go_wp2_with (first | (rw[HW1.out]) | fail)
     refine HL.out.mono ?_;rintro e w2 ⟨rfl,rfl⟩;go_wp2
     (try simp only[Exit.inBlock,Exit.then])
     refine abP (x:= .iface 130 (.int .i64 4)) (g:=w.heap.size) (o:=0) (s:=0) (b:=false) Tryz.results125 ?_ ?_ ?_ (aaK HN1.out _ _ _) ?_
     · rfl
     · rfl
     · rfl
     · exact⟨rfl,((HB1.out.setCell (Nat.le_refl _) _).setCell (Nat.le_refl _) _).setCell (Nat.le_refl _) _⟩
   · have g2:decide ((n:Int)<(p:Int))=false:=decide_eq_false (by omega);have e:=aqB h (p:=p) (by omega) (by omega);rw[e];obtain⟨pz,hpz⟩:∃pz:Int,(p:Int)-8=pz:=⟨_,rfl⟩;have hU:=asq w1 g base cap c A bs H pz h1.ar h.b62 h.c16 h.cp h.rd.rt (by omega);rw[hpz];have ewp:IntKind.i64.wrap pz=pz:=IntWalk.i64_in _ (by omega)
     cases hi:aa3 H.blks pz with
     | none=>
      rw[hi]at hU;dsimp only[aaE,bkV,aav,Option.map,Option.isSome]at hU ⊢;have HU:=hE0 hU;clear e h h1 hw1 hb1 n1 hU hi;go_enter Tryz.func125,Tryz.ntmps125
      go_wp2_with (first | (rw[HW1.out]) | fail)
      refine HL.out.mono ?_;rintro e w2 ⟨rfl,rfl⟩;go_wp2_with fail
      refine HU.out.mono ?_;rintro e w2 ⟨rfl,hb2⟩;have n2:=(hb2.block w.heap.size (aae HN1.out)).trans HN1.out;have n3:(w2.alloc (.cells #[.int .i64 0, .int .i64 0, .bool false] 112)).heap[w.heap.size]?=some (.cells #[.int .i64 0, .int .i64 0, .bool false] 112 (0,0)):=(heap_alloc_old _ _ (aae n2)).trans n2;have hb12:=HB1.out.trans (hb2.mono HB1.out.size);have hb3:Below w.heap.size w (w2.alloc (.cells #[.int .i64 0, .int .i64 0, .bool false] 112)):=hb12.alloc hb12.size _;clear c0 c1 c2 f0 f1 f2 hlt1 k0;obtain⟨⟨c0,c1,c2⟩,f0,f1,f2⟩:=aad n3;have hlt3:=aac n3;have HB3:=hE0 hb3;have HN3:=hE0 n3;clear hb3 n3 n2 hb12 hb2 HU HL HN1 HB1 HW1;go_wp2
      (try simp only[Exit.inBlock,Exit.then])
      refine abP (x:= .iface 130 (.int .i64 4)) (g:=w.heap.size) (o:=0) (s:=0) (b:=false) Tryz.results125 ?_ ?_ ?_ (aaK HN3.out _ _ _) ?_
      · rfl
      · rfl
      · rfl
      · exact⟨rfl,((HB3.out.setCell (Nat.le_refl _) _).setCell (Nat.le_refl _) _).setCell (Nat.le_refl _) _⟩
     | some i=>
      rw[hi]at hU;obtain⟨x,hx⟩:=nmE (aal H.blks i);dsimp only[aaE,Option.map]at hU ⊢;rw[hx]at hU ⊢;obtain⟨xo,xs,xu⟩:=x;dsimp only[bkV,Bk.val,aav,Option.isSome]at hU ⊢;have HU:=hE0 hU;clear e h h1 hw1 hb1 n1 hU hi hx;go_enter Tryz.func125,Tryz.ntmps125
      go_wp2_with (first | (rw[HW1.out]) | fail)
      refine HL.out.mono ?_;rintro e w2 ⟨rfl,rfl⟩;go_wp2_with fail
      refine HU.out.mono ?_;rintro e w2 ⟨rfl,hb2⟩;have n2:=(hb2.block w.heap.size (aae HN1.out)).trans HN1.out;obtain⟨w3,hw3⟩:=nmE (w2.alloc (.cells #[.int .i64 (xo:Int), .int .i64 (xs:Int), .bool xu] 112));have n3:w3.heap[w.heap.size]?=some (.cells #[.int .i64 0, .int .i64 0, .bool false] 112 (0,0)):=by rw[<-hw3];exact(heap_alloc_old _ _ (aae n2)).trans n2
      have m3:=anE hw3;have hb12:=HB1.out.trans (hb2.mono HB1.out.size);have hb3:Below w.heap.size w w3:=by rw[<-hw3];exact hb12.alloc hb12.size _
      have HNEQ:=hE0 (show w2.heap.size≠w.heap.size from fun e=>by have:=aae n2;omega);clear c0 c1 c2 f0 f1 f2 hlt1 k0;obtain⟨⟨c0,c1,c2⟩,f0,f1,f2⟩:=aad n3;obtain⟨⟨d0,d1,d2⟩,_⟩:=aad m3;have hlt3:=aac n3;have hlt4:=aac m3;have HW3:=hE0 hw3;have HB3:=hE0 hb3;have HN3:=hE0 n3;clear hw3 hb3 n3 n2 hb12 hb2 HU HL HN1 HB1 HW1 m3;go_wp2_with (first | (rw[HW3.out]) | fail)
      (try simp only[Exit.inBlock,Exit.then])
      refine abP (x:= .nilIface) (g:=w.heap.size) (o:=(xo:Int)) (s:=(xs:Int)) (b:=xu) Tryz.results125 ?_ ?_ ?_ (aaK HN3.out _ _ _) ?_
      · rfl
      · rfl
      · rfl
      · exact⟨rfl,((HB3.out.setCell (Nat.le_refl _) _).setCell (Nat.le_refl _) _).setCell (Nat.le_refl _) _⟩
end
section
variable {w w':World} {q g base cap c:Nat} {A:Option Addr} {bs out:List UInt8} {H H':Hp}
theorem PH.blk (h:PH w q g base cap A c bs H){p i:Nat}(hh:H.handleB p=some i):
 ∃xo xs,aal H.blks i=⟨xo,xs,true⟩/\p=xo+8/\184<=xo/\32<=xs/\xo+xs<=bs.length/\i<H.blks.length/\H.At i ⟨xo,xs,true⟩ (H.ds.getD i acc)/\(H.ds.getD i acc).2.length+16=xs/\xs<=16384/\aa3 H.blks (xo:Int)=some i:=by
 obtain⟨p8,_,hu⟩:=adv hh;obtain⟨h1,h2,h3⟩:=aeQ hu;have hb:=(h.rd.rt.bound (by rw[h.cp];exact h.c16)).2 _ (List.mem_of_getElem? (aat h1));have hl:=h.len;have hdl:H.ds.length=H.blks.length:=h.rd.dl;have hat:H.At i (aal H.blks i) (H.ds.getD i acc):=⟨aat h1,by rw[List.getD_eq_getElem?_getD,List.getElem?_eq_getElem (by omega)];rfl⟩;have hd:=(h.rd.ho i _ _ hat h3).1;obtain⟨x,hx⟩:=nmE (aal H.blks i);rw[hx]at h2 h3 hb hat hd ⊢;obtain⟨xo,xs,xu⟩:=x;dsimp only at h2 h3 hb hat hd;subst h3;have hxo:(p:Int)-8=(xo:Int):=by omega
 rw[hxo]at hu;exact⟨xo,xs,rfl,by omega,by omega,by omega,by omega,h1,hat,hd,by omega,hu⟩
theorem ag7 (h:PH w q g base cap A c bs H) (p a n:Nat) (hp:p<18446744073709551616) (hh:H.handleB p=none):
 Calls Tryz.prog 131 #[.pointer (some ⟨q,0,none⟩), .int .u64 (p:Int), .int .u64 (a:Int), .int .u64 (n:Int)] w fun e w'=>e= .returned (.tuple #[.int .u64 0, .iface 130 (.int .i64 4)])/\Below w.heap.size w w':=by
 have hF:=adi h p hp;rw[hh]at hF;dsimp only[bkV,aav,Option.map,Option.isSome]at hF;have HF:=hE0 hF;clear h hh hF;go_enter Tryz.func131,Tryz.ntmps131
 go_wp2_with fail
 refine HF.out.mono ?_;rintro e w2 ⟨rfl,hb⟩;have HB:=hE0 (hb.alloc hb.size (.cells #[.int .i64 0, .int .i64 0, .bool false] 112));clear hb HF;go_wp2
 go_ret2
 exact⟨rfl,HB.out⟩
theorem ag8{P:Prop}(h:P:=by
 go_wp2_with fail
 refine HF.out.mono ?_;rintro e w2 ⟨rfl,hb⟩;obtain⟨w3,hw3⟩:=nmE (w2.alloc (.cells #[.int .i64 (xo:Int), .int .i64 (xs:Int), .bool true] 112));have n3:=anE hw3;have HB3:Hid (Below w.heap.size w w3):=(show Below _ _ _ by rw[<-hw3];exact hb.alloc hb.size _);obtain⟨⟨d0,d1,d2⟩,_⟩:=aad n3;have hlt3:=aac n3;have HW3:=hE0 hw3;clear hb HF hw3 n3;go_wp2_with (first | (rw[HW3.out]) | fail)
 refine(HUS.out w3).mono ?_;rintro e w4 ⟨rfl,hb4⟩;have HB4:=hE0 (HB3.out.trans (hb4.mono HB3.out.size));clear hb4 d0 d1 d2 HB3;go_wp2
 go_ret2
 exact⟨rfl,HB4.out⟩
 ):P:=h
theorem ail (h:PH w q g base cap A c bs H) (p a n:Nat) (hp:p<18446744073709551616) (ha:a<18446744073709551616) (hn:n<18446744073709551616){i L:Nat}(hh:H.handleB p=some i) (hL:(H.ds.getD i acc).2.length=L) (hf:L<a+n):
 Calls Tryz.prog 131 #[.pointer (some ⟨q,0,none⟩), .int .u64 (p:Int), .int .u64 (a:Int), .int .u64 (n:Int)] w fun e w'=>e= .returned (.tuple #[.int .u64 0, .iface 130 (.int .i64 2)])/\Below w.heap.size w w':=by
 have hF:=adi h p hp;obtain⟨xo,xs,hx,hpx,h184,h32,hle,hi,hat,hd,h16,hu⟩:=h.blk hh;rw[hL]at hd;rw[hh]at hF;dsimp only[Option.map]at hF;rw[hx]at hF;dsimp only[bkV,Bk.val,aav,Option.isSome]at hF;have HUS:=hE0 (fun W=>abS W (xo:Int) xs true (by omega) h16);have eL:xs-16=L:=by omega
 rw[eL]at HUS;have hL14:L<=16384:=by omega
 have HF:=hE0 hF;clear h hh hF hx hpx hat hu hi eL hd hL;by_cases hal:L<a
 · have g1:decide (L<a)=true:=decide_eq_true (by omega);go_enter Tryz.func131,Tryz.ntmps131
   exact ag8
 · have g1:decide (L<a)=false:=decide_eq_false (by omega);obtain⟨m,hm⟩:=nmE (L-a);have em:(L:Int)-(a:Int)=(m:Int):=by omega
   have g2:decide (m<n)=true:=decide_eq_true (by omega);have hm14:m<=16384:=by omega
   clear hm;go_enter Tryz.func131,Tryz.ntmps131
   go_wp2_with fail
   refine HF.out.mono ?_;rintro e w2 ⟨rfl,hb⟩;obtain⟨w3,hw3⟩:=nmE (w2.alloc (.cells #[.int .i64 (xo:Int), .int .i64 (xs:Int), .bool true] 112));have n3:=anE hw3;have HB3:Hid (Below w.heap.size w w3):=(show Below _ _ _ by rw[<-hw3];exact hb.alloc hb.size _);obtain⟨⟨d0,d1,d2⟩,_⟩:=aad n3;have hlt3:=aac n3;have HW3:=hE0 hw3;have HN3:=hE0 n3;clear hb HF hw3 n3;go_wp2_with (first | (rw[HW3.out]) | fail)
   refine(HUS.out w3).mono ?_;rintro e w4 ⟨rfl,hb4⟩;have n4:=Loc.below hb4 _ _ HN3.out;have HB4:=hE0 (HB3.out.trans (hb4.mono HB3.out.size));clear hb4 d0 d1 d2 HB3 hlt3;obtain⟨⟨d0,d1,d2⟩,_⟩:=aad n4;have hlt4:=aac n4;clear n4 HN3 HW3;go_wp2_with fail
   refine(HUS.out w4).mono ?_;rintro e w5 ⟨rfl,hb5⟩;have HB5:=hE0 (HB4.out.trans (hb5.mono HB4.out.size));clear hb5 d0 d1 d2 HB4 hlt4;go_wp2
   go_ret2
   exact⟨rfl,HB5.out⟩
theorem akE (h:PH w q g base cap A c bs H) (p a n:Nat) (hp:p<18446744073709551616) (hn:n<18446744073709551616){i L x:Nat}(hh:H.handleB p=some i) (hL:(H.ds.getD i acc).2.length=L) (hf:a+n<=L) (hx:base+p+a=x):
 Calls Tryz.prog 131 #[.pointer (some ⟨q,0,none⟩), .int .u64 (p:Int), .int .u64 (a:Int), .int .u64 (n:Int)] w fun e w'=>e= .returned (.tuple #[.int .u64 (x:Int), .nilIface])/\Below w.heap.size w w':=by
 have hF:=adi h p hp;obtain⟨xo,xs,hbk,hpx,h184,h32,hle,hi,hat,hd,h16,hu⟩:=h.blk hh;rw[hL]at hd;rw[hh]at hF;dsimp only[Option.map]at hF;rw[hbk]at hF;dsimp only[bkV,Bk.val,aav,Option.isSome]at hF;have HUS:=hE0 (fun W=>abS W (xo:Int) xs true (by omega) h16);have eL:xs-16=L:=by omega
 rw[eL]at HUS;have hL14:L<=16384:=by omega
 have HF:=hE0 hF;have H0:=hE0 h;have hb62:=h.b62;have hlen:=h.len;have hp14:p<=16384:=by omega
 clear h hh hF hbk hpx hat hu hi eL hd hL h184 h32 hle hlen;have g1:decide (L<a)=false:=decide_eq_false (by omega);obtain⟨m,hm⟩:=nmE (L-a);have em:(L:Int)-(a:Int)=(m:Int):=by omega
 have g2:decide (m<n)=false:=decide_eq_false (by omega);have hm14:m<=16384:=by omega
 have ha14:a<=16384:=by omega
 obtain⟨y,hy⟩:=nmE (base+p);have ey:(base:Int)+(p:Int)=(y:Int):=by omega
 have ex:(y:Int)+(a:Int)=(x:Int):=by omega
 have hy63:y<=4611686018427404288:=by omega
 have hx63:x<=4611686018427420672:=by omega
 clear hm hf hy hx;go_enter Tryz.func131,Tryz.ntmps131
 go_wp2_with fail
 refine HF.out.mono ?_;rintro e w2 ⟨rfl,hb⟩;obtain⟨w3,hw3⟩:=nmE (w2.alloc (.cells #[.int .i64 (xo:Int), .int .i64 (xs:Int), .bool true] 112));have n3:=anE hw3;have HB3:Hid (Below w.heap.size w w3):=(show Below _ _ _ by rw[<-hw3];exact hb.alloc hb.size _);obtain⟨⟨d0,d1,d2⟩,_⟩:=aad n3;have hlt3:=aac n3;have HW3:=hE0 hw3;have HN3:=hE0 n3;clear hb HF hw3 n3;go_wp2_with (first | (rw[HW3.out]) | fail)
 refine(HUS.out w3).mono ?_;rintro e w4 ⟨rfl,hb4⟩;have n4:=Loc.below hb4 _ _ HN3.out;have HB4:=hE0 (HB3.out.trans (hb4.mono HB3.out.size));clear hb4 d0 d1 d2 HB3 hlt3;obtain⟨⟨d0,d1,d2⟩,_⟩:=aad n4;have hlt4:=aac n4;clear n4 HN3 HW3;go_wp2_with fail
 refine(HUS.out w4).mono ?_;rintro e w5 ⟨rfl,hb5⟩;have hb5':=HB4.out.trans (hb5.mono HB4.out.size);have h5:=H0.out.below hb5';have k0:=h5.c0;have hlt5:=h5.lt;have HBS:=hE0 (acj h5.ar);have HB5:=hE0 hb5';clear hb5 d0 d1 d2 HB4 hlt4 hb5' h5 H0;go_wp2_with fail
 refine HBS.out.mono ?_;rintro e w6 ⟨rfl,rfl⟩;go_wp2
 go_ret2
 exact⟨rfl,HB5.out⟩
theorem asu (ho:w.heap[q]?=some (.cells #[.pointer (some ⟨g,0,none⟩)] 132 (0,0))) (ha:Ar w 195 g base cap A c bs) (hbase:base<=4611686018427387904) (hl:bs.length<=16384) (o s f p:Nat) (v:UInt8){u:Bool}(hg:aa8 bs (o:Int)=some ⟨o,s,u⟩) (hs:16<=s) (hos:o+s<=bs.length) (hf:s-16<=f) (hp:o+8=p):
 Calls Tryz.prog 130 #[.pointer (some ⟨q,0,none⟩), .int .i64 (o:Int), .int .u64 (f:Int), .int .u8 (v.toNat:Int)] w fun e w'=>e= .returned (.int .u64 (p:Int))/\Below w.heap.size w w':=by
 have hG:=alD w g base cap c A bs (o:Int) _ ha hbase hl (by omega) hg;dsimp only[aaE,bkV,Bk.val,aav,Option.isSome]at hG;have HUS:=hE0 (fun W=>abS W (o:Int) s u (by omega) (by omega));obtain⟨L,hL⟩:=nmE (s-16);rw[hL]at HUS hf;have g1:decide (f<L)=false:=decide_eq_false (by omega);have ep:(o:Int)+8=(p:Int):=by omega
 have hp14:p<=16384:=by omega
 have ho14:o<=16384:=by omega
 have k0:w.cell? ⟨q,0,none⟩=some (.pointer (some ⟨g,0,none⟩)):=by rw[cell_of_row w q 0 _ _ (0,0) ho];rfl
 have hlq:=aac ho;have HG:=hE0 hG;clear hG hg ha ho hL hf hp hos hs;go_enter Tryz.func130,Tryz.ntmps130
 go_wp2_with fail
 refine HG.out.mono ?_;rintro e w2 ⟨rfl,hb⟩;obtain⟨w3,hw3⟩:=nmE (w2.alloc (.cells #[.int .i64 (o:Int), .int .i64 (s:Int), .bool u] 112));have n3:=anE hw3;have HB3:Hid (Below w.heap.size w w3):=(show Below _ _ _ by rw[<-hw3];exact hb.alloc hb.size _);obtain⟨⟨d0,d1,d2⟩,_⟩:=aad n3;have hlt3:=aac n3;have HW3:=hE0 hw3;clear hb HG hw3 n3 k0;go_wp2_with (first | (rw[HW3.out]) | fail)
 refine(HUS.out w3).mono ?_;rintro e w4 ⟨rfl,hb4⟩;have HB4:=hE0 (HB3.out.trans (hb4.mono HB3.out.size));clear hb4 d0 d1 d2 HB3 hlt3;go_wp2
 go_ret
 exact⟨rfl,HB4.out⟩
theorem akF (ho:w.heap[q]?=some (.cells #[.pointer (some ⟨g,0,none⟩)] 132 (0,0))) (ha:Ar w 195 g base cap A c bs) (hbase:base<=4611686018427387904) (hl:bs.length<=16384) (o s f p:Nat) (v:UInt8){u:Bool}(hg:aa8 bs (o:Int)=some ⟨o,s,u⟩) (hs:16<=s) (hos:o+s<=bs.length) (hf:f<s-16) (hp:o+8=p):
 Calls Tryz.prog 130 #[.pointer (some ⟨q,0,none⟩), .int .i64 (o:Int), .int .u64 (f:Int), .int .u8 (v.toNat:Int)] w fun e w'=>e= .returned (.int .u64 (p:Int))/\Became 195 g base cap A (lay bs (p+f) (List.replicate (s-16-f) v)) w w':=by
 have hG:=alD w g base cap c A bs (o:Int) _ ha hbase hl (by omega) hg;dsimp only[aaE,bkV,Bk.val,aav,Option.isSome]at hG;have HUS:=hE0 (fun W=>abS W (o:Int) s u (by omega) (by omega));obtain⟨L,hL⟩:=nmE (s-16);rw[hL]at HUS hf ⊢;obtain⟨m,hm⟩:=nmE (L-f);rw[hm];have g1:decide (f<L)=true:=decide_eq_true (by omega);have ep:(o:Int)+8=(p:Int):=by omega
 have hp14:p<=16384:=by omega
 have ho14:o<=16384:=by omega
 have hf14:f<=16384:=by omega
 have hL14:L<=16384:=by omega
 have em:(L:Int)-(f:Int)=(m:Int):=by omega
 have hm14:m<=16384:=by omega
 obtain⟨y,hy⟩:=nmE (base+p);obtain⟨x,hx⟩:=nmE (y+f);have ey:(base:Int)+(p:Int)=(y:Int):=by omega
 have ex:(y:Int)+(f:Int)=(x:Int):=by omega
 have hy63:y<=4611686018427404288:=by omega
 have hx63:x<=4611686018427420672:=by omega
 have HFL:=hE0 (fun W c' A' (a':Ar W 195 g base cap A' c' bs)=>aoN a' (by omega) x m (p+f) v (by omega) (by omega) (by omega) (by omega));have k0:w.cell? ⟨q,0,none⟩=some (.pointer (some ⟨g,0,none⟩)):=by rw[cell_of_row w q 0 _ _ (0,0) ho];rfl
 have hlq:=aac ho;have HG:=hE0 hG;have HA:=hE0 ha;have HO:=hE0 ho;clear hG hg ha ho hL hf hp hos hs hm hy hx;go_enter Tryz.func130,Tryz.ntmps130
 go_wp2_with fail
 refine HG.out.mono ?_;rintro e w2 ⟨rfl,hb⟩;obtain⟨w3,hw3⟩:=nmE (w2.alloc (.cells #[.int .i64 (o:Int), .int .i64 (s:Int), .bool u] 112));have n3:=anE hw3;have HB3:Hid (Below w.heap.size w w3):=(show Below _ _ _ by rw[<-hw3];exact hb.alloc hb.size _);obtain⟨⟨d0,d1,d2⟩,_⟩:=aad n3;have hlt3:=aac n3;have HW3:=hE0 hw3;clear hb HG hw3 n3 k0;go_wp2_with (first | (rw[HW3.out]) | fail)
 refine(HUS.out w3).mono ?_;rintro e w4 ⟨rfl,hb4⟩;have hb4':=HB3.out.trans (hb4.mono HB3.out.size);obtain⟨wd,hwd⟩:=nmE w4.drew;have hbd:Below w.heap.size w wd:=by rw[<-hwd];exact hb4'.drew
 have had:=HA.out.below hbd;have k0:wd.cell? ⟨q,0,none⟩=some (.pointer (some ⟨g,0,none⟩)):=by rw[cell_of_row wd q 0 _ _ (0,0) ((hbd.block q (aae HO.out)).trans HO.out)];rfl
 have hlq4:q<wd.heap.size:=Nat.lt_of_lt_of_le (aae HO.out) hbd.size;have HBS:=hE0 (acj had);have HF4:=hE0 (HFL.out wd c A had);have HBD:=hE0 hbd;have HWD:=hE0 hwd;clear hb4 d0 d1 d2 HB3 hlt3 hb4' had hbd hwd HA HO HFL;go_wp2_with fail
 refine aao wd.heap.size [([0,1,2,3,4,5,6,7,9,11,13,14,15,16],8)] [10,12] [17] (by kernel_rfl) (by kernel_rfl) (by kernel_rfl) (fun _ _ _ _ _ h=>h) ?_;rw[HWD.out];have q0:=tfE k0 hlq4;refine tail_cons (l:= ?seg1) ?hseg1 ?_
 case hseg1=>simp only[pick,lE1,lE2,lE3];rfl
 repeat (go_big_quiet_step (fail))
 refine wpQuiet_nil ?_;clear q0 k0;refine aar (vs:= #[.pointer (some ⟨g,0,none⟩)]) Tryz.call56 rfl rfl rfl (R:=fun r w'=>r= .int .u64 (base:Int)/\w'=wd) (HBS.out.mono ?_) wd.heap.size (Nat.le_refl _) ?_
 · rintro e w' ⟨rfl,rfl⟩;exact⟨_,rfl,Below.refl _ _,rfl,rfl⟩
 rintro r w5 _ ⟨rfl,rfl⟩;refine aaH (l:= ?la2) (t:= ?tl2) ?hla2 ?htl2 ?_
 case hla2=>simp only[pick,lE1,lE2,lE3];rfl
 case htl2=>simp only[pick,lE1,lE2,lE3];rfl
 simp only[Act.put,lE4,lE5,lE6];repeat (go_big_quiet_step (fail))
 refine wpQuiet_nil ?_;clear HBS;go_wp2_with fail
 refine HF4.out.mono ?_;rintro e w6 ⟨rfl,hbe⟩;have HE:=hE0 (hbe.after HBD.out);clear hbe HF4;go_wp2
 go_ret
 exact⟨rfl,HE.out⟩
end
end Go.Proofs.YtncadccbepjekaaGreatDoor
