/- Texts of mine, joined. -/
import Derived.Test.YtncadccbepjekaaGreatDoorU30
import Derived.Test.YtncadccbepjekaaGreatDoorU31
set_option maxRecDepth 100000
set_option maxHeartbeats 2000000
namespace Go.Proofs.YtncadccbepjekaaGreatDoor
open Go.RowKit
structure PH (w:World) (q g base cap:Nat) (A:Option Addr) (c:Nat) (bs:List UInt8) (H:Hp):Prop where
 obj:w.heap[q]?=some (.cells #[.pointer (some ⟨g,0,none⟩)] 132 (0,0))
 ar:Ar w 195 g base cap A c bs
 rd:RtD bs H
 cp:H.cap=cap
 c16:cap<=16384
 b62:base<=4611686018427387904
section
variable {w w':World} {q g base cap c:Nat} {A:Option Addr} {bs out:List UInt8} {H H':Hp}
theorem PH.lt (h:PH w q g base cap A c bs H):q<w.heap.size:=aae h.obj
theorem PH.c0 (h:PH w q g base cap A c bs H):w.cell? ⟨q,0,none⟩=some (.pointer (some ⟨g,0,none⟩)):=by rw[cell_of_row w q 0 _ _ (0,0) h.obj];rfl
theorem PH.ap (h:PH w q g base cap A c bs H):¬foot g A q:=by
 rintro(rfl | ⟨a,ea,rfl⟩)
 · have h1:=h.ar.obj;rw[h.obj]at h1;injection h1 with h1;injection h1 with _ h2 _;exact absurd h2 (by decide)
 · obtain⟨h',e,cur,hg,_⟩:=h.ar.row ea;subst e;rw[h.obj]at hg;injection hg with hg;injection hg with _ h2 _;exact absurd h2 (by decide)
theorem PH.below (h:PH w q g base cap A c bs H) (hb:Below w.heap.size w w'):PH w' q g base cap A c bs H:=
 ⟨(hb.block q h.lt).trans h.obj,h.ar.below hb,h.rd,h.cp,h.c16,h.b62⟩
theorem PH.len (h:PH w q g base cap A c bs H):bs.length<=16384:=(h.rd.rt.bound (by rw[h.cp];exact h.c16)).1
theorem PH.became (h:PH w q g base cap A c bs H) (hb:Became 195 g base cap A out w w') (rd:RtD out H') (hc:H'.cap=cap):
 ∃A' c',PH w' q g base cap A' c' out H'/\Tch (foot g A) w w'/\(A'=A\/∀a,A'=some a->w.heap.size<=a.block):=by
 obtain⟨A',c',a,t,k⟩:=hb;exact⟨A',c',⟨(t.block q h.lt h.ap).trans h.obj,a,rd,hc,h.c16,h.b62⟩,t,k⟩
theorem abS (w:World) (o:Int) (s:Nat) (u:Bool) (h1:16<=s) (h2:s<=16384):
 Calls Tryz.prog 110 #[.agg #[.int .i64 o, .int .i64 (s:Int), .bool u]] w fun e w'=>e= .returned (.int .u64 ((s-16:Nat):Int))/\Below w.heap.size w w':=by
 have e:((s-16:Nat):Int)=(s:Int)-16:=by omega
 rw[e];have ew:IntKind.u64.wrap ((s:Int)-16)=(s:Int)-16:=IntWalk.u64_in _ (by omega);clear e;go_enter Tryz.func110,Tryz.ntmps110
 go_wp2
 go_ret
 exact⟨rfl,(Below.refl _ _).alloc (Nat.le_refl _) _⟩
theorem aqC (h:PH w q g base cap A c bs H){p:Nat}(p8:8<=p) (pl:p<=bs.length):H.handleB p=aaY H.blks ((p:Int)-8):=by
 have:=h.len;unfold Hp.handleB;rw[if_neg (by omega)]
theorem aoh (h:PH w q g base cap A c bs H){p:Nat}(pl:bs.length<p):H.handleB p=none:=by
 unfold Hp.handleB;split
 · rfl
 · refine akB fun i x hx hh=> ?_;have:=(h.rd.rt.bound (by rw[h.cp];exact h.c16)).2 x (List.mem_of_getElem? hx);omega
theorem adk (h:PH w q g base cap A c bs H) (p:Nat) (hp:p<18446744073709551616):
 Calls Tryz.prog 125 #[.pointer (some ⟨q,0,none⟩), .int .u64 (p:Int)] w fun e w'=>e= .returned (.tuple #[bkV ((H.handleB p).map (aam H.blks)),aat (H.handleB p).isSome 4])/\Below w.heap.size w w':=by
 obtain⟨w1,hw1⟩:=nmE (w.alloc (.cells #[.int .i64 0, .int .i64 0, .bool false] 112));have hb1:=abE hw1;have n1:=anE hw1;have h1:=h.below hb1;have hl:=h.len;obtain⟨⟨c0,c1,c2⟩,f0,f1,f2⟩:=aad n1;have hlt1:=aac n1;have HW1:=hE0 hw1;have HB1:=hE0 hb1;have HN1:=hE0 n1;have k0:=h1.c0;have HL:=hE0 (abL h1.ar);by_cases p8:p<8
 · have e:H.handleB p=none:=by unfold Hp.handleB;rw[if_pos (.inl p8)]
   rw[e];dsimp only[bkV,aat,Option.map,Option.isSome];have g1:decide ((p:Int)<8)=true:=decide_eq_true (by omega);clear e h h1 hw1 hb1 n1 k0 HL;go_enter Tryz.func125,Tryz.ntmps125
   go_wp2_with (first | (rw[HW1.out]) | fail)
   (try simp only[Exit.inBlock,Exit.then])
   refine abP (x:= .iface 130 (.int .i64 4)) (g:=w.heap.size) (o:=0) (s:=0) (b:=false) Tryz.results125 ?_ ?_ ?_ (aaJ HN1.out _ _ _) ?_
   · rfl
   · rfl
   · rfl
   · exact⟨rfl,((HB1.out.setCell (Nat.le_refl _) _).setCell (Nat.le_refl _) _).setCell (Nat.le_refl _) _⟩
 · have g1:decide ((p:Int)<8)=false:=decide_eq_false (by omega);obtain⟨n,hn⟩:=nmE bs.length;rw[hn]at HL hl;by_cases pl:n<p
   · have e:=aoh h (p:=p) (by omega);rw[e];dsimp only[bkV,aat,Option.map,Option.isSome];have g2:decide ((n:Int)<(p:Int))=true:=decide_eq_true (by omega);clear e h h1 hw1 hb1 n1;go_enter Tryz.func125,Tryz.ntmps125
     go_wp2_with (first | (rw[HW1.out]) | fail)
     refine HL.out.mono ?_;rintro e w2 ⟨rfl,rfl⟩;go_wp2
     (try simp only[Exit.inBlock,Exit.then])
     refine abP (x:= .iface 130 (.int .i64 4)) (g:=w.heap.size) (o:=0) (s:=0) (b:=false) Tryz.results125 ?_ ?_ ?_ (aaJ HN1.out _ _ _) ?_
     · rfl
     · rfl
     · rfl
     · exact⟨rfl,((HB1.out.setCell (Nat.le_refl _) _).setCell (Nat.le_refl _) _).setCell (Nat.le_refl _) _⟩
   · have g2:decide ((n:Int)<(p:Int))=false:=decide_eq_false (by omega);have e:=aqC h (p:=p) (by omega) (by omega);rw[e];obtain⟨pz,hpz⟩:∃pz:Int,(p:Int)-8=pz:=⟨_,rfl⟩;have hU:=asg w1 g base cap c A bs H pz h1.ar h.b62 h.c16 h.cp h.rd.rt (by omega);rw[hpz];have ewp:IntKind.i64.wrap pz=pz:=IntWalk.i64_in _ (by omega)
     cases hi:aaY H.blks pz with
     | none=>
      rw[hi]at hU;dsimp only[aaA,bkV,aat,Option.map,Option.isSome]at hU ⊢;have HU:=hE0 hU;clear e h h1 hw1 hb1 n1 hU hi;go_enter Tryz.func125,Tryz.ntmps125
      go_wp2_with (first | (rw[HW1.out]) | fail)
      refine HL.out.mono ?_;rintro e w2 ⟨rfl,rfl⟩;go_wp2_with fail
      refine HU.out.mono ?_;rintro e w2 ⟨rfl,hb2⟩;have n2:=(hb2.block w.heap.size (aae HN1.out)).trans HN1.out;have n3:(w2.alloc (.cells #[.int .i64 0, .int .i64 0, .bool false] 112)).heap[w.heap.size]?=some (.cells #[.int .i64 0, .int .i64 0, .bool false] 112 (0,0)):=(heap_alloc_old _ _ (aae n2)).trans n2;have hb12:=HB1.out.trans (hb2.mono HB1.out.size);have hb3:Below w.heap.size w (w2.alloc (.cells #[.int .i64 0, .int .i64 0, .bool false] 112)):=hb12.alloc hb12.size _;clear c0 c1 c2 f0 f1 f2 hlt1 k0;obtain⟨⟨c0,c1,c2⟩,f0,f1,f2⟩:=aad n3;have hlt3:=aac n3;have HB3:=hE0 hb3;have HN3:=hE0 n3;clear hb3 n3 n2 hb12 hb2 HU HL HN1 HB1 HW1;go_wp2
      (try simp only[Exit.inBlock,Exit.then])
      refine abP (x:= .iface 130 (.int .i64 4)) (g:=w.heap.size) (o:=0) (s:=0) (b:=false) Tryz.results125 ?_ ?_ ?_ (aaJ HN3.out _ _ _) ?_
      · rfl
      · rfl
      · rfl
      · exact⟨rfl,((HB3.out.setCell (Nat.le_refl _) _).setCell (Nat.le_refl _) _).setCell (Nat.le_refl _) _⟩
     | some i=>
      rw[hi]at hU;obtain⟨x,hx⟩:=nmE (aam H.blks i);dsimp only[aaA,Option.map]at hU ⊢;rw[hx]at hU ⊢;obtain⟨xo,xs,xu⟩:=x;dsimp only[bkV,Bk.val,aat,Option.isSome]at hU ⊢;have HU:=hE0 hU;clear e h h1 hw1 hb1 n1 hU hi hx;go_enter Tryz.func125,Tryz.ntmps125
      go_wp2_with (first | (rw[HW1.out]) | fail)
      refine HL.out.mono ?_;rintro e w2 ⟨rfl,rfl⟩;go_wp2_with fail
      refine HU.out.mono ?_;rintro e w2 ⟨rfl,hb2⟩;have n2:=(hb2.block w.heap.size (aae HN1.out)).trans HN1.out;obtain⟨w3,hw3⟩:=nmE (w2.alloc (.cells #[.int .i64 (xo:Int), .int .i64 (xs:Int), .bool xu] 112));have n3:w3.heap[w.heap.size]?=some (.cells #[.int .i64 0, .int .i64 0, .bool false] 112 (0,0)):=by rw[<-hw3];exact(heap_alloc_old _ _ (aae n2)).trans n2
      have m3:=anE hw3;have hb12:=HB1.out.trans (hb2.mono HB1.out.size);have hb3:Below w.heap.size w w3:=by rw[<-hw3];exact hb12.alloc hb12.size _
      have HNEQ:=hE0 (show w2.heap.size≠w.heap.size from fun e=>by have:=aae n2;omega);clear c0 c1 c2 f0 f1 f2 hlt1 k0;obtain⟨⟨c0,c1,c2⟩,f0,f1,f2⟩:=aad n3;obtain⟨⟨d0,d1,d2⟩,_⟩:=aad m3;have hlt3:=aac n3;have hlt4:=aac m3;have HW3:=hE0 hw3;have HB3:=hE0 hb3;have HN3:=hE0 n3;clear hw3 hb3 n3 n2 hb12 hb2 HU HL HN1 HB1 HW1 m3;go_wp2_with (first | (rw[HW3.out]) | fail)
      (try simp only[Exit.inBlock,Exit.then])
      refine abP (x:= .nilIface) (g:=w.heap.size) (o:=(xo:Int)) (s:=(xs:Int)) (b:=xu) Tryz.results125 ?_ ?_ ?_ (aaJ HN3.out _ _ _) ?_
      · rfl
      · rfl
      · rfl
      · exact⟨rfl,((HB3.out.setCell (Nat.le_refl _) _).setCell (Nat.le_refl _) _).setCell (Nat.le_refl _) _⟩
end
section
variable {w w':World} {q g base cap c:Nat} {A:Option Addr} {bs out:List UInt8} {H H':Hp}
theorem PH.blk (h:PH w q g base cap A c bs H){p i:Nat}(hh:H.handleB p=some i):
 ∃xo xs,aam H.blks i=⟨xo,xs,true⟩/\p=xo+8/\184<=xo/\32<=xs/\xo+xs<=bs.length/\i<H.blks.length/\H.At i ⟨xo,xs,true⟩ (H.ds.getD i acI)/\(H.ds.getD i acI).2.length+16=xs/\xs<=16384/\aaY H.blks (xo:Int)=some i:=by
 obtain⟨p8,_,hu⟩:=agQ hh;obtain⟨h1,h2,h3⟩:=aeP hu;have hb:=(h.rd.rt.bound (by rw[h.cp];exact h.c16)).2 _ (List.mem_of_getElem? (aas h1));have hl:=h.len;have hdl:H.ds.length=H.blks.length:=h.rd.dl;have hat:H.At i (aam H.blks i) (H.ds.getD i acI):=⟨aas h1,by rw[List.getD_eq_getElem?_getD,List.getElem?_eq_getElem (by omega)];rfl⟩;have hd:=(h.rd.ho i _ _ hat h3).1;obtain⟨x,hx⟩:=nmE (aam H.blks i);rw[hx]at h2 h3 hb hat hd ⊢;obtain⟨xo,xs,xu⟩:=x;dsimp only at h2 h3 hb hat hd;subst h3;have hxo:(p:Int)-8=(xo:Int):=by omega
 rw[hxo]at hu;exact⟨xo,xs,rfl,by omega,by omega,by omega,by omega,h1,hat,hd,by omega,hu⟩
theorem ahh (h:PH w q g base cap A c bs H) (p a n:Nat) (hp:p<18446744073709551616) (hh:H.handleB p=none):
 Calls Tryz.prog 131 #[.pointer (some ⟨q,0,none⟩), .int .u64 (p:Int), .int .u64 (a:Int), .int .u64 (n:Int)] w fun e w'=>e= .returned (.tuple #[.int .u64 0, .iface 130 (.int .i64 4)])/\Below w.heap.size w w':=by
 have hF:=adk h p hp;rw[hh]at hF;dsimp only[bkV,aat,Option.map,Option.isSome]at hF;have HF:=hE0 hF;clear h hh hF;go_enter Tryz.func131,Tryz.ntmps131
 go_wp2_with fail
 refine HF.out.mono ?_;rintro e w2 ⟨rfl,hb⟩;have HB:=hE0 (hb.alloc hb.size (.cells #[.int .i64 0, .int .i64 0, .bool false] 112));clear hb HF;go_wp2
 go_ret2
 exact⟨rfl,HB.out⟩
theorem ahi{P:Prop}(h:P:=by
 go_wp2_with fail
 refine HF.out.mono ?_;rintro e w2 ⟨rfl,hb⟩;obtain⟨w3,hw3⟩:=nmE (w2.alloc (.cells #[.int .i64 (xo:Int), .int .i64 (xs:Int), .bool true] 112));have n3:=anE hw3;have HB3:Hid (Below w.heap.size w w3):=(show Below _ _ _ by rw[<-hw3];exact hb.alloc hb.size _);obtain⟨⟨d0,d1,d2⟩,_⟩:=aad n3;have hlt3:=aac n3;have HW3:=hE0 hw3;clear hb HF hw3 n3;go_wp2_with (first | (rw[HW3.out]) | fail)
 refine(HUS.out w3).mono ?_;rintro e w4 ⟨rfl,hb4⟩;have HB4:=hE0 (HB3.out.trans (hb4.mono HB3.out.size));clear hb4 d0 d1 d2 HB3;go_wp2
 go_ret2
 exact⟨rfl,HB4.out⟩
 ):P:=h
theorem aiu (h:PH w q g base cap A c bs H) (p a n:Nat) (hp:p<18446744073709551616) (ha:a<18446744073709551616) (hn:n<18446744073709551616){i L:Nat}(hh:H.handleB p=some i) (hL:(H.ds.getD i acI).2.length=L) (hf:L<a+n):
 Calls Tryz.prog 131 #[.pointer (some ⟨q,0,none⟩), .int .u64 (p:Int), .int .u64 (a:Int), .int .u64 (n:Int)] w fun e w'=>e= .returned (.tuple #[.int .u64 0, .iface 130 (.int .i64 2)])/\Below w.heap.size w w':=by
 have hF:=adk h p hp;obtain⟨xo,xs,hx,hpx,h184,h32,hle,hi,hat,hd,h16,hu⟩:=h.blk hh;rw[hL]at hd;rw[hh]at hF;dsimp only[Option.map]at hF;rw[hx]at hF;dsimp only[bkV,Bk.val,aat,Option.isSome]at hF;have HUS:=hE0 (fun W=>abS W (xo:Int) xs true (by omega) h16);have eL:xs-16=L:=by omega
 rw[eL]at HUS;have hL14:L<=16384:=by omega
 have HF:=hE0 hF;clear h hh hF hx hpx hat hu hi eL hd hL;by_cases hal:L<a
 · have g1:decide (L<a)=true:=decide_eq_true (by omega);go_enter Tryz.func131,Tryz.ntmps131
   exact ahi
 · have g1:decide (L<a)=false:=decide_eq_false (by omega);obtain⟨m,hm⟩:=nmE (L-a);have em:(L:Int)-(a:Int)=(m:Int):=by omega
   have g2:decide (m<n)=true:=decide_eq_true (by omega);have hm14:m<=16384:=by omega
   clear hm;go_enter Tryz.func131,Tryz.ntmps131
   go_wp2_with fail
   refine HF.out.mono ?_;rintro e w2 ⟨rfl,hb⟩;obtain⟨w3,hw3⟩:=nmE (w2.alloc (.cells #[.int .i64 (xo:Int), .int .i64 (xs:Int), .bool true] 112));have n3:=anE hw3;have HB3:Hid (Below w.heap.size w w3):=(show Below _ _ _ by rw[<-hw3];exact hb.alloc hb.size _);obtain⟨⟨d0,d1,d2⟩,_⟩:=aad n3;have hlt3:=aac n3;have HW3:=hE0 hw3;have HN3:=hE0 n3;clear hb HF hw3 n3;go_wp2_with (first | (rw[HW3.out]) | fail)
   refine(HUS.out w3).mono ?_;rintro e w4 ⟨rfl,hb4⟩;have n4:=Loc.below hb4 _ _ HN3.out;have HB4:=hE0 (HB3.out.trans (hb4.mono HB3.out.size));clear hb4 d0 d1 d2 HB3 hlt3;obtain⟨⟨d0,d1,d2⟩,_⟩:=aad n4;have hlt4:=aac n4;clear n4 HN3 HW3;go_wp2_with fail
   refine(HUS.out w4).mono ?_;rintro e w5 ⟨rfl,hb5⟩;have HB5:=hE0 (HB4.out.trans (hb5.mono HB4.out.size));clear hb5 d0 d1 d2 HB4 hlt4;go_wp2
   go_ret2
   exact⟨rfl,HB5.out⟩
theorem akG (h:PH w q g base cap A c bs H) (p a n:Nat) (hp:p<18446744073709551616) (hn:n<18446744073709551616){i L x:Nat}(hh:H.handleB p=some i) (hL:(H.ds.getD i acI).2.length=L) (hf:a+n<=L) (hx:base+p+a=x):
 Calls Tryz.prog 131 #[.pointer (some ⟨q,0,none⟩), .int .u64 (p:Int), .int .u64 (a:Int), .int .u64 (n:Int)] w fun e w'=>e= .returned (.tuple #[.int .u64 (x:Int), .nilIface])/\Below w.heap.size w w':=by
 have hF:=adk h p hp;obtain⟨xo,xs,hbk,hpx,h184,h32,hle,hi,hat,hd,h16,hu⟩:=h.blk hh;rw[hL]at hd;rw[hh]at hF;dsimp only[Option.map]at hF;rw[hbk]at hF;dsimp only[bkV,Bk.val,aat,Option.isSome]at hF;have HUS:=hE0 (fun W=>abS W (xo:Int) xs true (by omega) h16);have eL:xs-16=L:=by omega
 rw[eL]at HUS;have hL14:L<=16384:=by omega
 have HF:=hE0 hF;have H0:=hE0 h;have hb62:=h.b62;have hlen:=h.len;have hp14:p<=16384:=by omega
 clear h hh hF hbk hpx hat hu hi eL hd hL h184 h32 hle hlen;have g1:decide (L<a)=false:=decide_eq_false (by omega);obtain⟨m,hm⟩:=nmE (L-a);have em:(L:Int)-(a:Int)=(m:Int):=by omega
 have g2:decide (m<n)=false:=decide_eq_false (by omega);have hm14:m<=16384:=by omega
 have ha14:a<=16384:=by omega
 obtain⟨y,hy⟩:=nmE (base+p);have ey:(base:Int)+(p:Int)=(y:Int):=by omega
 have ex:(y:Int)+(a:Int)=(x:Int):=by omega
 have hy63:y<=4611686018427404288:=by omega
 have hx63:x<=4611686018427420672:=by omega
 clear hm hf hy hx;go_enter Tryz.func131,Tryz.ntmps131
 go_wp2_with fail
 refine HF.out.mono ?_;rintro e w2 ⟨rfl,hb⟩;obtain⟨w3,hw3⟩:=nmE (w2.alloc (.cells #[.int .i64 (xo:Int), .int .i64 (xs:Int), .bool true] 112));have n3:=anE hw3;have HB3:Hid (Below w.heap.size w w3):=(show Below _ _ _ by rw[<-hw3];exact hb.alloc hb.size _);obtain⟨⟨d0,d1,d2⟩,_⟩:=aad n3;have hlt3:=aac n3;have HW3:=hE0 hw3;have HN3:=hE0 n3;clear hb HF hw3 n3;go_wp2_with (first | (rw[HW3.out]) | fail)
 refine(HUS.out w3).mono ?_;rintro e w4 ⟨rfl,hb4⟩;have n4:=Loc.below hb4 _ _ HN3.out;have HB4:=hE0 (HB3.out.trans (hb4.mono HB3.out.size));clear hb4 d0 d1 d2 HB3 hlt3;obtain⟨⟨d0,d1,d2⟩,_⟩:=aad n4;have hlt4:=aac n4;clear n4 HN3 HW3;go_wp2_with fail
 refine(HUS.out w4).mono ?_;rintro e w5 ⟨rfl,hb5⟩;have hb5':=HB4.out.trans (hb5.mono HB4.out.size);have h5:=H0.out.below hb5';have k0:=h5.c0;have hlt5:=h5.lt;have HBS:=hE0 (ab4 h5.ar);have HB5:=hE0 hb5';clear hb5 d0 d1 d2 HB4 hlt4 hb5' h5 H0;go_wp2_with fail
 refine HBS.out.mono ?_;rintro e w6 ⟨rfl,rfl⟩;go_wp2
 go_ret2
 exact⟨rfl,HB5.out⟩
theorem asl (ho:w.heap[q]?=some (.cells #[.pointer (some ⟨g,0,none⟩)] 132 (0,0))) (ha:Ar w 195 g base cap A c bs) (hbase:base<=4611686018427387904) (hl:bs.length<=16384) (o s f p:Nat) (v:UInt8){u:Bool}(hg:aa6 bs (o:Int)=some ⟨o,s,u⟩) (hs:16<=s) (hos:o+s<=bs.length) (hf:s-16<=f) (hp:o+8=p):
 Calls Tryz.prog 130 #[.pointer (some ⟨q,0,none⟩), .int .i64 (o:Int), .int .u64 (f:Int), .int .u8 (v.toNat:Int)] w fun e w'=>e= .returned (.int .u64 (p:Int))/\Below w.heap.size w w':=by
 have hG:=alG w g base cap c A bs (o:Int) _ ha hbase hl (by omega) hg;dsimp only[aaA,bkV,Bk.val,aat,Option.isSome]at hG;have HUS:=hE0 (fun W=>abS W (o:Int) s u (by omega) (by omega));obtain⟨L,hL⟩:=nmE (s-16);rw[hL]at HUS hf;have g1:decide (f<L)=false:=decide_eq_false (by omega);have ep:(o:Int)+8=(p:Int):=by omega
 have hp14:p<=16384:=by omega
 have ho14:o<=16384:=by omega
 have k0:w.cell? ⟨q,0,none⟩=some (.pointer (some ⟨g,0,none⟩)):=by rw[cell_of_row w q 0 _ _ (0,0) ho];rfl
 have hlq:=aac ho;have HG:=hE0 hG;clear hG hg ha ho hL hf hp hos hs;go_enter Tryz.func130,Tryz.ntmps130
 go_wp2_with fail
 refine HG.out.mono ?_;rintro e w2 ⟨rfl,hb⟩;obtain⟨w3,hw3⟩:=nmE (w2.alloc (.cells #[.int .i64 (o:Int), .int .i64 (s:Int), .bool u] 112));have n3:=anE hw3;have HB3:Hid (Below w.heap.size w w3):=(show Below _ _ _ by rw[<-hw3];exact hb.alloc hb.size _);obtain⟨⟨d0,d1,d2⟩,_⟩:=aad n3;have hlt3:=aac n3;have HW3:=hE0 hw3;clear hb HG hw3 n3 k0;go_wp2_with (first | (rw[HW3.out]) | fail)
 refine(HUS.out w3).mono ?_;rintro e w4 ⟨rfl,hb4⟩;have HB4:=hE0 (HB3.out.trans (hb4.mono HB3.out.size));clear hb4 d0 d1 d2 HB3 hlt3;go_wp2
 go_ret
 exact⟨rfl,HB4.out⟩
theorem akH (ho:w.heap[q]?=some (.cells #[.pointer (some ⟨g,0,none⟩)] 132 (0,0))) (ha:Ar w 195 g base cap A c bs) (hbase:base<=4611686018427387904) (hl:bs.length<=16384) (o s f p:Nat) (v:UInt8){u:Bool}(hg:aa6 bs (o:Int)=some ⟨o,s,u⟩) (hs:16<=s) (hos:o+s<=bs.length) (hf:f<s-16) (hp:o+8=p):
 Calls Tryz.prog 130 #[.pointer (some ⟨q,0,none⟩), .int .i64 (o:Int), .int .u64 (f:Int), .int .u8 (v.toNat:Int)] w fun e w'=>e= .returned (.int .u64 (p:Int))/\Became 195 g base cap A (lay bs (p+f) (List.replicate (s-16-f) v)) w w':=by
 have hG:=alG w g base cap c A bs (o:Int) _ ha hbase hl (by omega) hg;dsimp only[aaA,bkV,Bk.val,aat,Option.isSome]at hG;have HUS:=hE0 (fun W=>abS W (o:Int) s u (by omega) (by omega));obtain⟨L,hL⟩:=nmE (s-16);rw[hL]at HUS hf ⊢;obtain⟨m,hm⟩:=nmE (L-f);rw[hm];have g1:decide (f<L)=true:=decide_eq_true (by omega);have ep:(o:Int)+8=(p:Int):=by omega
 have hp14:p<=16384:=by omega
 have ho14:o<=16384:=by omega
 have hf14:f<=16384:=by omega
 have hL14:L<=16384:=by omega
 have em:(L:Int)-(f:Int)=(m:Int):=by omega
 have hm14:m<=16384:=by omega
 obtain⟨y,hy⟩:=nmE (base+p);obtain⟨x,hx⟩:=nmE (y+f);have ey:(base:Int)+(p:Int)=(y:Int):=by omega
 have ex:(y:Int)+(f:Int)=(x:Int):=by omega
 have hy63:y<=4611686018427404288:=by omega
 have hx63:x<=4611686018427420672:=by omega
 have HFL:=hE0 (fun W c' A' (a':Ar W 195 g base cap A' c' bs)=>aoV a' (by omega) x m (p+f) v (by omega) (by omega) (by omega) (by omega));have k0:w.cell? ⟨q,0,none⟩=some (.pointer (some ⟨g,0,none⟩)):=by rw[cell_of_row w q 0 _ _ (0,0) ho];rfl
 have hlq:=aac ho;have HG:=hE0 hG;have HA:=hE0 ha;have HO:=hE0 ho;clear hG hg ha ho hL hf hp hos hs hm hy hx;go_enter Tryz.func130,Tryz.ntmps130
 go_wp2_with fail
 refine HG.out.mono ?_;rintro e w2 ⟨rfl,hb⟩;obtain⟨w3,hw3⟩:=nmE (w2.alloc (.cells #[.int .i64 (o:Int), .int .i64 (s:Int), .bool u] 112));have n3:=anE hw3;have HB3:Hid (Below w.heap.size w w3):=(show Below _ _ _ by rw[<-hw3];exact hb.alloc hb.size _);obtain⟨⟨d0,d1,d2⟩,_⟩:=aad n3;have hlt3:=aac n3;have HW3:=hE0 hw3;clear hb HG hw3 n3 k0;go_wp2_with (first | (rw[HW3.out]) | fail)
 refine(HUS.out w3).mono ?_;rintro e w4 ⟨rfl,hb4⟩;have hb4':=HB3.out.trans (hb4.mono HB3.out.size);obtain⟨wd,hwd⟩:=nmE w4.drew;have hbd:Below w.heap.size w wd:=by rw[<-hwd];exact hb4'.drew
 have had:=HA.out.below hbd;have k0:wd.cell? ⟨q,0,none⟩=some (.pointer (some ⟨g,0,none⟩)):=by rw[cell_of_row wd q 0 _ _ (0,0) ((hbd.block q (aae HO.out)).trans HO.out)];rfl
 have hlq4:q<wd.heap.size:=Nat.lt_of_lt_of_le (aae HO.out) hbd.size;have HBS:=hE0 (ab4 had);have HF4:=hE0 (HFL.out wd c A had);have HBD:=hE0 hbd;have HWD:=hE0 hwd;clear hb4 d0 d1 d2 HB3 hlt3 hb4' had hbd hwd HA HO HFL;go_wp2_with fail
 refine aar wd.heap.size [([0,1,2,3,4,5,6,7,9,11,13,14,15,16],8)] [10,12] [17] (by kernel_rfl) (by kernel_rfl) (by kernel_rfl) (fun _ _ _ _ _ h=>h) ?_;rw[HWD.out];have q0:=tfE k0 hlq4;refine tail_cons (l:= ?seg1) ?hseg1 ?_
 case hseg1=>simp only[pick,lE1,lE2,lE3];rfl
 repeat (go_big_quiet_step (fail))
 refine wpQuiet_nil ?_;clear q0 k0;refine aau (vs:= #[.pointer (some ⟨g,0,none⟩)]) Tryz.call56 rfl rfl rfl (R:=fun r w'=>r= .int .u64 (base:Int)/\w'=wd) (HBS.out.mono ?_) wd.heap.size (Nat.le_refl _) ?_
 · rintro e w' ⟨rfl,rfl⟩;exact⟨_,rfl,Below.refl _ _,rfl,rfl⟩
 rintro r w5 _ ⟨rfl,rfl⟩;refine aaO (l:= ?la2) (t:= ?tl2) ?hla2 ?htl2 ?_
 case hla2=>simp only[pick,lE1,lE2,lE3];rfl
 case htl2=>simp only[pick,lE1,lE2,lE3];rfl
 simp only[Act.put,lE4,lE5,lE6];repeat (go_big_quiet_step (fail))
 refine wpQuiet_nil ?_;clear HBS;go_wp2_with fail
 refine HF4.out.mono ?_;rintro e w6 ⟨rfl,hbe⟩;have HE:=hE0 (hbe.after HBD.out);clear hbe HF4;go_wp2
 go_ret
 exact⟨rfl,HE.out⟩
end
def ak1 (k:Int):Value:=if k=0 then .nilIface else .iface 130 (.int .i64 k)
theorem avb:ak1 0= .nilIface:=rfl
theorem asX:ak1 1= .iface 130 (.int .i64 1):=rfl
def PTurn (g base cap:Nat) (A:Option Addr) (H':Hp) (w w':World):Prop:=∃out,Became 195 g base cap A out w w'/\RtD out H'
def ahj (g base cap:Nat) (A:Option Addr) (r:(Nat × Int) × Hp) (w:World) (e:Ending) (w':World):Prop:=
 e= .returned (.tuple #[.int .u64 (r.1.1:Int),ak1 r.1.2])/\PTurn g base cap A r.2 w w'
def Hp.freeP (H:Hp) (p:Nat):Int × Hp:=match H.handleB p with
 | none=>(4,H)
 | some i=>(0,H.give i)
section
variable {w w':World} {q g base cap c:Nat} {A:Option Addr} {bs out:List UInt8} {H H':Hp}
theorem PH.stay (h:PH w q g base cap A c bs H) (hb:Below w.heap.size w w'):PTurn g base cap A H w w':=⟨bs,abu h.ar hb,h.rd⟩
theorem PTurn.ph (h:PH w q g base cap A c bs H) (ht:PTurn g base cap A H' w w') (hc:H'.cap=cap):∃A' c' out,PH w' q g base cap A' c' out H'/\Tch (foot g A) w w'/\(A'=A\/∀a,A'=some a->w.heap.size<=a.block):=by
 obtain⟨out,hb,hr⟩:=ht;obtain⟨A',c',h1,h2,h3⟩:=h.became hb hr hc;exact⟨A',c',out,h1,h2,h3⟩
theorem asY{H:Hp}(h:Rt bs H) (hc:H.cap<=16384){y:Bk}(hy:y∈H.blks):aa6 bs (y.off:Int)=some y:=(h.md hc).ls.st.at_ _ hy
theorem asm{n:Nat}{x:UInt8}(hs:acU n=none):H.get n x=((0,5),H):=by unfold Hp.get;rw[hs]
theorem asn{n s:Nat}{x:UInt8}(hs:acU n=some s) (ht:(H.take s).1=none):H.get n x=((0,5),H):=by unfold Hp.get;rw[hs];dsimp only;rw[ht]
theorem aso{n s o i:Nat}{x:UInt8}(hs:acU n=some s) (ht:(H.take s).1=some o) (hi:atB (o:Int) (H.take s).2.blks=some i):H.get n x=((o+8,0),((H.take s).2.wipe i).fill i x):=by unfold Hp.get;rw[hs];dsimp only;rw[ht];dsimp only;rw[hi]
theorem asp (h:PH w q g base cap A c bs H) (n:Nat) (hn:n<18446744073709551616) (v:UInt8) (hT:∀s w1,acU n=some s->Below w.heap.size w w1->Calls Tryz.prog 188 #[.pointer (some ⟨g,0,none⟩), .int .i64 (s:Int)] w1 fun e w'=>ab9 g base cap A bs H (H.take s) w1 e w')
 (hG:∀s o out,acU n=some s->(H.take s).1=some o->Rt out (H.take s).2->Held H bs (H.take s).2 out->∃i y,atB (o:Int) (H.take s).2.blks=some i/\(H.take s).2.blks[i]?=some y/\y.off=o/\y.used=true/\s<=y.size/\y.off+y.size<=out.length/\RtD (lay out (o+8) (List.replicate (y.size-16) v)) (((H.take s).2.wipe i).fill i v)):
 Calls Tryz.prog 124 #[.pointer (some ⟨q,0,none⟩), .int .u64 (n:Int), .int .u8 (v.toNat:Int)] w fun e w'=>ahj g base cap A (H.get n v) w e w':=by
 have hN:=auD w n hn
 cases hs:acU n with
 | none=>
  rw[hs]at hN;dsimp only[anu]at hN;have HN:=hE0 hN;have HG:=hE0 (asm (H:=H) (x:=v) hs);have H0:=hE0 h;clear h hN hs hT hG;go_enter Tryz.func124,Tryz.ntmps124
  go_wp2_with fail
  refine HN.out.mono ?_;rintro e w2 ⟨rfl,hb⟩;have HT:=hE0 (H0.out.stay hb);clear hb HN H0;go_wp2
  go_ret2
  rw[HG.out];exact⟨rfl,HT.out⟩
 | some s=>
  have hsz:=ad8 hs;have hss:=(aab _).1 hsz;rw[hs]at hN;dsimp only[anu]at hN;have HN:=hE0 hN;have hK:∀w1,Below w.heap.size w w1->Calls Tryz.prog 188 #[.pointer (some ⟨g,0,none⟩), .int .i64 (s:Int)] w1 fun e w'=>ab9 g base cap A bs H (H.take s) w1 e w':=fun w1 hb=>hT s w1 hs hb;clear hT
  cases ht:(H.take s).1 with
  | none=>
   unfold ab9 at hK;rw[ht]at hK;dsimp only[aat]at hK;have HK:=hE0 hK;have HG:=hE0 (asn (H:=H) (x:=v) hs ht);have H0:=hE0 h;have k0:∀w1,Below w.heap.size w w1->w1.cell? ⟨q,0,none⟩=some (.pointer (some ⟨g,0,none⟩)):=fun w1 hb=>(h.below hb).c0;have K0:=hE0 k0;have hlq:=h.lt;clear h hN hs hK ht k0 hsz hG;go_enter Tryz.func124,Tryz.ntmps124
   go_wp2_with fail
   refine HN.out.mono ?_;rintro e w2 ⟨rfl,hb⟩;have k2:=K0.out w2 hb;have hlq2:=Nat.lt_of_lt_of_le hlq hb.size;have HK2:=hE0 (HK.out w2 hb);have HB2:=hE0 hb;clear hb HN HK K0;go_wp2_with fail
   refine HK2.out.mono ?_;rintro e w3 ⟨rfl,hb3⟩;have HT:=hE0 (H0.out.stay (HB2.out.trans (hb3.mono HB2.out.size)));clear hb3 H0 HB2 HK2 k2;go_wp2
   go_ret2
   rw[HG.out];exact⟨rfl,HT.out⟩
  | some o=>
   unfold ab9 at hK;rw[ht]at hK;dsimp only[aat]at hK;have hcap2:(H.take s).2.cap=cap:=take_cap.trans h.cp;have hGOT:=fun out h1 hh=>hG s o out hs ht h1 hh;have HGS:=hE0 (fun i hi=>aso (H:=H) (x:=v) (i:=i) hs ht hi);obtain⟨H1,hH1⟩:=nmE ((H.take s).2);rw[hH1]at hK hGOT hcap2 HGS;have HGOT:=hE0 hGOT;have HK:=hE0 hK;have H0:=hE0 h;have k0:∀w1,Below w.heap.size w w1->w1.cell? ⟨q,0,none⟩=some (.pointer (some ⟨g,0,none⟩)):=fun w1 hb=>(h.below hb).c0;have K0:=hE0 k0;have hlq:=h.lt;have HC2:=hE0 hcap2;clear h hN hs hK ht k0 hH1 hGOT hcap2 hsz hG;go_enter Tryz.func124,Tryz.ntmps124
   go_wp2_with fail
   refine HN.out.mono ?_;rintro e w2 ⟨rfl,hb⟩;have k2:=K0.out w2 hb;have hlq2:=Nat.lt_of_lt_of_le hlq hb.size;have HK2:=hE0 (HK.out w2 hb);have HB2:=hE0 hb;clear hb HN HK K0;go_wp2_with fail
   refine HK2.out.mono ?_;rintro e w3 ⟨rfl,out,hbe,hr1,hh1⟩;obtain⟨i,y,hi,hy,hyo,hyu,hys,hyl,hrd⟩:=HGOT.out out hr1 hh1;obtain⟨A3,c3,a3,t3,m3⟩:=hbe.after HB2.out;have ho3:=(t3.block q H0.out.lt H0.out.ap).trans H0.out.obj;have hout:out.length<=16384:=(hr1.bound (by rw[HC2.out];exact H0.out.c16)).1;have hgb:=asY hr1 (by rw[HC2.out];exact H0.out.c16) (List.mem_of_getElem? hy);obtain⟨yo,ys,yu⟩:=y;dsimp only at hyo hyu hys hyl hrd hgb;subst hyo;have hf:=akH ho3 a3 H0.out.b62 hout yo ys 0 (yo+8) v hgb (by omega) (by omega) (by omega) rfl;rw[Nat.add_zero,Nat.sub_zero,show((0:Nat):Int)=0 from rfl]at hf;have HF:=hE0 hf;have HRD:=hE0 hrd;have HGI:=hE0 (HGS.out i hi);have HTR:=hE0 (fun b4 w4 (k:Became 195 g base cap A3 b4 w3 w4)=>Became.trans a3 t3 m3 k);clear hbe hr1 hh1 hi hy hyu hyl hrd a3 t3 m3 ho3 hgb hf HGOT HGS HK2 HB2 k2 hlq2;go_wp2_with fail
   refine HF.out.mono ?_;rintro e w4 ⟨rfl,hb4⟩;have HT:=hE0 (HTR.out _ _ hb4);clear hb4 HF HTR;go_wp2
   go_ret2
   rw[HGI.out];exact⟨rfl,_,HT.out,HRD.out⟩
theorem akI (h:PH w q g base cap A c bs H) (n:Nat) (hn:n<18446744073709551616) (v:UInt8):
 Calls Tryz.prog 124 #[.pointer (some ⟨q,0,none⟩), .int .u64 (n:Int), .int .u8 (v.toNat:Int)] w fun e w'=>ahj g base cap A (H.get n v) w e w':=
 asp h n hn v (fun s w1 hsn hb=>by
  have hsz:=ad8 hsn;have:=(at2 w1 g base cap c A bs H (s:Int) (h.ar.below hb) h.b62 h.c16 h.cp h.rd.rt ⟨by have:=(aab _).1 hsz;omega,by have:=(aab _).1 hsz;omega⟩).2 hsz;rw[Int.toNat_natCast]at this;exact this) fun s o out hsn ht h1 hh=>h.rd.got (ad8 hsn) ht h1 hh v
theorem aoi (n:Nat) (hK:Calls Tryz.prog 124 #[.pointer (some ⟨q,0,none⟩), .int .u64 (n:Int), .int .u8 165] w fun e w'=>ahj g base cap A (H.get n 165) w e w'):
 Calls Tryz.prog 61 #[.pointer (some ⟨q,0,none⟩), .int .u64 (n:Int)] w fun e w'=>ahj g base cap A (H.get n 165) w e w':=by
 have HK:=hE0 hK;clear hK;go_enter Tryz.func61,Tryz.ntmps61
 go_wp2_with fail
 refine HK.out.mono ?_;rintro e w2 ⟨rfl,ht⟩;have HT:=hE0 ht;clear ht HK;go_wp2
 go_ret2
 exact⟨rfl,HT.out⟩
theorem al8 (h:PH w q g base cap A c bs H) (n:Nat) (hn:n<18446744073709551616):
 Calls Tryz.prog 61 #[.pointer (some ⟨q,0,none⟩), .int .u64 (n:Int)] w fun e w'=>ahj g base cap A (H.get n 165) w e w':=
 aoi n (akI h n hn 165)
theorem aqD (h:PH w q g base cap A c bs H) (p:Nat) (hp:p<18446744073709551616):
 Calls Tryz.prog 67 #[.pointer (some ⟨q,0,none⟩), .int .u64 (p:Int)] w fun e w'=>e= .returned (ak1 (H.freeP p).1)/\PTurn g base cap A (H.freeP p).2 w w':=by
 unfold Hp.freeP;have hF:=adk h p hp
 cases hh:H.handleB p with
 | none=>
  rw[hh]at hF;dsimp only[bkV,aat,Option.map,Option.isSome]at hF;have HF:=hE0 hF;have H0:=hE0 h;clear h hF hh;go_enter Tryz.func67,Tryz.ntmps67
  go_wp2_with fail
  refine HF.out.mono ?_;rintro e w2 ⟨rfl,hb⟩;have HT:=hE0 (H0.out.stay (hb.alloc hb.size (.cells #[.int .i64 0, .int .i64 0, .bool false] 112)));clear hb HF H0;go_wp2
  go_ret
  exact⟨rfl,HT.out⟩
 | some i=>
  obtain⟨xo,xs,hbk,hpx,h184,h32,hle,hi,hat,hd,h16,hu⟩:=h.blk hh;rw[hh]at hF;dsimp only[Option.map]at hF;rw[hbk]at hF;dsimp only[bkV,Bk.val,aat,Option.isSome]at hF;have hg:H.giveO (xo:Int)=some (H.give i):=by unfold Hp.giveO;rw[hu];rfl
  have hl:=h.len;have hK:∀w1,Below w.heap.size w w1->Calls Tryz.prog 127 #[.pointer (some ⟨g,0,none⟩), .int .i64 (xo:Int)] w1 fun e w'=>ac1 3 g base cap A bs H (some (H.give i)) w1 e w':=fun w1 hb=>by
   have:=au9 w1 g base cap c A bs H (xo:Int) (h.ar.below hb) h.b62 h.c16 h.cp h.rd.rt ⟨by omega,by omega⟩;rw[hg]at this;exact this
  dsimp only[ac1,aat]at hK;have HFR:=hE0 (fun out h' hh=>h.rd.freed (i:=i) (out:=out) hi h' hh);have HK:=hE0 hK;have HF:=hE0 hF;have H0:=hE0 h;clear h hF hh hK hbk hpx hat hd hu hi hg;go_enter Tryz.func67,Tryz.ntmps67
  go_wp2_with fail
  refine HF.out.mono ?_;rintro e w2 ⟨rfl,hb⟩;obtain⟨w3,hw3⟩:=nmE (w2.alloc (.cells #[.int .i64 (xo:Int), .int .i64 (xs:Int), .bool true] 112));obtain⟨wd,hwd⟩:=nmE w3.drew;have n3:wd.heap[w2.heap.size]?=some (.cells #[.int .i64 (xo:Int), .int .i64 (xs:Int), .bool true] 112 (0,0)):=by rw[<-hwd,<-hw3];exact heap_alloc_new w2 _
  have hbd:Below w.heap.size w wd:=by rw[<-hwd,<-hw3];exact(hb.alloc hb.size _).drew
  have k0:=(H0.out.below hbd).c0;have hlq:=(H0.out.below hbd).lt;obtain⟨⟨d0,d1,d2⟩,_⟩:=aad n3;have hlt3:=aac n3;have HK3:=hE0 (HK.out wd hbd);have HBD:=hE0 hbd;have HW3:=hE0 hw3;have HWD:=hE0 hwd;clear hb HF hw3 n3 hwd hbd HK;go_wp2_with (first | (rw[HW3.out]) | fail)
  refine aar wd.heap.size [] [0,1,2,3,4,5] [6,7] (by kernel_rfl) (by kernel_rfl) (by kernel_rfl) (fun _ _ _ _ _ h=>h) ?_;rw[HWD.out];have q0:=tfE k0 hlq;have q1:=tfE d0 hlt3;refine aaO (l:= ?la2) (t:= ?tl2) ?hla2 ?htl2 ?_
  case hla2=>simp only[pick,lE1,lE2,lE3];rfl
  case htl2=>simp only[pick,lE1,lE2,lE3];rfl
  repeat (go_big_quiet_step (fail))
  refine wpQuiet_nil ?_;clear q0 q1 k0 d0 d1 d2;go_wp2_with fail
  refine HK3.out.mono ?_;rintro e w4 ⟨rfl,out,hbe,hr,hh⟩;have HT:Hid (PTurn g base cap A (H.give i) w w4):=⟨out,hbe.after HBD.out,HFR.out out hr hh⟩;clear hbe hr hh HK3 HFR;go_wp2
  go_ret
  exact⟨rfl,HT.out⟩
end
section
theorem al9 (a:Nat) (ha:a<18446744073709551616):bits .and .u64 (a:Int) 4294967295=((a%4294967296:Nat):Int):=by
 have h:=bits_and_u64_nat a 4294967295 ha (by omega);rw[show a&&&4294967295=a%4294967296 from Nat.and_two_pow_sub_one_eq_mod a 32]at h;exact h
theorem at9 (a:Nat):(a:Int)/4294967296=((a/4294967296:Nat):Int):=by omega
theorem aua (a b:Nat):(a:Int)*(b:Int)=((a*b:Nat):Int):=(Int.natCast_mul a b).symm
theorem aub (a b:Nat):(a:Int)+(b:Int)=((a+b:Nat):Int):=(Int.natCast_add a b).symm
theorem afY (a:Nat) (ha:a<18446744073709551616):IntKind.u64.wrap (a:Int)=(a:Int):=by rw[IntKind.wrap_u64];omega
theorem auc (a:Nat):IntKind.u64.wrap (a:Int)=((a%18446744073709551616:Nat):Int):=by rw[IntKind.wrap_u64];omega
theorem aqE (w:World) (x y:Nat) (hx:x<18446744073709551616) (hy:y<18446744073709551616):
 Calls Tryz.prog 126 #[.int .u64 (x:Int), .int .u64 (y:Int)] w fun e w'=>e= .returned (.tuple #[.int .u64 ((x*y/18446744073709551616:Nat):Int), .int .u64 ((x*y%18446744073709551616:Nat):Int)])/\w=w':=by
 obtain⟨bd,bt,bw,hhi⟩:=Lib.mul64_hi x y hx hy;have ba:=Lib.half_mul_le (a:=x/4294967296) (b:=y/4294967296) (by omega) (by omega);have bb:=Lib.half_mul_le (a:=x/4294967296) (b:=y%4294967296) (by omega) (by omega);have bc:=Lib.half_mul_le (a:=x%4294967296) (b:=y/4294967296) (by omega) (by omega);have ba':x/4294967296*(y/4294967296)<18446744073709551616:=by omega
 have bb':x/4294967296*(y%4294967296)<18446744073709551616:=by omega
 have bc':x%4294967296*(y/4294967296)<18446744073709551616:=by omega
 have bh1:x/4294967296*(y/4294967296)+(x/4294967296*(y%4294967296)+x%4294967296*(y%4294967296)/4294967296)/4294967296<18446744073709551616:=by omega
 have bh:x/4294967296*(y/4294967296)+(x/4294967296*(y%4294967296)+x%4294967296*(y%4294967296)/4294967296)/4294967296+((x/4294967296*(y%4294967296)+x%4294967296*(y%4294967296)/4294967296)%4294967296+x%4294967296*(y/4294967296))/4294967296<18446744073709551616:=by omega
 go_enter Tryz.func126,Tryz.ntmps126
 go_wp2
 simp only[al9 x hx,al9 y hy,at9,aua,aub,afY _ bd,afY _ bb',afY _ bt,al9 _ bt,afY _ bc',afY _ bw,afY _ ba',afY _ bh1,afY _ bh,auc (x*y)];rw[hhi];go_ret2
 exact⟨rfl,rfl⟩
end
section
variable {w w':World} {q g base cap c:Nat} {A:Option Addr} {bs out:List UInt8} {H H':Hp}
theorem akJ (h:PH w q g base cap A c bs H) (n m:Nat) (hn:n<18446744073709551616) (hm:m<18446744073709551616):
 Calls Tryz.prog 66 #[.pointer (some ⟨q,0,none⟩), .int .u64 (n:Int), .int .u64 (m:Int)] w fun e w'=>ahj g base cap A (H.calloc n m) w e w':=by
 have hM:=aqE w n m hn hm;obtain⟨k,hk⟩:=nmE (n*m);obtain⟨z,hz⟩:=nmE (k/18446744073709551616);obtain⟨l,hl⟩:=nmE (k%18446744073709551616);rw[hk,hz,hl]at hM;have HM:=hE0 hM;by_cases hbig:18446744073709551615<k
 · have e:H.calloc n m=((0,5),H):=by unfold Hp.calloc;rw[hk,if_pos hbig]
   have hz0:z≠0:=by omega
   have g1:((z:Int) !=0)=true:=by rw[bne_iff_ne];omega
   have HE:=hE0 e;have HT:=hE0 (h.stay (Below.refl _ _));clear h hM hk hz hl e;go_enter Tryz.func66,Tryz.ntmps66
   go_wp2_with fail
   refine HM.out.mono ?_;rintro e w2 ⟨rfl,rfl⟩;go_wp2
   go_ret2
   rw[HE.out];exact⟨rfl,HT.out⟩
 · have e:H.calloc n m=H.get k 0:=by unfold Hp.calloc;rw[hk,if_neg hbig]
   obtain rfl:z=0:=by omega
   obtain rfl:l=k:=by omega
   have HE:=hE0 e;have HK:Hid (Calls Tryz.prog 124 #[.pointer (some ⟨q,0,none⟩), .int .u64 (l:Int), .int .u8 0] w fun e w'=>ahj g base cap A (H.get l 0) w e w'):=akI h l (by omega) 0;clear h hM hk hz hl e;go_enter Tryz.func66,Tryz.ntmps66
   go_wp2_with fail
   refine HM.out.mono ?_;rintro e w2 ⟨rfl,rfl⟩;go_wp2_with fail
   refine HK.out.mono ?_;rintro e w2 ⟨rfl,ht⟩;have HT:=hE0 ht;clear ht HK HM;go_wp2
   go_ret2
   rw[HE.out];exact⟨rfl,HT.out⟩
def Hp.usableP (H:Hp) (p:Nat):Nat × Int:=match H.handleB p with
 | none=>(0,4)
 | some i=>((H.ds.getD i acI).2.length,0)
theorem akK (h:PH w q g base cap A c bs H) (p:Nat) (hp:p<18446744073709551616):
 Calls Tryz.prog 62 #[.pointer (some ⟨q,0,none⟩), .int .u64 (p:Int)] w fun e w'=>e= .returned (.tuple #[.int .u64 ((H.usableP p).1:Int),ak1 (H.usableP p).2])/\Below w.heap.size w w':=by
 unfold Hp.usableP;have hF:=adk h p hp
 cases hh:H.handleB p with
 | none=>
  rw[hh]at hF;dsimp only[bkV,aat,Option.map,Option.isSome]at hF;have HF:=hE0 hF;clear h hF hh;go_enter Tryz.func62,Tryz.ntmps62
  go_wp2_with fail
  refine HF.out.mono ?_;rintro e w2 ⟨rfl,hb⟩;have HT:=hE0 (hb.alloc hb.size (.cells #[.int .i64 0, .int .i64 0, .bool false] 112));clear hb HF;go_wp2
  go_ret2
  exact⟨rfl,HT.out⟩
 | some i=>
  obtain⟨xo,xs,hbk,hpx,h184,h32,hle,hi,hat,hd,h16,hu⟩:=h.blk hh;rw[hh]at hF;dsimp only[Option.map]at hF;rw[hbk]at hF;dsimp only[bkV,Bk.val,aat,Option.isSome]at hF ⊢;have HUS:=hE0 (fun W=>abS W (xo:Int) xs true (by omega) h16);obtain⟨L,hL⟩:=nmE ((H.ds.getD i acI).2.length);rw[hL]at hd ⊢;have eL:xs-16=L:=by omega
  rw[eL]at HUS;have hL14:L<=16384:=by omega
  have HF:=hE0 hF;clear h hF hh hbk hpx hat hd hu hi hL eL;go_enter Tryz.func62,Tryz.ntmps62
  exact ahi
end
section
variable {w:World}
theorem ahk (w:World):Calls Tryz.prog 71 #[.nilIface] w fun e w'=>e= .returned (.int .i64 0)/\Below w.heap.size w w':=by
 have HA:=hE0 (fun t W=>auH t W);go_enter Tryz.func71,Tryz.ntmps71
 go_wp2_with fail
 refine(HA.out _ _).mono ?_;rintro e w2 ⟨rfl,rfl⟩;go_wp2
 go_ret
 exact⟨rfl,(Below.refl _ _).alloc (Nat.le_refl _) _⟩
theorem ET.lt (h:ET w):0<w.heap.size:=by
 unfold ET at h;rcases Nat.eq_zero_or_pos w.heap.size with h0 | h1
 · simp[World.cell?,h0]at h
 · exact h1
theorem ET.keep{w':World}(h:ET w) (hb:w'.heap[0]?=w.heap[0]?):ET w':=(World.cell?_of_block (a:=⟨0,0,none⟩) hb).trans h
theorem ET.below{w':World}(h:ET w) (hb:Below w.heap.size w w'):ET w':=h.keep (hb.block 0 h.lt)
theorem ahl (h:ET w) (k:Int):Calls Tryz.prog 71 #[.iface 130 (.int .i64 k)] w fun e w'=>e= .returned (.int .i64 k)/\Below w.heap.size w w':=by
 obtain⟨w1,hw1⟩:=nmE (w.alloc (.cells #[.int .i64 0] 130));have hb1:=abE hw1;have n1:=anE hw1;have c1:w1.cell? ⟨w.heap.size,0,none⟩=some (.int .i64 0):=by rw[cell_of_row w1 w.heap.size 0 _ _ (0,0) n1];rfl
 have f1:=frozen_of_row w1 w.heap.size 0 _ _ n1;have HA:=hE0 (auK k ⟨w.heap.size,0,none⟩ (.int .i64 0) w1 (h.below hb1) c1 f1);have HN1:=hE0 n1;have HW1:=hE0 hw1;have HB1:=hE0 hb1;clear h hb1 n1 c1 f1 hw1;go_enter Tryz.func71,Tryz.ntmps71
 go_wp2_with (first | (rw[HW1.out]) | fail)
 refine HA.out.mono ?_;rintro e w2 ⟨rfl,hw2⟩;have hs1:=HB1.out.size;have hlt1:=aae HN1.out;obtain⟨wa,hwa⟩:=nmE (((((w1.alloc (.cells #[.pointer (some ⟨w.heap.size,0,none⟩)] 217)).alloc (.cells #[.pointer (some ⟨1,217,none⟩), .pointer (some ⟨w1.heap.size,0,none⟩), .int .u64 150] 267)).alloc (.cells #[.pointer (some ⟨1,217,none⟩), .pointer (some ⟨w1.heap.size,0,none⟩), .int .u64 150] 267)).alloc (.cells #[.int .i64 k] 130)));have hba:Below w1.heap.size w1 wa:=by
  rw[<-hwa];have b1:=(Below.refl w1.heap.size w1).alloc (Nat.le_refl _) (.cells #[.pointer (some ⟨w.heap.size,0,none⟩)] 217);have b2:=b1.alloc b1.size (.cells #[.pointer (some ⟨1,217,none⟩), .pointer (some ⟨w1.heap.size,0,none⟩), .int .u64 150] 267);have b3:=b2.alloc b2.size (.cells #[.pointer (some ⟨1,217,none⟩), .pointer (some ⟨w1.heap.size,0,none⟩), .int .u64 150] 267);exact b3.alloc b3.size _
 rw[hwa]at hw2;have na:=(hba.block _ hlt1).trans HN1.out;have n2:w2.heap[w.heap.size]?=some (.cells #[.int .i64 k] 130 (0,0)):=by rw[hw2,heap_setCell_same wa w.heap.size 0 _ _ (.int .i64 k) na];rfl
 have c2:w2.cell? ⟨w.heap.size,0,none⟩=some (.int .i64 k):=by rw[cell_of_row w2 w.heap.size 0 _ _ (0,0) n2];rfl
 have HB2:Hid (Below w.heap.size w w2):=(show Below _ _ _ by rw[hw2];exact(HB1.out.trans (hba.mono hs1)).setCell (Nat.le_refl _) _);have hlt2:=aae n2;clear hw2 hwa hba na n2 hs1 hlt1 HA HN1 HW1 HB1;go_wp2
 go_ret
 exact⟨rfl,HB2.out⟩
theorem acS (h:ET w) (k:Int):Calls Tryz.prog 71 #[ak1 k] w fun e w'=>e= .returned (.int .i64 k)/\Below w.heap.size w w':=by
 unfold ak1;split
 · rename_i h0;subst h0;exact ahk w
 · exact ahl h k
end
end Go.Proofs.YtncadccbepjekaaGreatDoor
