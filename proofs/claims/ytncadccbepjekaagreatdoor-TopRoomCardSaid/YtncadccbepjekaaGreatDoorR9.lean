/- Texts of mine, joined. -/
import Derived.Lib.Mul64
import Derived.Laws.Bits64b
import Derived.Test.YtncadccbepjekaaGreatDoorR8
set_option maxRecDepth 100000
set_option maxHeartbeats 4000000
namespace Go.Proofs.YtncadccbepjekaaGreatDoor
open Go.RowKit
structure PH (w:World) (q g base cap:Nat) (A:Option Addr) (c:Nat) (bs:List UInt8) (H:Hp):Prop where
 obj:w.heap[q]?=some (.cells #[.pointer (some ⟨g,0,none⟩)] 132 (0,0))
 ar:Ar w 195 g base cap A c bs
 rd:RtD bs H
 cp:H.cap=cap
 c16:cap<=16384
 b62:base<=4611686018427387904
section
variable {w w':World} {q g base cap c:Nat} {A:Option Addr} {bs out:List UInt8} {H H':Hp}
theorem PH.lt (h:PH w q g base cap A c bs H):q<w.heap.size:=aae h.obj
theorem PH.c0 (h:PH w q g base cap A c bs H):w.cell? ⟨q,0,none⟩=some (.pointer (some ⟨g,0,none⟩)):=by rw[cell_of_row w q 0 _ _ (0,0) h.obj];rfl
theorem PH.ap (h:PH w q g base cap A c bs H):¬foot g A q:=by
 rintro(rfl | ⟨a,ea,rfl⟩)
 · have h1:=h.ar.obj;rw[h.obj]at h1;injection h1 with h1;injection h1 with _ h2 _;exact absurd h2 (by decide)
 · obtain⟨h',e,cur,hg,_⟩:=h.ar.row ea;subst e;rw[h.obj]at hg;injection hg with hg;injection hg with _ h2 _;exact absurd h2 (by decide)
theorem PH.below (h:PH w q g base cap A c bs H) (hb:Below w.heap.size w w'):PH w' q g base cap A c bs H:=
 ⟨(hb.block q h.lt).trans h.obj,h.ar.below hb,h.rd,h.cp,h.c16,h.b62⟩
theorem PH.len (h:PH w q g base cap A c bs H):bs.length<=16384:=(h.rd.rt.bound (by rw[h.cp];exact h.c16)).1
theorem PH.became (h:PH w q g base cap A c bs H) (hb:Became 195 g base cap A out w w') (rd:RtD out H') (hc:H'.cap=cap):
 ∃A' c',PH w' q g base cap A' c' out H'/\Tch (foot g A) w w'/\(A'=A\/∀a,A'=some a->w.heap.size<=a.block):=by
 obtain⟨A',c',a,t,k⟩:=hb;exact⟨A',c',⟨(t.block q h.lt h.ap).trans h.obj,a,rd,hc,h.c16,h.b62⟩,t,k⟩
theorem abI (w:World) (o:Int) (s:Nat) (u:Bool) (h1:16<=s) (h2:s<=16384):
 Calls Tryz.prog 110 #[.agg #[.int .i64 o, .int .i64 (s:Int), .bool u]] w fun e w'=>e= .returned (.int .u64 ((s-16:Nat):Int))/\Below w.heap.size w w':=by
 have e:((s-16:Nat):Int)=(s:Int)-16:=by omega
 rw[e];have ew:IntKind.u64.wrap ((s:Int)-16)=(s:Int)-16:=IntWalk.u64_in _ (by omega);clear e;go_enter Tryz.func110,Tryz.ntmps110
 go_wp2
 go_ret
 exact⟨rfl,(Below.refl _ _).alloc (Nat.le_refl _) _⟩
theorem apQ (h:PH w q g base cap A c bs H){p:Nat}(p8:8<=p) (pl:p<=bs.length):H.handleB p=aaY H.blks ((p:Int)-8):=by
 have:=h.len;unfold Hp.handleB;rw[if_neg (by omega)]
theorem anv (h:PH w q g base cap A c bs H){p:Nat}(pl:bs.length<p):H.handleB p=none:=by
 unfold Hp.handleB;split
 · rfl
 · refine ajR fun i x hx hh=> ?_;have:=(h.rd.rt.bound (by rw[h.cp];exact h.c16)).2 x (List.mem_of_getElem? hx);omega
theorem ac9 (h:PH w q g base cap A c bs H) (p:Nat) (hp:p<18446744073709551616):
 Calls Tryz.prog 125 #[.pointer (some ⟨q,0,none⟩), .int .u64 (p:Int)] w fun e w'=>e= .returned (.tuple #[bkV ((H.handleB p).map (aam H.blks)),aat (H.handleB p).isSome 4])/\Below w.heap.size w w':=by
 obtain⟨w1,hw1⟩:=nmE (w.alloc (.cells #[.int .i64 0, .int .i64 0, .bool false] 112));have hb1:=abE hw1;have n1:=anE hw1;have h1:=h.below hb1;have hl:=h.len;obtain⟨⟨c0,c1,c2⟩,f0,f1,f2⟩:=aad n1;have hlt1:=aaa n1;have HW1:=hE0 hw1;have HB1:=hE0 hb1;have HN1:=hE0 n1;have k0:=h1.c0;have HL:=hE0 (abF h1.ar);by_cases p8:p<8
 · have e:H.handleB p=none:=by unfold Hp.handleB;rw[if_pos (.inl p8)]
   rw[e];dsimp only[bkV,aat,Option.map,Option.isSome];have g1:decide ((p:Int)<8)=true:=decide_eq_true (by omega);clear e h h1 hw1 hb1 n1 k0 HL;go_enter Tryz.func125,Tryz.ntmps125
   go_wp2_with (first | (rw[HW1.out]) | fail)
   (try simp only[Exit.inBlock,Exit.then])
   refine abu (x:= .iface 130 (.int .i64 4)) (g:=w.heap.size) (o:=0) (s:=0) (b:=false) Tryz.results125 ?_ ?_ ?_ (aav HN1.out _ _ _) ?_
   · rfl
   · rfl
   · rfl
   · exact⟨rfl,((HB1.out.setCell (Nat.le_refl _) _).setCell (Nat.le_refl _) _).setCell (Nat.le_refl _) _⟩
 · have g1:decide ((p:Int)<8)=false:=decide_eq_false (by omega);obtain⟨n,hn⟩:=nmE bs.length;rw[hn]at HL hl;by_cases pl:n<p
   · have e:=anv h (p:=p) (by omega);rw[e];dsimp only[bkV,aat,Option.map,Option.isSome];have g2:decide ((n:Int)<(p:Int))=true:=decide_eq_true (by omega);clear e h h1 hw1 hb1 n1;go_enter Tryz.func125,Tryz.ntmps125
     go_wp2_with (first | (rw[HW1.out]) | fail)
     refine HL.out.mono ?_;rintro e w2 ⟨rfl,rfl⟩;go_wp2
     (try simp only[Exit.inBlock,Exit.then])
     refine abu (x:= .iface 130 (.int .i64 4)) (g:=w.heap.size) (o:=0) (s:=0) (b:=false) Tryz.results125 ?_ ?_ ?_ (aav HN1.out _ _ _) ?_
     · rfl
     · rfl
     · rfl
     · exact⟨rfl,((HB1.out.setCell (Nat.le_refl _) _).setCell (Nat.le_refl _) _).setCell (Nat.le_refl _) _⟩
   · have g2:decide ((n:Int)<(p:Int))=false:=decide_eq_false (by omega);have e:=apQ h (p:=p) (by omega) (by omega);rw[e];obtain⟨pz,hpz⟩:∃pz:Int,(p:Int)-8=pz:=⟨_,rfl⟩;have hU:=arx w1 g base cap c A bs H pz h1.ar h.b62 h.c16 h.cp h.rd.rt (by omega);rw[hpz];have ewp:IntKind.i64.wrap pz=pz:=IntWalk.i64_in _ (by omega)
     cases hi:aaY H.blks pz with
     | none=>
      rw[hi]at hU;dsimp only[aay,bkV,aat,Option.map,Option.isSome]at hU ⊢;have HU:=hE0 hU;clear e h h1 hw1 hb1 n1 hU hi;go_enter Tryz.func125,Tryz.ntmps125
      go_wp2_with (first | (rw[HW1.out]) | fail)
      refine HL.out.mono ?_;rintro e w2 ⟨rfl,rfl⟩;go_wp2_with fail
      refine HU.out.mono ?_;rintro e w2 ⟨rfl,hb2⟩;have n2:=(hb2.block w.heap.size (aae HN1.out)).trans HN1.out;have n3:(w2.alloc (.cells #[.int .i64 0, .int .i64 0, .bool false] 112)).heap[w.heap.size]?=some (.cells #[.int .i64 0, .int .i64 0, .bool false] 112 (0,0)):=(heap_alloc_old _ _ (aae n2)).trans n2;have hb12:=HB1.out.trans (hb2.mono HB1.out.size);have hb3:Below w.heap.size w (w2.alloc (.cells #[.int .i64 0, .int .i64 0, .bool false] 112)):=hb12.alloc hb12.size _;clear c0 c1 c2 f0 f1 f2 hlt1 k0;obtain⟨⟨c0,c1,c2⟩,f0,f1,f2⟩:=aad n3;have hlt3:=aaa n3;have HB3:=hE0 hb3;have HN3:=hE0 n3;clear hb3 n3 n2 hb12 hb2 HU HL HN1 HB1 HW1;go_wp2
      (try simp only[Exit.inBlock,Exit.then])
      refine abu (x:= .iface 130 (.int .i64 4)) (g:=w.heap.size) (o:=0) (s:=0) (b:=false) Tryz.results125 ?_ ?_ ?_ (aav HN3.out _ _ _) ?_
      · rfl
      · rfl
      · rfl
      · exact⟨rfl,((HB3.out.setCell (Nat.le_refl _) _).setCell (Nat.le_refl _) _).setCell (Nat.le_refl _) _⟩
     | some i=>
      rw[hi]at hU;obtain⟨x,hx⟩:=nmE (aam H.blks i);dsimp only[aay,Option.map]at hU ⊢;rw[hx]at hU ⊢;obtain⟨xo,xs,xu⟩:=x;dsimp only[bkV,Bk.val,aat,Option.isSome]at hU ⊢;have HU:=hE0 hU;clear e h h1 hw1 hb1 n1 hU hi hx;go_enter Tryz.func125,Tryz.ntmps125
      go_wp2_with (first | (rw[HW1.out]) | fail)
      refine HL.out.mono ?_;rintro e w2 ⟨rfl,rfl⟩;go_wp2_with fail
      refine HU.out.mono ?_;rintro e w2 ⟨rfl,hb2⟩;have n2:=(hb2.block w.heap.size (aae HN1.out)).trans HN1.out;obtain⟨w3,hw3⟩:=nmE (w2.alloc (.cells #[.int .i64 (xo:Int), .int .i64 (xs:Int), .bool xu] 112));have n3:w3.heap[w.heap.size]?=some (.cells #[.int .i64 0, .int .i64 0, .bool false] 112 (0,0)):=by rw[<-hw3];exact(heap_alloc_old _ _ (aae n2)).trans n2
      have m3:=anE hw3;have hb12:=HB1.out.trans (hb2.mono HB1.out.size);have hb3:Below w.heap.size w w3:=by rw[<-hw3];exact hb12.alloc hb12.size _
      have HNEQ:=hE0 (show w2.heap.size≠w.heap.size from fun e=>by have:=aae n2;omega);clear c0 c1 c2 f0 f1 f2 hlt1 k0;obtain⟨⟨c0,c1,c2⟩,f0,f1,f2⟩:=aad n3;obtain⟨⟨d0,d1,d2⟩,_⟩:=aad m3;have hlt3:=aaa n3;have hlt4:=aaa m3;have HW3:=hE0 hw3;have HB3:=hE0 hb3;have HN3:=hE0 n3;clear hw3 hb3 n3 n2 hb12 hb2 HU HL HN1 HB1 HW1 m3;go_wp2_with (first | (rw[HW3.out]) | fail)
      (try simp only[Exit.inBlock,Exit.then])
      refine abu (x:= .nilIface) (g:=w.heap.size) (o:=(xo:Int)) (s:=(xs:Int)) (b:=xu) Tryz.results125 ?_ ?_ ?_ (aav HN3.out _ _ _) ?_
      · rfl
      · rfl
      · rfl
      · exact⟨rfl,((HB3.out.setCell (Nat.le_refl _) _).setCell (Nat.le_refl _) _).setCell (Nat.le_refl _) _⟩
end
section
variable {w w':World} {q g base cap c:Nat} {A:Option Addr} {bs out:List UInt8} {H H':Hp}
theorem PH.blk (h:PH w q g base cap A c bs H){p i:Nat}(hh:H.handleB p=some i):
 ∃xo xs,aam H.blks i=⟨xo,xs,true⟩/\p=xo+8/\184<=xo/\32<=xs/\xo+xs<=bs.length/\i<H.blks.length/\H.At i ⟨xo,xs,true⟩ (H.ds.getD i aco)/\(H.ds.getD i aco).2.length+16=xs/\xs<=16384/\aaY H.blks (xo:Int)=some i:=by
 obtain⟨p8,_,hu⟩:=aep hh;obtain⟨h1,h2,h3⟩:=aeq hu;have hb:=(h.rd.rt.bound (by rw[h.cp];exact h.c16)).2 _ (List.mem_of_getElem? (aar h1));have hl:=h.len;have hdl:H.ds.length=H.blks.length:=h.rd.dl;have hat:H.At i (aam H.blks i) (H.ds.getD i aco):=⟨aar h1,by rw[List.getD_eq_getElem?_getD,List.getElem?_eq_getElem (by omega)];rfl⟩;have hd:=(h.rd.ho i _ _ hat h3).1;obtain⟨x,hx⟩:=nmE (aam H.blks i);rw[hx]at h2 h3 hb hat hd ⊢;obtain⟨xo,xs,xu⟩:=x;dsimp only at h2 h3 hb hat hd;subst h3;have hxo:(p:Int)-8=(xo:Int):=by omega
 rw[hxo]at hu;exact⟨xo,xs,rfl,by omega,by omega,by omega,by omega,h1,hat,hd,by omega,hu⟩
theorem agB (h:PH w q g base cap A c bs H) (p a n:Nat) (hp:p<18446744073709551616) (hh:H.handleB p=none):
 Calls Tryz.prog 131 #[.pointer (some ⟨q,0,none⟩), .int .u64 (p:Int), .int .u64 (a:Int), .int .u64 (n:Int)] w fun e w'=>e= .returned (.tuple #[.int .u64 0, .iface 130 (.int .i64 4)])/\Below w.heap.size w w':=by
 have hF:=ac9 h p hp;rw[hh]at hF;dsimp only[bkV,aat,Option.map,Option.isSome]at hF;have HF:=hE0 hF;clear h hh hF;go_enter Tryz.func131,Tryz.ntmps131
 go_wp2_with fail
 refine HF.out.mono ?_;rintro e w2 ⟨rfl,hb⟩;have HB:=hE0 (hb.alloc hb.size (.cells #[.int .i64 0, .int .i64 0, .bool false] 112));clear hb HF;go_wp2
 go_ret2
 exact⟨rfl,HB.out⟩
theorem ahI (h:PH w q g base cap A c bs H) (p a n:Nat) (hp:p<18446744073709551616) (ha:a<18446744073709551616) (hn:n<18446744073709551616){i L:Nat}(hh:H.handleB p=some i) (hL:(H.ds.getD i aco).2.length=L) (hf:L<a+n):
 Calls Tryz.prog 131 #[.pointer (some ⟨q,0,none⟩), .int .u64 (p:Int), .int .u64 (a:Int), .int .u64 (n:Int)] w fun e w'=>e= .returned (.tuple #[.int .u64 0, .iface 130 (.int .i64 2)])/\Below w.heap.size w w':=by
 have hF:=ac9 h p hp;obtain⟨xo,xs,hx,hpx,h184,h32,hle,hi,hat,hd,h16,hu⟩:=h.blk hh;rw[hL]at hd;rw[hh]at hF;dsimp only[Option.map]at hF;rw[hx]at hF;dsimp only[bkV,Bk.val,aat,Option.isSome]at hF;have HUS:=hE0 (fun W=>abI W (xo:Int) xs true (by omega) h16);have eL:xs-16=L:=by omega
 rw[eL]at HUS;have hL14:L<=16384:=by omega
 have HF:=hE0 hF;clear h hh hF hx hpx hat hu hi eL hd hL;by_cases hal:L<a
 · have g1:decide (L<a)=true:=decide_eq_true (by omega);go_enter Tryz.func131,Tryz.ntmps131
   go_wp2_with fail
   refine HF.out.mono ?_;rintro e w2 ⟨rfl,hb⟩;obtain⟨w3,hw3⟩:=nmE (w2.alloc (.cells #[.int .i64 (xo:Int), .int .i64 (xs:Int), .bool true] 112));have n3:=anE hw3;have HB3:Hid (Below w.heap.size w w3):=(show Below _ _ _ by rw[<-hw3];exact hb.alloc hb.size _);obtain⟨⟨d0,d1,d2⟩,_⟩:=aad n3;have hlt3:=aaa n3;have HW3:=hE0 hw3;clear hb HF hw3 n3;go_wp2_with (first | (rw[HW3.out]) | fail)
   refine(HUS.out w3).mono ?_;rintro e w4 ⟨rfl,hb4⟩;have HB4:=hE0 (HB3.out.trans (hb4.mono HB3.out.size));clear hb4 d0 d1 d2 HB3;go_wp2
   go_ret2
   exact⟨rfl,HB4.out⟩
 · have g1:decide (L<a)=false:=decide_eq_false (by omega);obtain⟨m,hm⟩:=nmE (L-a);have em:(L:Int)-(a:Int)=(m:Int):=by omega
   have g2:decide (m<n)=true:=decide_eq_true (by omega);have hm14:m<=16384:=by omega
   clear hm;go_enter Tryz.func131,Tryz.ntmps131
   go_wp2_with fail
   refine HF.out.mono ?_;rintro e w2 ⟨rfl,hb⟩;obtain⟨w3,hw3⟩:=nmE (w2.alloc (.cells #[.int .i64 (xo:Int), .int .i64 (xs:Int), .bool true] 112));have n3:=anE hw3;have HB3:Hid (Below w.heap.size w w3):=(show Below _ _ _ by rw[<-hw3];exact hb.alloc hb.size _);obtain⟨⟨d0,d1,d2⟩,_⟩:=aad n3;have hlt3:=aaa n3;have HW3:=hE0 hw3;have HN3:=hE0 n3;clear hb HF hw3 n3;go_wp2_with (first | (rw[HW3.out]) | fail)
   refine(HUS.out w3).mono ?_;rintro e w4 ⟨rfl,hb4⟩;have n4:=Loc.below hb4 _ _ HN3.out;have HB4:=hE0 (HB3.out.trans (hb4.mono HB3.out.size));clear hb4 d0 d1 d2 HB3 hlt3;obtain⟨⟨d0,d1,d2⟩,_⟩:=aad n4;have hlt4:=aaa n4;clear n4 HN3 HW3;go_wp2_with fail
   refine(HUS.out w4).mono ?_;rintro e w5 ⟨rfl,hb5⟩;have HB5:=hE0 (HB4.out.trans (hb5.mono HB4.out.size));clear hb5 d0 d1 d2 HB4 hlt4;go_wp2
   go_ret2
   exact⟨rfl,HB5.out⟩
theorem ajW (h:PH w q g base cap A c bs H) (p a n:Nat) (hp:p<18446744073709551616) (hn:n<18446744073709551616){i L x:Nat}(hh:H.handleB p=some i) (hL:(H.ds.getD i aco).2.length=L) (hf:a+n<=L) (hx:base+p+a=x):
 Calls Tryz.prog 131 #[.pointer (some ⟨q,0,none⟩), .int .u64 (p:Int), .int .u64 (a:Int), .int .u64 (n:Int)] w fun e w'=>e= .returned (.tuple #[.int .u64 (x:Int), .nilIface])/\Below w.heap.size w w':=by
 have hF:=ac9 h p hp;obtain⟨xo,xs,hbk,hpx,h184,h32,hle,hi,hat,hd,h16,hu⟩:=h.blk hh;rw[hL]at hd;rw[hh]at hF;dsimp only[Option.map]at hF;rw[hbk]at hF;dsimp only[bkV,Bk.val,aat,Option.isSome]at hF;have HUS:=hE0 (fun W=>abI W (xo:Int) xs true (by omega) h16);have eL:xs-16=L:=by omega
 rw[eL]at HUS;have hL14:L<=16384:=by omega
 have HF:=hE0 hF;have H0:=hE0 h;have hb62:=h.b62;have hlen:=h.len;have hp14:p<=16384:=by omega
 clear h hh hF hbk hpx hat hu hi eL hd hL h184 h32 hle hlen;have g1:decide (L<a)=false:=decide_eq_false (by omega);obtain⟨m,hm⟩:=nmE (L-a);have em:(L:Int)-(a:Int)=(m:Int):=by omega
 have g2:decide (m<n)=false:=decide_eq_false (by omega);have hm14:m<=16384:=by omega
 have ha14:a<=16384:=by omega
 obtain⟨y,hy⟩:=nmE (base+p);have ey:(base:Int)+(p:Int)=(y:Int):=by omega
 have ex:(y:Int)+(a:Int)=(x:Int):=by omega
 have hy63:y<=4611686018427404288:=by omega
 have hx63:x<=4611686018427420672:=by omega
 clear hm hf hy hx;go_enter Tryz.func131,Tryz.ntmps131
 go_wp2_with fail
 refine HF.out.mono ?_;rintro e w2 ⟨rfl,hb⟩;obtain⟨w3,hw3⟩:=nmE (w2.alloc (.cells #[.int .i64 (xo:Int), .int .i64 (xs:Int), .bool true] 112));have n3:=anE hw3;have HB3:Hid (Below w.heap.size w w3):=(show Below _ _ _ by rw[<-hw3];exact hb.alloc hb.size _);obtain⟨⟨d0,d1,d2⟩,_⟩:=aad n3;have hlt3:=aaa n3;have HW3:=hE0 hw3;have HN3:=hE0 n3;clear hb HF hw3 n3;go_wp2_with (first | (rw[HW3.out]) | fail)
 refine(HUS.out w3).mono ?_;rintro e w4 ⟨rfl,hb4⟩;have n4:=Loc.below hb4 _ _ HN3.out;have HB4:=hE0 (HB3.out.trans (hb4.mono HB3.out.size));clear hb4 d0 d1 d2 HB3 hlt3;obtain⟨⟨d0,d1,d2⟩,_⟩:=aad n4;have hlt4:=aaa n4;clear n4 HN3 HW3;go_wp2_with fail
 refine(HUS.out w4).mono ?_;rintro e w5 ⟨rfl,hb5⟩;have hb5':=HB4.out.trans (hb5.mono HB4.out.size);have h5:=H0.out.below hb5';have k0:=h5.c0;have hlt5:=h5.lt;have HBS:=hE0 (acc h5.ar);have HB5:=hE0 hb5';clear hb5 d0 d1 d2 HB4 hlt4 hb5' h5 H0;go_wp2_with fail
 refine HBS.out.mono ?_;rintro e w6 ⟨rfl,rfl⟩;go_wp2
 go_ret2
 exact⟨rfl,HB5.out⟩
theorem arG (ho:w.heap[q]?=some (.cells #[.pointer (some ⟨g,0,none⟩)] 132 (0,0))) (ha:Ar w 195 g base cap A c bs) (hbase:base<=4611686018427387904) (hl:bs.length<=16384) (o s f p:Nat) (v:UInt8){u:Bool}(hg:aa2 bs (o:Int)=some ⟨o,s,u⟩) (hs:16<=s) (hos:o+s<=bs.length) (hf:s-16<=f) (hp:o+8=p):
 Calls Tryz.prog 130 #[.pointer (some ⟨q,0,none⟩), .int .i64 (o:Int), .int .u64 (f:Int), .int .u8 (v.toNat:Int)] w fun e w'=>e= .returned (.int .u64 (p:Int))/\Below w.heap.size w w':=by
 have hG:=ajv w g base cap c A bs (o:Int) _ ha hbase hl (by omega) hg;dsimp only[aay,bkV,Bk.val,aat,Option.isSome]at hG;have HUS:=hE0 (fun W=>abI W (o:Int) s u (by omega) (by omega));obtain⟨L,hL⟩:=nmE (s-16);rw[hL]at HUS hf;have g1:decide (f<L)=false:=decide_eq_false (by omega);have ep:(o:Int)+8=(p:Int):=by omega
 have hp14:p<=16384:=by omega
 have ho14:o<=16384:=by omega
 have k0:w.cell? ⟨q,0,none⟩=some (.pointer (some ⟨g,0,none⟩)):=by rw[cell_of_row w q 0 _ _ (0,0) ho];rfl
 have hlq:=aaa ho;have HG:=hE0 hG;clear hG hg ha ho hL hf hp hos hs;go_enter Tryz.func130,Tryz.ntmps130
 go_wp2_with fail
 refine HG.out.mono ?_;rintro e w2 ⟨rfl,hb⟩;obtain⟨w3,hw3⟩:=nmE (w2.alloc (.cells #[.int .i64 (o:Int), .int .i64 (s:Int), .bool u] 112));have n3:=anE hw3;have HB3:Hid (Below w.heap.size w w3):=(show Below _ _ _ by rw[<-hw3];exact hb.alloc hb.size _);obtain⟨⟨d0,d1,d2⟩,_⟩:=aad n3;have hlt3:=aaa n3;have HW3:=hE0 hw3;clear hb HG hw3 n3 k0;go_wp2_with (first | (rw[HW3.out]) | fail)
 refine(HUS.out w3).mono ?_;rintro e w4 ⟨rfl,hb4⟩;have HB4:=hE0 (HB3.out.trans (hb4.mono HB3.out.size));clear hb4 d0 d1 d2 HB3 hlt3;go_wp2
 go_ret
 exact⟨rfl,HB4.out⟩
theorem ajX (ho:w.heap[q]?=some (.cells #[.pointer (some ⟨g,0,none⟩)] 132 (0,0))) (ha:Ar w 195 g base cap A c bs) (hbase:base<=4611686018427387904) (hl:bs.length<=16384) (o s f p:Nat) (v:UInt8){u:Bool}(hg:aa2 bs (o:Int)=some ⟨o,s,u⟩) (hs:16<=s) (hos:o+s<=bs.length) (hf:f<s-16) (hp:o+8=p):
 Calls Tryz.prog 130 #[.pointer (some ⟨q,0,none⟩), .int .i64 (o:Int), .int .u64 (f:Int), .int .u8 (v.toNat:Int)] w fun e w'=>e= .returned (.int .u64 (p:Int))/\Became 195 g base cap A (lay bs (p+f) (List.replicate (s-16-f) v)) w w':=by
 have hG:=ajv w g base cap c A bs (o:Int) _ ha hbase hl (by omega) hg;dsimp only[aay,bkV,Bk.val,aat,Option.isSome]at hG;have HUS:=hE0 (fun W=>abI W (o:Int) s u (by omega) (by omega));obtain⟨L,hL⟩:=nmE (s-16);rw[hL]at HUS hf ⊢;obtain⟨m,hm⟩:=nmE (L-f);rw[hm];have g1:decide (f<L)=true:=decide_eq_true (by omega);have ep:(o:Int)+8=(p:Int):=by omega
 have hp14:p<=16384:=by omega
 have ho14:o<=16384:=by omega
 have hf14:f<=16384:=by omega
 have hL14:L<=16384:=by omega
 have em:(L:Int)-(f:Int)=(m:Int):=by omega
 have hm14:m<=16384:=by omega
 obtain⟨y,hy⟩:=nmE (base+p);obtain⟨x,hx⟩:=nmE (y+f);have ey:(base:Int)+(p:Int)=(y:Int):=by omega
 have ex:(y:Int)+(f:Int)=(x:Int):=by omega
 have hy63:y<=4611686018427404288:=by omega
 have hx63:x<=4611686018427420672:=by omega
 have HFL:=hE0 (fun W c' A' (a':Ar W 195 g base cap A' c' bs)=>an8 a' (by omega) x m (p+f) v (by omega) (by omega) (by omega) (by omega));have k0:w.cell? ⟨q,0,none⟩=some (.pointer (some ⟨g,0,none⟩)):=by rw[cell_of_row w q 0 _ _ (0,0) ho];rfl
 have hlq:=aaa ho;have HG:=hE0 hG;have HA:=hE0 ha;have HO:=hE0 ho;clear hG hg ha ho hL hf hp hos hs hm hy hx;go_enter Tryz.func130,Tryz.ntmps130
 go_wp2_with fail
 refine HG.out.mono ?_;rintro e w2 ⟨rfl,hb⟩;obtain⟨w3,hw3⟩:=nmE (w2.alloc (.cells #[.int .i64 (o:Int), .int .i64 (s:Int), .bool u] 112));have n3:=anE hw3;have HB3:Hid (Below w.heap.size w w3):=(show Below _ _ _ by rw[<-hw3];exact hb.alloc hb.size _);obtain⟨⟨d0,d1,d2⟩,_⟩:=aad n3;have hlt3:=aaa n3;have HW3:=hE0 hw3;clear hb HG hw3 n3 k0;go_wp2_with (first | (rw[HW3.out]) | fail)
 refine(HUS.out w3).mono ?_;rintro e w4 ⟨rfl,hb4⟩;have hb4':=HB3.out.trans (hb4.mono HB3.out.size);obtain⟨wd,hwd⟩:=nmE w4.drew;have hbd:Below w.heap.size w wd:=by rw[<-hwd];exact hb4'.drew
 have had:=HA.out.below hbd;have k0:wd.cell? ⟨q,0,none⟩=some (.pointer (some ⟨g,0,none⟩)):=by rw[cell_of_row wd q 0 _ _ (0,0) ((hbd.block q (aae HO.out)).trans HO.out)];rfl
 have hlq4:q<wd.heap.size:=Nat.lt_of_lt_of_le (aae HO.out) hbd.size;have HBS:=hE0 (acc had);have HF4:=hE0 (HFL.out wd c A had);have HBD:=hE0 hbd;have HWD:=hE0 hwd;clear hb4 d0 d1 d2 HB3 hlt3 hb4' had hbd hwd HA HO HFL;go_wp2_with fail
 refine aaq wd.heap.size [([0,1,2,3,4,5,6,7,9,11,13,14,15,16],8)] [10,12] [17] (by kernel_rfl) (by kernel_rfl) (by kernel_rfl) (fun _ _ _ _ _ h=>h) ?_;rw[HWD.out];have q0:=tfE k0 hlq4;refine tail_cons (l:= ?seg1) ?hseg1 ?_
 case hseg1=>simp only[pick,lE1,lE2,lE3];rfl
 repeat (go_big_quiet_step (fail))
 refine wpQuiet_nil ?_;clear q0 k0;refine aau (vs:= #[.pointer (some ⟨g,0,none⟩)]) Tryz.call56 rfl rfl rfl (R:=fun r w'=>r= .int .u64 (base:Int)/\w'=wd) (HBS.out.mono ?_) wd.heap.size (Nat.le_refl _) ?_
 · rintro e w' ⟨rfl,rfl⟩;exact⟨_,rfl,Below.refl _ _,rfl,rfl⟩
 rintro r w5 _ ⟨rfl,rfl⟩;refine aaN (l:= ?la2) (t:= ?tl2) ?hla2 ?htl2 ?_
 case hla2=>simp only[pick,lE1,lE2,lE3];rfl
 case htl2=>simp only[pick,lE1,lE2,lE3];rfl
 simp only[Act.put,lE4,lE5,lE6];repeat (go_big_quiet_step (fail))
 refine wpQuiet_nil ?_;clear HBS;go_wp2_with fail
 refine HF4.out.mono ?_;rintro e w6 ⟨rfl,hbe⟩;have HE:=hE0 (hbe.after HBD.out);clear hbe HF4;go_wp2
 go_ret
 exact⟨rfl,HE.out⟩
end
def amn (k:Int):Value:=if k=0 then .nilIface else .iface 130 (.int .i64 k)
theorem aum:amn 1= .iface 130 (.int .i64 1):=rfl
def PTurn (g base cap:Nat) (A:Option Addr) (H':Hp) (w w':World):Prop:=∃out,Became 195 g base cap A out w w'/\RtD out H'
def afA (g base cap:Nat) (A:Option Addr) (r:(Nat × Int) × Hp) (w:World) (e:Ending) (w':World):Prop:=
 e= .returned (.tuple #[.int .u64 (r.1.1:Int),amn r.1.2])/\PTurn g base cap A r.2 w w'
def Hp.freeP (H:Hp) (p:Nat):Int × Hp:=match H.handleB p with
 | none=>(4,H)
 | some i=>(0,H.give i)
section
variable {w w':World} {q g base cap c:Nat} {A:Option Addr} {bs out:List UInt8} {H H':Hp}
theorem PH.stay (h:PH w q g base cap A c bs H) (hb:Below w.heap.size w w'):PTurn g base cap A H w w':=⟨bs,abn h.ar hb,h.rd⟩
theorem PTurn.ph (h:PH w q g base cap A c bs H) (ht:PTurn g base cap A H' w w') (hc:H'.cap=cap):∃A' c' out,PH w' q g base cap A' c' out H'/\Tch (foot g A) w w'/\(A'=A\/∀a,A'=some a->w.heap.size<=a.block):=by
 obtain⟨out,hb,hr⟩:=ht;obtain⟨A',c',h1,h2,h3⟩:=h.became hb hr hc;exact⟨A',c',out,h1,h2,h3⟩
theorem ase{H:Hp}(h:Rt bs H) (hc:H.cap<=16384){y:Bk}(hy:y∈H.blks):aa2 bs (y.off:Int)=some y:=(h.md hc).ls.st.at_ _ hy
theorem arH{n:Nat}{x:UInt8}(hs:abW n=none):H.get n x=((0,5),H):=by unfold Hp.get;rw[hs]
theorem arI{n s:Nat}{x:UInt8}(hs:abW n=some s) (ht:(H.take s).1=none):H.get n x=((0,5),H):=by unfold Hp.get;rw[hs];dsimp only;rw[ht]
theorem arJ{n s o i:Nat}{x:UInt8}(hs:abW n=some s) (ht:(H.take s).1=some o) (hi:atB (o:Int) (H.take s).2.blks=some i):H.get n x=((o+8,0),((H.take s).2.wipe i).fill i x):=by unfold Hp.get;rw[hs];dsimp only;rw[ht];dsimp only;rw[hi]
theorem arK (h:PH w q g base cap A c bs H) (n:Nat) (hn:n<18446744073709551616) (v:UInt8) (hT:∀s w1,abW n=some s->Below w.heap.size w w1->Calls Tryz.prog 188 #[.pointer (some ⟨g,0,none⟩), .int .i64 (s:Int)] w1 fun e w'=>ab5 g base cap A bs H (H.take s) w1 e w')
 (hG:∀s o out,abW n=some s->(H.take s).1=some o->Rt out (H.take s).2->Held H bs (H.take s).2 out->∃i y,atB (o:Int) (H.take s).2.blks=some i/\(H.take s).2.blks[i]?=some y/\y.off=o/\y.used=true/\s<=y.size/\y.off+y.size<=out.length/\RtD (lay out (o+8) (List.replicate (y.size-16) v)) (((H.take s).2.wipe i).fill i v)):
 Calls Tryz.prog 124 #[.pointer (some ⟨q,0,none⟩), .int .u64 (n:Int), .int .u8 (v.toNat:Int)] w fun e w'=>afA g base cap A (H.get n v) w e w':=by
 have hN:=atQ w n hn
 cases hs:abW n with
 | none=>
  rw[hs]at hN;dsimp only[amK]at hN;have HN:=hE0 hN;have HG:=hE0 (arH (H:=H) (x:=v) hs);have H0:=hE0 h;clear h hN hs hT hG;go_enter Tryz.func124,Tryz.ntmps124
  go_wp2_with fail
  refine HN.out.mono ?_;rintro e w2 ⟨rfl,hb⟩;have HT:=hE0 (H0.out.stay hb);clear hb HN H0;go_wp2
  go_ret2
  rw[HG.out];exact⟨rfl,HT.out⟩
 | some s=>
  have hsz:=acM hs;have hss:=(aac _).1 hsz;rw[hs]at hN;dsimp only[amK]at hN;have HN:=hE0 hN;have hK:∀w1,Below w.heap.size w w1->Calls Tryz.prog 188 #[.pointer (some ⟨g,0,none⟩), .int .i64 (s:Int)] w1 fun e w'=>ab5 g base cap A bs H (H.take s) w1 e w':=fun w1 hb=>hT s w1 hs hb;clear hT
  cases ht:(H.take s).1 with
  | none=>
   unfold ab5 at hK;rw[ht]at hK;dsimp only[aat]at hK;have HK:=hE0 hK;have HG:=hE0 (arI (H:=H) (x:=v) hs ht);have H0:=hE0 h;have k0:∀w1,Below w.heap.size w w1->w1.cell? ⟨q,0,none⟩=some (.pointer (some ⟨g,0,none⟩)):=fun w1 hb=>(h.below hb).c0;have K0:=hE0 k0;have hlq:=h.lt;clear h hN hs hK ht k0 hsz hG;go_enter Tryz.func124,Tryz.ntmps124
   go_wp2_with fail
   refine HN.out.mono ?_;rintro e w2 ⟨rfl,hb⟩;have k2:=K0.out w2 hb;have hlq2:=Nat.lt_of_lt_of_le hlq hb.size;have HK2:=hE0 (HK.out w2 hb);have HB2:=hE0 hb;clear hb HN HK K0;go_wp2_with fail
   refine HK2.out.mono ?_;rintro e w3 ⟨rfl,hb3⟩;have HT:=hE0 (H0.out.stay (HB2.out.trans (hb3.mono HB2.out.size)));clear hb3 H0 HB2 HK2 k2;go_wp2
   go_ret2
   rw[HG.out];exact⟨rfl,HT.out⟩
  | some o=>
   unfold ab5 at hK;rw[ht]at hK;dsimp only[aat]at hK;have hcap2:(H.take s).2.cap=cap:=take_cap.trans h.cp;have hGOT:=fun out h1 hh=>hG s o out hs ht h1 hh;have HGS:=hE0 (fun i hi=>arJ (H:=H) (x:=v) (i:=i) hs ht hi);obtain⟨H1,hH1⟩:=nmE ((H.take s).2);rw[hH1]at hK hGOT hcap2 HGS;have HGOT:=hE0 hGOT;have HK:=hE0 hK;have H0:=hE0 h;have k0:∀w1,Below w.heap.size w w1->w1.cell? ⟨q,0,none⟩=some (.pointer (some ⟨g,0,none⟩)):=fun w1 hb=>(h.below hb).c0;have K0:=hE0 k0;have hlq:=h.lt;have HC2:=hE0 hcap2;clear h hN hs hK ht k0 hH1 hGOT hcap2 hsz hG;go_enter Tryz.func124,Tryz.ntmps124
   go_wp2_with fail
   refine HN.out.mono ?_;rintro e w2 ⟨rfl,hb⟩;have k2:=K0.out w2 hb;have hlq2:=Nat.lt_of_lt_of_le hlq hb.size;have HK2:=hE0 (HK.out w2 hb);have HB2:=hE0 hb;clear hb HN HK K0;go_wp2_with fail
   refine HK2.out.mono ?_;rintro e w3 ⟨rfl,out,hbe,hr1,hh1⟩;obtain⟨i,y,hi,hy,hyo,hyu,hys,hyl,hrd⟩:=HGOT.out out hr1 hh1;obtain⟨A3,c3,a3,t3,m3⟩:=hbe.after HB2.out;have ho3:=(t3.block q H0.out.lt H0.out.ap).trans H0.out.obj;have hout:out.length<=16384:=(hr1.bound (by rw[HC2.out];exact H0.out.c16)).1;have hgb:=ase hr1 (by rw[HC2.out];exact H0.out.c16) (List.mem_of_getElem? hy);obtain⟨yo,ys,yu⟩:=y;dsimp only at hyo hyu hys hyl hrd hgb;subst hyo;have hf:=ajX ho3 a3 H0.out.b62 hout yo ys 0 (yo+8) v hgb (by omega) (by omega) (by omega) rfl;rw[Nat.add_zero,Nat.sub_zero,show((0:Nat):Int)=0 from rfl]at hf;have HF:=hE0 hf;have HRD:=hE0 hrd;have HGI:=hE0 (HGS.out i hi);have HTR:=hE0 (fun b4 w4 (k:Became 195 g base cap A3 b4 w3 w4)=>Became.trans a3 t3 m3 k);clear hbe hr1 hh1 hi hy hyu hyl hrd a3 t3 m3 ho3 hgb hf HGOT HGS HK2 HB2 k2 hlq2;go_wp2_with fail
   refine HF.out.mono ?_;rintro e w4 ⟨rfl,hb4⟩;have HT:=hE0 (HTR.out _ _ hb4);clear hb4 HF HTR;go_wp2
   go_ret2
   rw[HGI.out];exact⟨rfl,_,HT.out,HRD.out⟩
theorem ajY (h:PH w q g base cap A c bs H) (n:Nat) (hn:n<18446744073709551616) (v:UInt8):
 Calls Tryz.prog 124 #[.pointer (some ⟨q,0,none⟩), .int .u64 (n:Int), .int .u8 (v.toNat:Int)] w fun e w'=>afA g base cap A (H.get n v) w e w':=
 arK h n hn v (fun s w1 hsn hb=>by
  have hsz:=acM hsn;have:=(atc w1 g base cap c A bs H (s:Int) (h.ar.below hb) h.b62 h.c16 h.cp h.rd.rt ⟨by have:=(aac _).1 hsz;omega,by have:=(aac _).1 hsz;omega⟩).2 hsz;rw[Int.toNat_natCast]at this;exact this) fun s o out hsn ht h1 hh=>h.rd.got (acM hsn) ht h1 hh v
theorem anw (n:Nat) (hK:Calls Tryz.prog 124 #[.pointer (some ⟨q,0,none⟩), .int .u64 (n:Int), .int .u8 165] w fun e w'=>afA g base cap A (H.get n 165) w e w'):
 Calls Tryz.prog 61 #[.pointer (some ⟨q,0,none⟩), .int .u64 (n:Int)] w fun e w'=>afA g base cap A (H.get n 165) w e w':=by
 have HK:=hE0 hK;clear hK;go_enter Tryz.func61,Tryz.ntmps61
 go_wp2_with fail
 refine HK.out.mono ?_;rintro e w2 ⟨rfl,ht⟩;have HT:=hE0 ht;clear ht HK;go_wp2
 go_ret2
 exact⟨rfl,HT.out⟩
theorem alp (h:PH w q g base cap A c bs H) (n:Nat) (hn:n<18446744073709551616):
 Calls Tryz.prog 61 #[.pointer (some ⟨q,0,none⟩), .int .u64 (n:Int)] w fun e w'=>afA g base cap A (H.get n 165) w e w':=
 anw n (ajY h n hn 165)
theorem apR (h:PH w q g base cap A c bs H) (p:Nat) (hp:p<18446744073709551616):
 Calls Tryz.prog 67 #[.pointer (some ⟨q,0,none⟩), .int .u64 (p:Int)] w fun e w'=>e= .returned (amn (H.freeP p).1)/\PTurn g base cap A (H.freeP p).2 w w':=by
 unfold Hp.freeP;have hF:=ac9 h p hp
 cases hh:H.handleB p with
 | none=>
  rw[hh]at hF;dsimp only[bkV,aat,Option.map,Option.isSome]at hF;have HF:=hE0 hF;have H0:=hE0 h;clear h hF hh;go_enter Tryz.func67,Tryz.ntmps67
  go_wp2_with fail
  refine HF.out.mono ?_;rintro e w2 ⟨rfl,hb⟩;have HT:=hE0 (H0.out.stay (hb.alloc hb.size (.cells #[.int .i64 0, .int .i64 0, .bool false] 112)));clear hb HF H0;go_wp2
  go_ret
  exact⟨rfl,HT.out⟩
 | some i=>
  obtain⟨xo,xs,hbk,hpx,h184,h32,hle,hi,hat,hd,h16,hu⟩:=h.blk hh;rw[hh]at hF;dsimp only[Option.map]at hF;rw[hbk]at hF;dsimp only[bkV,Bk.val,aat,Option.isSome]at hF;have hg:H.giveO (xo:Int)=some (H.give i):=by unfold Hp.giveO;rw[hu];rfl
  have hl:=h.len;have hK:∀w1,Below w.heap.size w w1->Calls Tryz.prog 127 #[.pointer (some ⟨g,0,none⟩), .int .i64 (xo:Int)] w1 fun e w'=>acS 3 g base cap A bs H (some (H.give i)) w1 e w':=fun w1 hb=>by
   have:=auf w1 g base cap c A bs H (xo:Int) (h.ar.below hb) h.b62 h.c16 h.cp h.rd.rt ⟨by omega,by omega⟩;rw[hg]at this;exact this
  dsimp only[acS,aat]at hK;have HFR:=hE0 (fun out h' hh=>h.rd.freed (i:=i) (out:=out) hi h' hh);have HK:=hE0 hK;have HF:=hE0 hF;have H0:=hE0 h;clear h hF hh hK hbk hpx hat hd hu hi hg;go_enter Tryz.func67,Tryz.ntmps67
  go_wp2_with fail
  refine HF.out.mono ?_;rintro e w2 ⟨rfl,hb⟩;obtain⟨w3,hw3⟩:=nmE (w2.alloc (.cells #[.int .i64 (xo:Int), .int .i64 (xs:Int), .bool true] 112));obtain⟨wd,hwd⟩:=nmE w3.drew;have n3:wd.heap[w2.heap.size]?=some (.cells #[.int .i64 (xo:Int), .int .i64 (xs:Int), .bool true] 112 (0,0)):=by rw[<-hwd,<-hw3];exact heap_alloc_new w2 _
  have hbd:Below w.heap.size w wd:=by rw[<-hwd,<-hw3];exact(hb.alloc hb.size _).drew
  have k0:=(H0.out.below hbd).c0;have hlq:=(H0.out.below hbd).lt;obtain⟨⟨d0,d1,d2⟩,_⟩:=aad n3;have hlt3:=aaa n3;have HK3:=hE0 (HK.out wd hbd);have HBD:=hE0 hbd;have HW3:=hE0 hw3;have HWD:=hE0 hwd;clear hb HF hw3 n3 hwd hbd HK;go_wp2_with (first | (rw[HW3.out]) | fail)
  refine aaq wd.heap.size [] [0,1,2,3,4,5] [6,7] (by kernel_rfl) (by kernel_rfl) (by kernel_rfl) (fun _ _ _ _ _ h=>h) ?_;rw[HWD.out];have q0:=tfE k0 hlq;have q1:=tfE d0 hlt3;refine aaN (l:= ?la2) (t:= ?tl2) ?hla2 ?htl2 ?_
  case hla2=>simp only[pick,lE1,lE2,lE3];rfl
  case htl2=>simp only[pick,lE1,lE2,lE3];rfl
  repeat (go_big_quiet_step (fail))
  refine wpQuiet_nil ?_;clear q0 q1 k0 d0 d1 d2;go_wp2_with fail
  refine HK3.out.mono ?_;rintro e w4 ⟨rfl,out,hbe,hr,hh⟩;have HT:Hid (PTurn g base cap A (H.give i) w w4):=⟨out,hbe.after HBD.out,HFR.out out hr hh⟩;clear hbe hr hh HK3 HFR;go_wp2
  go_ret
  exact⟨rfl,HT.out⟩
end
section
theorem alq (a:Nat) (ha:a<18446744073709551616):bits .and .u64 (a:Int) 4294967295=((a%4294967296:Nat):Int):=by
 have h:=bits_and_u64_nat a 4294967295 ha (by omega);rw[show a&&&4294967295=a%4294967296 from Nat.and_two_pow_sub_one_eq_mod a 32]at h;exact h
theorem ati (a:Nat):(a:Int)/4294967296=((a/4294967296:Nat):Int):=by omega
theorem atj (a b:Nat):(a:Int)*(b:Int)=((a*b:Nat):Int):=(Int.natCast_mul a b).symm
theorem atk (a b:Nat):(a:Int)+(b:Int)=((a+b:Nat):Int):=(Int.natCast_add a b).symm
theorem afu (a:Nat) (ha:a<18446744073709551616):IntKind.u64.wrap (a:Int)=(a:Int):=by rw[IntKind.wrap_u64];omega
theorem atl (a:Nat):IntKind.u64.wrap (a:Int)=((a%18446744073709551616:Nat):Int):=by rw[IntKind.wrap_u64];omega
theorem apS (w:World) (x y:Nat) (hx:x<18446744073709551616) (hy:y<18446744073709551616):
 Calls Tryz.prog 126 #[.int .u64 (x:Int), .int .u64 (y:Int)] w fun e w'=>e= .returned (.tuple #[.int .u64 ((x*y/18446744073709551616:Nat):Int), .int .u64 ((x*y%18446744073709551616:Nat):Int)])/\w=w':=by
 obtain⟨bd,bt,bw,hhi⟩:=Lib.mul64_hi x y hx hy;have ba:=Lib.half_mul_le (a:=x/4294967296) (b:=y/4294967296) (by omega) (by omega);have bb:=Lib.half_mul_le (a:=x/4294967296) (b:=y%4294967296) (by omega) (by omega);have bc:=Lib.half_mul_le (a:=x%4294967296) (b:=y/4294967296) (by omega) (by omega);have ba':x/4294967296*(y/4294967296)<18446744073709551616:=by omega
 have bb':x/4294967296*(y%4294967296)<18446744073709551616:=by omega
 have bc':x%4294967296*(y/4294967296)<18446744073709551616:=by omega
 have bh1:x/4294967296*(y/4294967296)+(x/4294967296*(y%4294967296)+x%4294967296*(y%4294967296)/4294967296)/4294967296<18446744073709551616:=by omega
 have bh:x/4294967296*(y/4294967296)+(x/4294967296*(y%4294967296)+x%4294967296*(y%4294967296)/4294967296)/4294967296+((x/4294967296*(y%4294967296)+x%4294967296*(y%4294967296)/4294967296)%4294967296+x%4294967296*(y/4294967296))/4294967296<18446744073709551616:=by omega
 go_enter Tryz.func126,Tryz.ntmps126
 go_wp2
 simp only[alq x hx,alq y hy,ati,atj,atk,afu _ bd,afu _ bb',afu _ bt,alq _ bt,afu _ bc',afu _ bw,afu _ ba',afu _ bh1,afu _ bh,atl (x*y)];rw[hhi];go_ret2
 exact⟨rfl,rfl⟩
end
section
variable {w w':World} {q g base cap c:Nat} {A:Option Addr} {bs out:List UInt8} {H H':Hp}
theorem ajZ (h:PH w q g base cap A c bs H) (n m:Nat) (hn:n<18446744073709551616) (hm:m<18446744073709551616):
 Calls Tryz.prog 66 #[.pointer (some ⟨q,0,none⟩), .int .u64 (n:Int), .int .u64 (m:Int)] w fun e w'=>afA g base cap A (H.calloc n m) w e w':=by
 have hM:=apS w n m hn hm;obtain⟨k,hk⟩:=nmE (n*m);obtain⟨z,hz⟩:=nmE (k/18446744073709551616);obtain⟨l,hl⟩:=nmE (k%18446744073709551616);rw[hk,hz,hl]at hM;have HM:=hE0 hM;by_cases hbig:18446744073709551615<k
 · have e:H.calloc n m=((0,5),H):=by unfold Hp.calloc;rw[hk,if_pos hbig]
   have hz0:z≠0:=by omega
   have g1:((z:Int) !=0)=true:=by rw[bne_iff_ne];omega
   have HE:=hE0 e;have HT:=hE0 (h.stay (Below.refl _ _));clear h hM hk hz hl e;go_enter Tryz.func66,Tryz.ntmps66
   go_wp2_with fail
   refine HM.out.mono ?_;rintro e w2 ⟨rfl,rfl⟩;go_wp2
   go_ret2
   rw[HE.out];exact⟨rfl,HT.out⟩
 · have e:H.calloc n m=H.get k 0:=by unfold Hp.calloc;rw[hk,if_neg hbig]
   obtain rfl:z=0:=by omega
   obtain rfl:l=k:=by omega
   have HE:=hE0 e;have HK:Hid (Calls Tryz.prog 124 #[.pointer (some ⟨q,0,none⟩), .int .u64 (l:Int), .int .u8 0] w fun e w'=>afA g base cap A (H.get l 0) w e w'):=ajY h l (by omega) 0;clear h hM hk hz hl e;go_enter Tryz.func66,Tryz.ntmps66
   go_wp2_with fail
   refine HM.out.mono ?_;rintro e w2 ⟨rfl,rfl⟩;go_wp2_with fail
   refine HK.out.mono ?_;rintro e w2 ⟨rfl,ht⟩;have HT:=hE0 ht;clear ht HK HM;go_wp2
   go_ret2
   rw[HE.out];exact⟨rfl,HT.out⟩
def Hp.usableP (H:Hp) (p:Nat):Nat × Int:=match H.handleB p with
 | none=>(0,4)
 | some i=>((H.ds.getD i aco).2.length,0)
theorem aj0 (h:PH w q g base cap A c bs H) (p:Nat) (hp:p<18446744073709551616):
 Calls Tryz.prog 62 #[.pointer (some ⟨q,0,none⟩), .int .u64 (p:Int)] w fun e w'=>e= .returned (.tuple #[.int .u64 ((H.usableP p).1:Int),amn (H.usableP p).2])/\Below w.heap.size w w':=by
 unfold Hp.usableP;have hF:=ac9 h p hp
 cases hh:H.handleB p with
 | none=>
  rw[hh]at hF;dsimp only[bkV,aat,Option.map,Option.isSome]at hF;have HF:=hE0 hF;clear h hF hh;go_enter Tryz.func62,Tryz.ntmps62
  go_wp2_with fail
  refine HF.out.mono ?_;rintro e w2 ⟨rfl,hb⟩;have HT:=hE0 (hb.alloc hb.size (.cells #[.int .i64 0, .int .i64 0, .bool false] 112));clear hb HF;go_wp2
  go_ret2
  exact⟨rfl,HT.out⟩
 | some i=>
  obtain⟨xo,xs,hbk,hpx,h184,h32,hle,hi,hat,hd,h16,hu⟩:=h.blk hh;rw[hh]at hF;dsimp only[Option.map]at hF;rw[hbk]at hF;dsimp only[bkV,Bk.val,aat,Option.isSome]at hF ⊢;have HUS:=hE0 (fun W=>abI W (xo:Int) xs true (by omega) h16);obtain⟨L,hL⟩:=nmE ((H.ds.getD i aco).2.length);rw[hL]at hd ⊢;have eL:xs-16=L:=by omega
  rw[eL]at HUS;have hL14:L<=16384:=by omega
  have HF:=hE0 hF;clear h hF hh hbk hpx hat hd hu hi hL eL;go_enter Tryz.func62,Tryz.ntmps62
  go_wp2_with fail
  refine HF.out.mono ?_;rintro e w2 ⟨rfl,hb⟩;obtain⟨w3,hw3⟩:=nmE (w2.alloc (.cells #[.int .i64 (xo:Int), .int .i64 (xs:Int), .bool true] 112));have n3:=anE hw3;have HB3:Hid (Below w.heap.size w w3):=(show Below _ _ _ by rw[<-hw3];exact hb.alloc hb.size _);obtain⟨⟨d0,d1,d2⟩,_⟩:=aad n3;have hlt3:=aaa n3;have HW3:=hE0 hw3;clear hb HF hw3 n3;go_wp2_with (first | (rw[HW3.out]) | fail)
  refine(HUS.out w3).mono ?_;rintro e w4 ⟨rfl,hb4⟩;have HB4:=hE0 (HB3.out.trans (hb4.mono HB3.out.size));clear hb4 d0 d1 d2 HB3;go_wp2
  go_ret2
  exact⟨rfl,HB4.out⟩
end
section
variable {w:World}
theorem agC (w:World):Calls Tryz.prog 71 #[.nilIface] w fun e w'=>e= .returned (.int .i64 0)/\Below w.heap.size w w':=by
 have HA:=hE0 (fun t W=>aui t W);go_enter Tryz.func71,Tryz.ntmps71
 go_wp2_with fail
 refine(HA.out _ _).mono ?_;rintro e w2 ⟨rfl,rfl⟩;go_wp2
 go_ret
 exact⟨rfl,(Below.refl _ _).alloc (Nat.le_refl _) _⟩
theorem ET.lt (h:ET w):0<w.heap.size:=by
 unfold ET at h;rcases Nat.eq_zero_or_pos w.heap.size with h0 | h1
 · simp[World.cell?,h0]at h
 · exact h1
theorem ET.keep{w':World}(h:ET w) (hb:w'.heap[0]?=w.heap[0]?):ET w':=(World.cell?_of_block (a:=⟨0,0,none⟩) hb).trans h
theorem ET.below{w':World}(h:ET w) (hb:Below w.heap.size w w'):ET w':=h.keep (hb.block 0 h.lt)
theorem agD (h:ET w) (k:Int):Calls Tryz.prog 71 #[.iface 130 (.int .i64 k)] w fun e w'=>e= .returned (.int .i64 k)/\Below w.heap.size w w':=by
 obtain⟨w1,hw1⟩:=nmE (w.alloc (.cells #[.int .i64 0] 130));have hb1:=abE hw1;have n1:=anE hw1;have c1:w1.cell? ⟨w.heap.size,0,none⟩=some (.int .i64 0):=by rw[cell_of_row w1 w.heap.size 0 _ _ (0,0) n1];rfl
 have f1:=frozen_of_row w1 w.heap.size 0 _ _ n1;have HA:=hE0 (aul k ⟨w.heap.size,0,none⟩ (.int .i64 0) w1 (h.below hb1) c1 f1);have HN1:=hE0 n1;have HW1:=hE0 hw1;have HB1:=hE0 hb1;clear h hb1 n1 c1 f1 hw1;go_enter Tryz.func71,Tryz.ntmps71
 go_wp2_with (first | (rw[HW1.out]) | fail)
 refine HA.out.mono ?_;rintro e w2 ⟨rfl,hw2⟩;have hs1:=HB1.out.size;have hlt1:=aae HN1.out;obtain⟨wa,hwa⟩:=nmE (((((w1.alloc (.cells #[.pointer (some ⟨w.heap.size,0,none⟩)] 217)).alloc (.cells #[.pointer (some ⟨1,217,none⟩), .pointer (some ⟨w1.heap.size,0,none⟩), .int .u64 150] 267)).alloc (.cells #[.pointer (some ⟨1,217,none⟩), .pointer (some ⟨w1.heap.size,0,none⟩), .int .u64 150] 267)).alloc (.cells #[.int .i64 k] 130)));have hba:Below w1.heap.size w1 wa:=by
  rw[<-hwa];have b1:=(Below.refl w1.heap.size w1).alloc (Nat.le_refl _) (.cells #[.pointer (some ⟨w.heap.size,0,none⟩)] 217);have b2:=b1.alloc b1.size (.cells #[.pointer (some ⟨1,217,none⟩), .pointer (some ⟨w1.heap.size,0,none⟩), .int .u64 150] 267);have b3:=b2.alloc b2.size (.cells #[.pointer (some ⟨1,217,none⟩), .pointer (some ⟨w1.heap.size,0,none⟩), .int .u64 150] 267);exact b3.alloc b3.size _
 rw[hwa]at hw2;have na:=(hba.block _ hlt1).trans HN1.out;have n2:w2.heap[w.heap.size]?=some (.cells #[.int .i64 k] 130 (0,0)):=by rw[hw2,heap_setCell_same wa w.heap.size 0 _ _ (.int .i64 k) na];rfl
 have c2:w2.cell? ⟨w.heap.size,0,none⟩=some (.int .i64 k):=by rw[cell_of_row w2 w.heap.size 0 _ _ (0,0) n2];rfl
 have HB2:Hid (Below w.heap.size w w2):=(show Below _ _ _ by rw[hw2];exact(HB1.out.trans (hba.mono hs1)).setCell (Nat.le_refl _) _);have hlt2:=aae n2;clear hw2 hwa hba na n2 hs1 hlt1 HA HN1 HW1 HB1;go_wp2
 go_ret
 exact⟨rfl,HB2.out⟩
theorem abJ (h:ET w) (k:Int):Calls Tryz.prog 71 #[amn k] w fun e w'=>e= .returned (.int .i64 k)/\Below w.heap.size w w':=by
 unfold amn;split
 · rename_i h0;subst h0;exact agC w
 · exact agD h k
end
section
variable {w w':World} {q g base cap c:Nat} {A:Option Addr} {bs out:List UInt8} {H H':Hp}
theorem Hp.Ok.one_ (h:H.Ok):H.One:=fun a b x y ha hb e=>by
 have hpw:=List.pairwise_iff_getElem.1 (adi _ _ _ h.tl);have e1:H.blks[a]'(aaG ha)=x:=by have:=List.getElem?_eq_getElem (aaG ha);rw[ha]at this;exact(Option.some.inj this).symm
 have e2:H.blks[b]'(aaG hb)=y:=by have:=List.getElem?_eq_getElem (aaG hb);rw[hb]at this;exact(Option.some.inj this).symm
 rcases Nat.lt_trichotomy a b with h' | h' | h'
 · exact absurd (by rw[e1,e2];exact e) (hpw a b (aaG ha) (aaG hb) h')
 · exact h'
 · exact absurd (by rw[e1,e2];exact e.symm) (hpw b a (aaG hb) (aaG ha) h')
def apT (out:List UInt8) (o s f:Nat) (v:UInt8):List UInt8:=if f<s-16 then lay out (o+8+f) (List.replicate (s-16-f) v) else out
theorem RtD.rezFill (h:RtD bs H) (hc:H.cap<=16384){s xo xs i0:Nat}(hs:aaD (s:Int)=true) (hat:H.At i0 ⟨xo,xs,true⟩ (H.ds.getD i0 aco)) (he:(H.resize (xo:Int) s).1.2=0) (h1:Rt out (H.resize (xo:Int) s).2) (hh:Held H bs (H.resize (xo:Int) s).2 out) (hm:aiv H bs (xo:Int) (H.resize (xo:Int) s).2 out (H.resize (xo:Int) s).1.1) (v:UInt8):
 ∃i y,atB ((H.resize (xo:Int) s).1.1:Int) (H.resize (xo:Int) s).2.blks=some i/\(H.resize (xo:Int) s).2.blks[i]?=some y/\y.off=(H.resize (xo:Int) s).1.1/\s<=y.size/\y.off+y.size<=out.length/\RtD (apT out y.off y.size (xs-16) v) ((H.resize (xo:Int) s).2.fill i v):=by
 have hok:=h.rt.ok hc h.dl;obtain⟨i,y,j,x0,d,e1,e2,e3,e4,e5,e6,e7,e8,e9,e10,e11,e12⟩:=h.resized hok (hok.take hc hs).one_ hs he h1 hh hm v;obtain rfl:j=i0:=h.rt.one _ _ _ _ e7.1 hat.1 (by dsimp only;omega);obtain rfl:x0=⟨xo,xs,true⟩:=Option.some.inj (e7.1.symm.trans hat.1);dsimp only at e10;have ss:=(aac _).1 hs;refine⟨i,y,e1,e2,e3,e5,e6,?_⟩;unfold apT;split
 · rename_i hf;have hll:(List.replicate (y.size-16-(xs-16)) v).length=y.size-16-(xs-16):=List.length_replicate;refine e12 _ (adV (x:=y) _ _ (by omega) (by omega) (by omega)) (fun k hk=> ?_);rw[amd _ _ _ _ hk];by_cases hkd:k<d.2.length
   · rw[ak1 out _ _ (by omega) _ (by omega),e11 k hkd (by omega),List.getElem?_eq_getElem hkd,List.getD_eq_getElem?_getD,List.getElem?_eq_getElem hkd];rfl
   · have e:=ahz out (y.off+8+(xs-16)) (List.replicate (y.size-16-(xs-16)) v) (by omega) (k-(xs-16)) (by omega);rw[show y.off+8+(xs-16)+(k-(xs-16))=y.off+8+k by omega]at e;rw[e,List.getElem?_replicate,if_pos (by omega),List.getD_eq_getElem?_getD,List.getElem?_eq_none (by omega)];rfl
 · rename_i hf;refine e12 _ (ani _ _) (fun k hk=> ?_);rw[amd _ _ _ _ hk,e11 k (by omega) (by omega),List.getD_eq_getElem?_getD,List.getElem?_eq_getElem (show k<d.2.length by omega)];rfl
theorem aj1{p n:Nat}(hh:H.handleB p=none):H.realloc p n=((0,4),H):=by unfold Hp.realloc;rw[hh]
theorem aj2{p n i:Nat}(hh:H.handleB p=some i) (hs:abW n=none):H.realloc p n=((0,5),H):=by unfold Hp.realloc;rw[hh];dsimp only;rw[hs]
theorem alr{p n i s:Nat}(hh:H.handleB p=some i) (hs:abW n=some s) (he:(H.resize ((p:Int)-8) s).1.2≠0):H.realloc p n=((0,(H.resize ((p:Int)-8) s).1.2),H):=by
 unfold Hp.realloc;rw[hh];dsimp only;rw[hs];dsimp only;rw[if_neg he,(agt H _ s he).2.1]
theorem anx{p n i j s:Nat}(hh:H.handleB p=some i) (hs:abW n=some s) (he:(H.resize ((p:Int)-8) s).1.2=0) (hj:atB ((H.resize ((p:Int)-8) s).1.1:Int) (H.resize ((p:Int)-8) s).2.blks=some j):H.realloc p n=(((H.resize ((p:Int)-8) s).1.1+8,0),(H.resize ((p:Int)-8) s).2.fill j 165):=by
 unfold Hp.realloc;rw[hh];dsimp only;rw[hs];dsimp only;rw[if_pos he,hj]
theorem apU (ho:w.heap[q]?=some (.cells #[.pointer (some ⟨g,0,none⟩)] 132 (0,0))) (ha:Ar w 195 g base cap A c bs) (hbase:base<=4611686018427387904) (hl:bs.length<=16384) (o s f p:Nat) (v:UInt8){u:Bool}(hg:aa2 bs (o:Int)=some ⟨o,s,u⟩) (hs:16<=s) (hos:o+s<=bs.length) (hp:o+8=p):
 Calls Tryz.prog 130 #[.pointer (some ⟨q,0,none⟩), .int .i64 (o:Int), .int .u64 (f:Int), .int .u8 (v.toNat:Int)] w fun e w'=>e= .returned (.int .u64 (p:Int))/\Became 195 g base cap A (apT bs o s f v) w w':=by
 unfold apT;by_cases hf:f<s-16
 · rw[if_pos hf,hp];exact ajX ho ha hbase hl o s f p v hg hs hos hf hp
 · rw[if_neg hf];refine(arG ho ha hbase hl o s f p v hg hs hos (by omega) hp).mono ?_;rintro e w2 ⟨rfl,hb⟩;exact⟨rfl,abn ha hb⟩
theorem aiH (h:PH w q g base cap A c bs H) (p n:Nat) (hp:p<18446744073709551616) (hn:n<18446744073709551616):
 Calls Tryz.prog 68 #[.pointer (some ⟨q,0,none⟩), .int .u64 (p:Int), .int .u64 (n:Int)] w fun e w'=>afA g base cap A (H.realloc p n) w e w':=by
 have hF:=ac9 h p hp;have HND:=hE0 (fun W=>atQ W n hn)
 cases hh:H.handleB p with
 | none=>
  rw[hh]at hF;dsimp only[bkV,aat,Option.map,Option.isSome]at hF;have HF:=hE0 hF;have HE:=hE0 (aj1 (n:=n) hh);have H0:=hE0 h;clear h hF hh HND;go_enter Tryz.func68,Tryz.ntmps68
  go_wp2_with fail
  refine HF.out.mono ?_;rintro e w2 ⟨rfl,hb⟩;have HT:=hE0 (H0.out.stay (hb.alloc hb.size (.cells #[.int .i64 0, .int .i64 0, .bool false] 112)));clear hb HF H0;go_wp2
  go_ret2
  rw[HE.out];exact⟨rfl,HT.out⟩
 | some i=>
  obtain⟨xo,xs,hbk,hpx,h184,h32,hle,hi,hat,hd,h16,hu⟩:=h.blk hh;have hl:=h.len;rw[hh]at hF;dsimp only[Option.map]at hF;rw[hbk]at hF;dsimp only[bkV,Bk.val,aat,Option.isSome]at hF;have HF:=hE0 hF
  cases hs:abW n with
  | none=>
   have HE:=hE0 (aj2 hh hs);rw[hs]at HND;dsimp only[amK]at HND;have H0:=hE0 h;clear h hF hh hbk hpx hat hd hu hi hs;go_enter Tryz.func68,Tryz.ntmps68
   go_wp2_with fail
   refine HF.out.mono ?_;rintro e w2 ⟨rfl,hb⟩;obtain⟨w3,hw3⟩:=nmE (w2.alloc (.cells #[.int .i64 (xo:Int), .int .i64 (xs:Int), .bool true] 112));have HB3:Hid (Below w.heap.size w w3):=(show Below _ _ _ by rw[<-hw3];exact hb.alloc hb.size _);have HW3:=hE0 hw3;clear hb HF hw3;go_wp2_with (first | (rw[HW3.out]) | fail)
   refine(HND.out w3).mono ?_;rintro e w4 ⟨rfl,hb4⟩;have HT:=hE0 (H0.out.stay (HB3.out.trans (hb4.mono HB3.out.size)));clear hb4 HB3 H0 HND;go_wp2
   go_ret2
   rw[HE.out];exact⟨rfl,HT.out⟩
  | some s=>
   have hsz:=acM hs;have hss:=(aac _).1 hsz;rw[hs]at HND;dsimp only[amK]at HND;have hp8:(p:Int)-8=(xo:Int):=by omega
   have hK:∀w1,Below w.heap.size w w1->Calls Tryz.prog 129 #[.pointer (some ⟨g,0,none⟩), .int .i64 (xo:Int), .int .i64 (s:Int)] w1 fun e w'=>RezTold g base cap A bs H (xo:Int) (H.resize (xo:Int) s) w1 e w':=fun w1 hb=>by
    have:=(ath w1 g base cap c A bs H (xo:Int) (s:Int) (h.ar.below hb) h.b62 h.c16 h.cp h.rd.rt ⟨by omega,by omega⟩ ⟨by omega,by omega⟩).2 hsz;rw[Int.toNat_natCast]at this;exact this
   by_cases herr:(H.resize (xo:Int) s).1.2=0
   · have hRF:=fun out h1 hh2 hm=>h.rd.rezFill (out:=out) (by rw[h.cp];exact h.c16) hsz hat herr h1 hh2 hm 165;have hRO:=fun j hj=>anx (j:=j) hh hs (by rw[hp8];exact herr) (by rw[hp8];exact hj);rw[hp8]at hRO;have hcap2:(H.resize (xo:Int) s).2.cap=cap:=resize_cap.trans h.cp;have hK2:∀w1,Below w.heap.size w w1->Calls Tryz.prog 129 #[.pointer (some ⟨g,0,none⟩), .int .i64 (xo:Int), .int .i64 (s:Int)] w1 fun e w'=>e= .returned (.tuple #[.int .i64 ((H.resize (xo:Int) s).1.1:Int), .nilIface])/\∃out,Became 195 g base cap A out w1 w'/\Rt out (H.resize (xo:Int) s).2/\Held H bs (H.resize (xo:Int) s).2 out/\aiv H bs (xo:Int) (H.resize (xo:Int) s).2 out (H.resize (xo:Int) s).1.1:=fun w1 hb=>(hK w1 hb).mono fun e w2 hr=>hr.1 herr;obtain⟨r,hr⟩:=nmE (H.resize (xo:Int) s);rw[hr]at hRF hRO hK2 hcap2;obtain⟨⟨ro,re⟩,H2⟩:=r;dsimp only at hRF hRO hK2 hcap2;have HRF:=hE0 hRF;have HRO:=hE0 hRO;have HC2:=hE0 hcap2;have HK:=hE0 hK2;have H0:=hE0 h;have HUS:=hE0 (fun W=>abI W (xo:Int) xs true (by omega) h16);obtain⟨f,hf⟩:=nmE (xs-16);rw[hf]at HUS HRF;have hf14:f<=16384:=by omega
     clear h hF hh hbk hpx hat hd hu hi hs hRF hRO hcap2 hK hK2 herr hr hp8 hsz hf;go_enter Tryz.func68,Tryz.ntmps68
     go_wp2_with fail
     refine HF.out.mono ?_;rintro e w2 ⟨rfl,hb⟩;obtain⟨w3,hw3⟩:=nmE (w2.alloc (.cells #[.int .i64 (xo:Int), .int .i64 (xs:Int), .bool true] 112));have n3:=anE hw3;have HB3:Hid (Below w.heap.size w w3):=(show Below _ _ _ by rw[<-hw3];exact hb.alloc hb.size _);have HW3:=hE0 hw3;have HN3:=hE0 n3;clear hb HF hw3 n3;go_wp2_with (first | (rw[HW3.out]) | fail)
     refine(HND.out w3).mono ?_;rintro e w4 ⟨rfl,hb4⟩;have hb4':=HB3.out.trans (hb4.mono HB3.out.size);obtain⟨wd,hwd⟩:=nmE w4.drew;have hbd:Below w.heap.size w wd:=by rw[<-hwd];exact hb4'.drew
     have n4:wd.heap[w2.heap.size]?=some (.cells #[.int .i64 (xo:Int), .int .i64 (xs:Int), .bool true] 112 (0,0)):=by rw[<-hwd];exact Loc.below hb4 _ _ HN3.out
     have hp4:=H0.out.below hbd;have k0:=hp4.c0;have hlq:=hp4.lt;have hnq:=hp4.ap;have hnb:=aiz hp4.ar n4;obtain⟨⟨d0,d1,d2⟩,_⟩:=aad n4;have hlt4:=aaa n4;have HK4:=hE0 (HK.out wd hbd);have HBD:=hE0 hbd;have HWD:=hE0 hwd;have HN4:=hE0 n4;have HP4:=hE0 hp4;have HNB:=hE0 hnb;have HNQ:=hE0 hnq;clear hb4 hb4' hwd hbd hp4 HK HND HN3 HW3 HB3 n4 hnb hnq;go_wp2_with fail
     refine abf (foot g A) [([0,1,2,3,4,5,6],7)] [8,9,10,11,12] [] (by kernel_rfl) (by kernel_rfl) (by kernel_rfl) (fun _ _ _ _ _ h=>h) ?_;rw[HWD.out];have q0:∀z:LaterS (foot g A) wd,z.val.cell? ⟨q,0,none⟩=some (.pointer (some ⟨g,0,none⟩)):=fun z=>z.ext.cell k0 HNQ.out;have q1:∀z:LaterS (foot g A) wd,z.val.cell? ⟨w2.heap.size,0,none⟩=some (.int .i64 (xo:Int)):=fun z=>z.ext.cell d0 HNB.out;refine abY (l:= ?seg1) ?hseg1 ?_
     case hseg1=>simp only[pick,lE1,lE2,lE3];rfl
     repeat (go_big_quiet_step (fail))
     refine wpQuiet_nil ?_;clear q0 q1 k0 d0 d1 d2;refine acd (vs:= #[.pointer (some ⟨g,0,none⟩), .int .i64 (xo:Int), .int .i64 (s:Int)]) Tryz.call129 rfl rfl rfl (R:=fun r w'=>r= .tuple #[.int .i64 (ro:Int), .nilIface]/\∃out,Became 195 g base cap A out wd w'/\Rt out H2/\Held H bs H2 out/\aiv H bs (xo:Int) H2 out ro) (HK4.out.mono ?_) ?_
     · rintro e w' ⟨rfl,out,hB,hR⟩;have hB':=hB;obtain⟨_,_,_,ht,_⟩:=hB';exact⟨_,rfl,ht,rfl,out,hB,hR⟩
     rintro r w5 _ ⟨rfl,out,hbe,hr1,hh1,hm1⟩;obtain⟨j,y,hj,hy,hyo,hys,hyl,hrd⟩:=HRF.out out hr1 hh1 hm1;obtain⟨A5,c5,a5,t5,m5⟩:=hbe;have n5:=(t5.block _ hlt4 HNB.out).trans HN4.out;have ho5:=(t5.block q HP4.out.lt HNQ.out).trans HP4.out.obj;have hout:out.length<=16384:=(hr1.bound (by rw[HC2.out];exact H0.out.c16)).1;have hgb:=ase hr1 (by rw[HC2.out];exact H0.out.c16) (List.mem_of_getElem? hy);have HTR:=hE0 (fun w6 (hb6:Below w5.heap.size w5 w6) (b4:List UInt8) w7 (k:Became 195 g base cap A5 b4 w6 w7)=>(Became.trans a5 t5 m5 (k.after hb6)).after HBD.out);obtain⟨yo,ys,yu⟩:=y;dsimp only at hyo hys hyl hrd hgb;subst hyo;have hyo14:yo<=16384:=by omega
     obtain⟨p2,hp2⟩:=nmE (yo+8);have HFI:=hE0 (fun w6 (hb6:Below w5.heap.size w5 w6)=>apU (w:=w6) ((hb6.block q (aae ho5)).trans ho5) (a5.below hb6) H0.out.b62 hout yo ys f p2 165 hgb (by omega) (by omega) hp2);have HRD:=hE0 hrd;have hgi:=HRO.out j hj;rw[hp2]at hgi;have HGI:=hE0 hgi;obtain⟨⟨d0,d1,d2⟩,_⟩:=aad n5;have hlt5:=aaa n5;refine⟨foot g A,fun _ _ h=>h,?_⟩;refine adf (l:= ?la4) (t:= []) ?hla4 ?htl4 ?_
     case hla4=>simp only[pick,lE1,lE2,lE3];rfl
     case htl4=>rfl
     simp only[Act.put,lE4,lE5,lE6];repeat (go_big_quiet_step (fail))
     refine wpQuiet_nil ?_;clear hgi hp2 hr1 hh1 hm1 hj hy hrd hgb t5 m5 a5 n5 ho5 HRF HRO HK4 HN4 HP4;go_wp2_with fail
     refine(HUS.out w5).mono ?_;rintro e w6 ⟨rfl,hb6⟩;have HF6:Hid (Calls Tryz.prog 130 #[.pointer (some ⟨q,0,none⟩), .int .i64 (yo:Int), .int .u64 (f:Int), .int .u8 165] w6 fun e w'=>e= .returned (.int .u64 (p2:Int))/\Became 195 g base cap A5 (apT out yo ys f 165) w6 w'):=HFI.out w6 hb6;have HT6:=hE0 (HTR.out w6 hb6);clear hb6 d0 d1 d2 hlt5 HFI HTR;go_wp2_with fail
     refine HF6.out.mono ?_;rintro e w7 ⟨rfl,hb7⟩;have HT:=hE0 (HT6.out _ w7 hb7);clear hb7 HF6 HT6;go_wp2
     go_ret2
     rw[HGI.out];exact⟨rfl,_,HT.out,HRD.out⟩
   · have hRB:=alr hh hs (by rw[hp8];exact herr);rw[hp8]at hRB;have hz:=(agt H _ s herr).2.2;have hK2:∀w1,Below w.heap.size w w1->Calls Tryz.prog 129 #[.pointer (some ⟨g,0,none⟩), .int .i64 (xo:Int), .int .i64 (s:Int)] w1 fun e w'=>e= .returned (.tuple #[.int .i64 0, .iface 130 (.int .i64 (H.resize (xo:Int) s).1.2)])/\Below w1.heap.size w1 w':=fun w1 hb=>(hK w1 hb).mono fun e w2 hr=>hr.2 herr;obtain⟨ek,hek⟩:=nmE ((H.resize (xo:Int) s).1.2);rw[hek]at hRB hz hK2;have HRB:=hE0 hRB;have HK:=hE0 hK2;have H0:=hE0 h;have HEN:Hid (amn ek= .iface 130 (.int .i64 ek)):=(show amn ek=_ by rcases hz with rfl | rfl<;>rfl);clear h hF hh hbk hpx hat hd hu hi hs hK hK2 herr hek hp8 hsz hRB hz;go_enter Tryz.func68,Tryz.ntmps68
     go_wp2_with fail
     refine HF.out.mono ?_;rintro e w2 ⟨rfl,hb⟩;obtain⟨w3,hw3⟩:=nmE (w2.alloc (.cells #[.int .i64 (xo:Int), .int .i64 (xs:Int), .bool true] 112));have n3:=anE hw3;have HB3:Hid (Below w.heap.size w w3):=(show Below _ _ _ by rw[<-hw3];exact hb.alloc hb.size _);have HW3:=hE0 hw3;have HN3:=hE0 n3;clear hb HF hw3 n3;go_wp2_with (first | (rw[HW3.out]) | fail)
     refine(HND.out w3).mono ?_;rintro e w4 ⟨rfl,hb4⟩;have hb4':=HB3.out.trans (hb4.mono HB3.out.size);obtain⟨wd,hwd⟩:=nmE w4.drew;have hbd:Below w.heap.size w wd:=by rw[<-hwd];exact hb4'.drew
     have n4:wd.heap[w2.heap.size]?=some (.cells #[.int .i64 (xo:Int), .int .i64 (xs:Int), .bool true] 112 (0,0)):=by rw[<-hwd];exact Loc.below hb4 _ _ HN3.out
     have hp4:=H0.out.below hbd;have k0:=hp4.c0;have hnq:=hp4.ap;have hnb:=aiz hp4.ar n4;obtain⟨⟨d0,d1,d2⟩,_⟩:=aad n4;have HK4:=hE0 (HK.out wd hbd);have HBD:=hE0 hbd;have HWD:=hE0 hwd;have HNB:=hE0 hnb;have HNQ:=hE0 hnq;clear hb4 hb4' hwd hbd hp4 HK HND HN3 HW3 HB3 n4 hnb hnq;go_wp2_with fail
     refine abf (foot g A) [([0,1,2,3,4,5,6],7)] [8,9,10,11,12] [] (by kernel_rfl) (by kernel_rfl) (by kernel_rfl) (fun _ _ _ _ _ h=>h) ?_;rw[HWD.out];have q0:∀z:LaterS (foot g A) wd,z.val.cell? ⟨q,0,none⟩=some (.pointer (some ⟨g,0,none⟩)):=fun z=>z.ext.cell k0 HNQ.out;have q1:∀z:LaterS (foot g A) wd,z.val.cell? ⟨w2.heap.size,0,none⟩=some (.int .i64 (xo:Int)):=fun z=>z.ext.cell d0 HNB.out;refine abY (l:= ?seg2) ?hseg2 ?_
     case hseg2=>simp only[pick,lE1,lE2,lE3];rfl
     repeat (go_big_quiet_step (fail))
     refine wpQuiet_nil ?_;clear q0 q1 k0 d0 d1 d2;refine acd (vs:= #[.pointer (some ⟨g,0,none⟩), .int .i64 (xo:Int), .int .i64 (s:Int)]) Tryz.call129 rfl rfl rfl (R:=fun r w'=>r= .tuple #[.int .i64 0, .iface 130 (.int .i64 ek)]/\Below wd.heap.size wd w') (HK4.out.mono ?_) ?_
     · rintro e w' ⟨rfl,hb⟩;exact⟨_,rfl,Tch.of_below hb,rfl,hb⟩
     rintro r w5 _ ⟨rfl,hb5⟩;have HT:=hE0 (H0.out.stay (HBD.out.trans (hb5.mono HBD.out.size)));refine⟨foot g A,fun _ _ h=>h,?_⟩;refine adf (l:= ?la5) (t:= []) ?hla5 ?htl5 ?_
     case hla5=>simp only[pick,lE1,lE2,lE3];rfl
     case htl5=>rfl
     simp only[Act.put,lE4,lE5,lE6];repeat (go_big_quiet_step (fail))
     refine wpQuiet_nil ?_;clear hb5 HK4 H0;go_wp2
     go_ret2
     rw[HRB.out];exact⟨by rw[HEN.out];rfl,HT.out⟩
end
def Hp.readP (H:Hp) (p a n:Nat):List UInt8 × Int:=match H.handleB p with
 | none=>([],4)
 | some i=>if (H.ds.getD i aco).2.length<a+n then ([],2) else (((H.ds.getD i aco).2.drop a).take n,0)
def Hp.writeP (H:Hp) (p a:Nat) (b:List UInt8):Int × Hp:=match H.handleB p with
 | none=>(4,H)
 | some i=>if (H.ds.getD i aco).2.length<a+b.length then (2,H) else (0,H.dset i ((H.ds.getD i aco).1,lay (H.ds.getD i aco).2 a b))
def PBytes (r:List UInt8 × Int) (w:World) (e:Ending) (w':World):Prop:=
 ∃A' c',e= .returned (.tuple #[.slice A' r.1.length c',amn r.2])/\w'.ownsRow w.heap.size 5 1 (.slice A' r.1.length c') r.1.length (r.1.map bv)/\Below w.heap.size w w'
section
variable {w w':World} {q g base cap c:Nat} {A:Option Addr} {bs out:List UInt8} {H H':Hp}
theorem PBytes.none_{k:Int}(hb:Below w.heap.size w w'):PBytes ([],k) w (.returned (.tuple #[.slice none 0 0,amn k])) w':=⟨none,0,rfl,World.ownsRow_nil _ _ _ _,hb⟩
theorem aj3{w:World}{B B' n:Nat}{t:TypeId}{v:Value}{l:List Value}(h:w.ownsRow B t 1 v n l) (hB:B'<=B):w.ownsRow B' t 1 v n l:=
 ⟨h.1,h.2.imp id fun⟨g',cap',cur,a,b,c⟩=>⟨g',cap',cur,a,Nat.le_trans hB b,c⟩⟩
theorem PH.part (h:PH w q g base cap A c bs H){i xo xs a n:Nat}(hat:H.At i ⟨xo,xs,true⟩ (H.ds.getD i aco)) (hf:a+n<=(H.ds.getD i aco).2.length):(bs.drop (xo+8+a)).take n=((H.ds.getD i aco).2.drop a).take n:=by
 obtain⟨h1,h2⟩:=h.rd.ho i _ _ hat rfl;refine List.ext_getElem? fun k=> ?_;by_cases hk:k<n
 · rw[List.getElem?_take_of_lt hk,List.getElem?_take_of_lt hk,List.getElem?_drop,List.getElem?_drop];have:=h2 (a+k) (by omega);dsimp only at this;rw[<-this];congr 1;omega
 · rw[List.getElem?_eq_none (by rw[List.length_take];omega),List.getElem?_eq_none (by rw[List.length_take];omega)]
theorem apV (h:PH w q g base cap A c bs H) (p a n:Nat) (hp:p<18446744073709551616) (ha:a<18446744073709551616) (hn:n<18446744073709551616):
 Calls Tryz.prog 69 #[.pointer (some ⟨q,0,none⟩), .int .u64 (p:Int), .int .u64 (a:Int), .int .u64 (n:Int)] w fun e w'=>PBytes (H.readP p a n) w e w':=by
 unfold Hp.readP
 cases hh:H.handleB p with
 | none=>
  dsimp only;have HF:=hE0 (agB h p a n hp hh);clear h hh;go_enter Tryz.func69,Tryz.ntmps69
  go_wp2_with fail
  refine HF.out.mono ?_;rintro e w2 ⟨rfl,hb⟩;have HT:=hE0 hb;clear hb HF;go_wp2
  go_ret2
  exact PBytes.none_ HT.out
 | some i=>
  dsimp only;obtain⟨L,hL⟩:=nmE ((H.ds.getD i aco).2.length);by_cases hf:L<a+n
  · rw[if_pos (by omega)];have HF:=hE0 (ahI h p a n hp ha hn hh hL hf);clear h hh hL;go_enter Tryz.func69,Tryz.ntmps69
    go_wp2_with fail
    refine HF.out.mono ?_;rintro e w2 ⟨rfl,hb⟩;have HT:=hE0 hb;clear hb HF;go_wp2
    go_ret2
    exact PBytes.none_ HT.out
  · rw[if_neg (by omega)];obtain⟨xo,xs,hbk,hpx,h184,h32,hle,hi,hat,hd,h16,hu⟩:=h.blk hh;have hl:=h.len;have hpart:=h.part (a:=a) (n:=n) hat (by omega);obtain⟨x,hx⟩:=nmE (base+p+a);have HF:=hE0 (ajW h p a n hp hn hh hL (by omega) hx);have hb62:=h.b62;obtain⟨ys,hys⟩:=nmE (((H.ds.getD i aco).2.drop a).take n);have HLD:∀W,Below w.heap.size w W->Calls Tryz.prog 96 #[.pointer (some ⟨g,0,none⟩), .int .u64 (x:Int), .int .u64 (n:Int)] W fun e w'=>aqF ys W e w':=fun W hb=>by
     have:=an7 (h.ar.below hb) (by omega) x n (xo+8+a) (by omega) (by omega) (by omega) (by omega);rw[hpart,hys]at this;exact this
    rw[hys];have HLD:=hE0 HLD;have H0:=hE0 h;clear h hh hL hf hbk hpx hat hd hu hi hpart hys hx hl h184 h32 hle h16 hb62;go_enter Tryz.func69,Tryz.ntmps69
    go_wp2_with fail
    refine HF.out.mono ?_;rintro e w2 ⟨rfl,hb⟩;have k0:=(H0.out.below hb).c0;have hlq:=(H0.out.below hb).lt;have HL2:=hE0 (HLD.out w2 hb);have HB:=hE0 hb;clear hb HF H0 HLD;go_wp2_with fail
    refine HL2.out.mono ?_;rintro e w3 ⟨A',c',rfl,ho,hb3⟩;have HT:Hid (PBytes (ys,0) w (.returned (.tuple #[.slice A' ys.length c',amn 0])) w3):=⟨A',c',rfl,aj3 ho HB.out.size,HB.out.trans (hb3.mono HB.out.size)⟩;clear ho hb3 HL2 HB k0;go_wp2
    go_ret2
    exact HT.out
theorem anz (h:PH w q g base cap A c bs H) (p a:Nat) (b:List UInt8) (B:Option Addr) (k:Nat) (hr:Rd w w.heap.size B b.length b) (hp:p<18446744073709551616) (ha:a<18446744073709551616) (hbl:b.length<=1000000):
 Calls Tryz.prog 70 #[.pointer (some ⟨q,0,none⟩), .int .u64 (p:Int), .int .u64 (a:Int), .slice B b.length k] w fun e w'=>e= .returned (amn (H.writeP p a b).1)/\PTurn g base cap A (H.writeP p a b).2 w w':=by
 unfold Hp.writeP
 cases hh:H.handleB p with
 | none=>
  dsimp only;have hF:=agB h p a b.length hp hh;obtain⟨n,hn⟩:=nmE b.length;rw[hn]at hF hbl ⊢;have HF:=hE0 hF;have H0:=hE0 h;clear h hh hr hF;go_enter Tryz.func70,Tryz.ntmps70
  go_wp2_with fail
  refine HF.out.mono ?_;rintro e w2 ⟨rfl,hb⟩;have HT:=hE0 (H0.out.stay hb);clear hb HF H0;go_wp2
  go_ret
  exact⟨rfl,HT.out⟩
 | some i=>
  dsimp only;obtain⟨L,hL⟩:=nmE ((H.ds.getD i aco).2.length);by_cases hf:L<a+b.length
  · rw[if_pos (by omega)];have hF:=ahI h p a b.length hp ha (by omega) hh hL hf;obtain⟨n,hn⟩:=nmE b.length;rw[hn]at hF hbl ⊢;have HF:=hE0 hF;have H0:=hE0 h;clear h hh hr hF hL;go_enter Tryz.func70,Tryz.ntmps70
    go_wp2_with fail
    refine HF.out.mono ?_;rintro e w2 ⟨rfl,hb⟩;have HT:=hE0 (H0.out.stay hb);clear hb HF H0;go_wp2
    go_ret
    exact⟨rfl,HT.out⟩
  · rw[if_neg (by omega)];obtain⟨xo,xs,hbk,hpx,h184,h32,hle,hi,hat,hd,h16,hu⟩:=h.blk hh;have hl:=h.len;obtain⟨x,hx⟩:=nmE (base+p+a);have hF:=ajW h p a b.length hp (by omega) hh hL (by omega) hx;have hb62:=h.b62;have HWR:=hE0 (h.rd.wrote hat rfl (H.ds.getD i aco).1 a b (by omega));have HST:∀W,Below w.heap.size w W->Calls Tryz.prog 132 #[.pointer (some ⟨g,0,none⟩), .int .u64 (x:Int), .slice B b.length k] W fun e w'=>e= .returned .nilIface/\Became 195 g base cap A (lay bs (xo+8+a) b) W w':=fun W hb=>
     ahX (h.ar.below hb) (by omega) x (xo+8+a) B k b w.heap.size (hr.below hb) (by omega) (by omega) (by omega) (by omega)
    obtain⟨n,hn⟩:=nmE b.length;rw[hn]at hF hbl HST ⊢;have HST:=hE0 HST;have HF:=hE0 hF;have H0:=hE0 h;clear h hh hL hf hbk hpx hat hd hu hi hx hl h184 h32 hle h16 hb62 hr hF hn;go_enter Tryz.func70,Tryz.ntmps70
    go_wp2_with fail
    refine HF.out.mono ?_;rintro e w2 ⟨rfl,hb⟩;have k0:=(H0.out.below hb).c0;have hlq:=(H0.out.below hb).lt;have HL2:=hE0 (HST.out w2 hb);have HB:=hE0 hb;clear hb HF H0 HST;go_wp2_with fail
    refine HL2.out.mono ?_;rintro e w3 ⟨rfl,hbe⟩;have HT:Hid (PTurn g base cap A (H.dset i ((H.ds.getD i aco).1,lay (H.ds.getD i aco).2 a b)) w w3):=⟨_,hbe.after HB.out,HWR.out⟩;clear hbe HL2 HB HWR k0;go_wp2
    go_ret
    exact⟨rfl,HT.out⟩
end
def stV (s:St5):Value:= .agg #[.int .i64 (s.used:Int), .int .i64 (s.free:Int), .int .i64 (s.bytes:Int), .int .i64 (s.len:Int), .int .i64 (s.cap:Int)]
def apW (a b c d e:Nat):Array Value:= #[.int .i64 (a:Int), .int .i64 (b:Int), .int .i64 (c:Int), .int .i64 (d:Int), .int .i64 (e:Int)]
theorem anA (l:List Bk) (x:Bk):aaS (l++ [x])=if x.used=true then ((aaS l).1+1,(aaS l).2.1,(aaS l).2.2+(x.size-16)) else ((aaS l).1,(aaS l).2.1+1,(aaS l).2.2):=by
 induction l with
 | nil=>simp[aaS]
 | cons y r ih=>
  rw[List.cons_append];unfold aaS;rw[ih];by_cases hx:x.used=true<;>by_cases hy:y.used=true<;>simp[hx,hy]<;>omega
theorem amo (l:List Bk):(aaS l).1<=l.length/\(aaS l).2.1<=l.length/\(aaS l).2.2<=aa7 l:=by
 induction l with
 | nil=>simp[aaS,aa7]
 | cons y r ih=>
  unfold aaS;rw[List.length_cons];simp only[aa7];split<;>dsimp only<;>omega
theorem afv (l:List Bk) (j:Nat):aa7 (l.take j)<=aa7 l:=by
 have:=aeC (l.take j) (l.drop j);rw[List.take_append_drop]at this;omega
theorem adu{w:World}{g:Nat}{t:TypeId}{a b c d e:Value}(h:w.heap[g]?=some (.cells #[a,b,c,d,e] t (0,0))):
 (w.cell? ⟨g,0,none⟩=some a/\w.cell? ⟨g,1,none⟩=some b/\w.cell? ⟨g,2,none⟩=some c/\w.cell? ⟨g,3,none⟩=some d/\w.cell? ⟨g,4,none⟩=some e)/\
 (w.frozen? ⟨g,0,none⟩=false/\w.frozen? ⟨g,1,none⟩=false/\w.frozen? ⟨g,2,none⟩=false/\w.frozen? ⟨g,3,none⟩=false/\w.frozen? ⟨g,4,none⟩=false):=by
 refine⟨⟨?_,?_,?_,?_,?_⟩,frozen_of_row w g 0 _ _ h,frozen_of_row w g 1 _ _ h,frozen_of_row w g 2 _ _ h,frozen_of_row w g 3 _ _ h,frozen_of_row w g 4 _ _ h⟩
 · rw[cell_of_row w g 0 _ _ (0,0) h];rfl
 · rw[cell_of_row w g 1 _ _ (0,0) h];rfl
 · rw[cell_of_row w g 2 _ _ (0,0) h];rfl
 · rw[cell_of_row w g 3 _ _ (0,0) h];rfl
 · rw[cell_of_row w g 4 _ _ (0,0) h];rfl
theorem apX{w:World}{g:Nat}{t:TypeId}{a b c d e:Value}(h:w.heap[g]?=some (.cells #[a,b,c,d,e] t (0,0))) (x0 x1 x2 x3 x4:Value):
 (((((w.setCell ⟨g,0,none⟩ x0).setCell ⟨g,1,none⟩ x1).setCell ⟨g,2,none⟩ x2).setCell ⟨g,3,none⟩ x3).setCell ⟨g,4,none⟩ x4).heap[g]?=some (.cells #[x0,x1,x2,x3,x4] t (0,0)):=by
 have h1:=heap_setCell_same w g 0 _ _ x0 h;have h2:=heap_setCell_same _ g 1 _ _ x1 h1;have h3:=heap_setCell_same _ g 2 _ _ x2 h2;have h4:=heap_setCell_same _ g 3 _ _ x3 h3;have h5:=heap_setCell_same _ g 4 _ _ x4 h4;rw[h5];rfl
theorem agE (ρ:Operand->Value) (o:Oper) (ho:o.op= .alloc 48) (w:World):
 (execOp ρ o).run Tryz.prog w= .ok (.value (.pointer (some ⟨w.heap.size,0,none⟩))) (w.alloc (.cells #[.int .i64 0, .int .i64 0, .int .i64 0, .int .i64 0, .int .i64 0] 48)):=by
 unfold execOp;simp only[ho];simp[go_sem]
theorem atm{fn:Func}{R:Ending->World->Prop}{a:Act}{w:World}{p:Tmp}{g:Nat}{x0 x1 x2 x3 x4:Int}(hres:fn.results= #[.cell p 48]) (hp:a.tmps.getD p undef= .pointer (some ⟨g,0,none⟩)) (hd:a.defers= [])
 (hg:w.heap[g]?=some (.cells #[.int .i64 x0, .int .i64 x1, .int .i64 x2, .int .i64 x3, .int .i64 x4] 48 (0,0))) (hR:R (.returned (.agg #[.int .i64 x0, .int .i64 x1, .int .i64 x2, .int .i64 x3, .int .i64 x4])) w):bodyPost Tryz.prog fn R .ret a w:=by
 refine bodyPost_ret (v:= .agg #[.int .i64 x0, .int .i64 x1, .int .i64 x2, .int .i64 x3, .int .i64 x4]) ?_ hd hR;exact results_cell_row hres _ _ g _ _ _ _ hp hg rfl rfl rfl
section
variable {w w':World} {q g base cap c:Nat} {A:Option Addr} {bs out:List UInt8} {H H':Hp}
theorem abK (h:PH w q g base cap A c bs H):
 Calls Tryz.prog 52 #[.pointer (some ⟨q,0,none⟩)] w fun e w'=>e= .returned (stV H.stats)/\Below w.heap.size w w':=by
 have hl:=h.len;have hst:H.stats=⟨(aaS H.blks).1,(aaS H.blks).2.1,(aaS H.blks).2.2,bs.length,cap⟩:=by unfold Hp.stats;rw[h.rd.rt.lenE,h.cp]
 rw[hst];have hsum:184+aa7 H.blks=bs.length:=h.rd.rt.lenE;have hbd:=(h.rd.rt.bound (by rw[h.cp];exact h.c16)).2;have hwk:=h.rd.rt.walk;have hc16:=h.c16;have hb62:=h.b62;have hn512:=((h.rd.rt.ok (by rw[h.cp];exact h.c16) h.rd.dl)).n;obtain⟨l,hl0⟩:=nmE H.blks;rw[hl0]at hsum hbd hwk hn512 ⊢;obtain⟨n,hn⟩:=nmE bs.length;rw[hn]at hl hsum hbd ⊢;obtain⟨z1,hz1⟩:=nmE ((aaS l).1);obtain⟨z2,hz2⟩:=nmE ((aaS l).2.1);obtain⟨z3,hz3⟩:=nmE ((aaS l).2.2);rw[hz1,hz2,hz3];have HZ:=hE0 (show(aaS l).1=z1/\(aaS l).2.1=z2/\(aaS l).2.2=z3 from⟨hz1,hz2,hz3⟩);clear hz1 hz2 hz3;obtain⟨w1,hw1⟩:=nmE (w.alloc (.cells #[.int .i64 0, .int .i64 0, .int .i64 0, .int .i64 0, .int .i64 0] 48));obtain⟨wd,hwd⟩:=nmE w1.drew;have hbd1:Below w.heap.size w wd:=by rw[<-hwd,<-hw1];exact((Below.refl _ _).alloc (Nat.le_refl _) _).drew
 have n1:wd.heap[w.heap.size]?=some (.cells #[.int .i64 0, .int .i64 0, .int .i64 0, .int .i64 0, .int .i64 0] 48 (0,0)):=by rw[<-hwd,<-hw1];exact heap_alloc_new w _
 have h1:=h.below hbd1;have k0:=h1.c0;have hlq:=h1.lt;have hLN:=abF h1.ar;have hCP:=akr h1.ar;rw[hn]at hLN;have HLN:=hE0 hLN;have HNL:=hE0 hn;have HCP:=hE0 hCP;have HBD:=hE0 hbd;have HB1:=hE0 hbd1;have HN1:=hE0 n1;have HW1:=hE0 hw1;have HWD:=hE0 hwd;have H1:=hE0 h1;have HWK:=hE0 hwk;clear h hst hbd hw1 hwd hbd1 n1 h1 hLN hCP hn hwk hl0;go_enter Tryz.func52,Tryz.ntmps52
 go_wp2_with (first | (rw[HW1.out]) | fail)
 refine Code.wp_mono (Q:=fun ex a' w'=>ex= .normal/\∃p,wd.heap.size<=p/\Below wd.heap.size wd w'/\w'.heap[p]?=some (.cells (apW 0 0 0 n cap) 48 (0,0))/\a'={tmps:= #[.pointer (some ⟨q,0,none⟩),undef, .pointer (some ⟨w.heap.size,0,none⟩), .pointer (some ⟨p,0,none⟩),undef,undef,undef,undef, .pointer (some ⟨q,0,none⟩), .pointer (some ⟨q,0,none⟩), .pointer (some ⟨q,0,none⟩), .pointer (some ⟨g,0,none⟩), .int .i64 (n:Int), .pointer (some ⟨q,0,none⟩), .pointer (some ⟨q,0,none⟩), .pointer (some ⟨q,0,none⟩), .pointer (some ⟨g,0,none⟩), .int .i64 (cap:Int), .agg #[.int .i64 0, .int .i64 0, .int .i64 0, .int .i64 (n:Int), .int .i64 (cap:Int)],undef,undef,undef,undef,undef,undef,undef,undef,undef,undef,undef,undef,undef,undef,undef,undef,undef,undef,undef,undef,undef,undef,undef,undef,undef,undef,undef,undef,undef,undef,undef,undef,undef],defers:= []}) ?cont ?reg
 case reg=>
  refine acU wd.heap.size (.two [0,1,2,3,5,6,7,8] 4 (.two [] 9 (.one [10] 11 (.fin [])) 11 (.one [] 9 (.fin [10]))) 11 (.one [] 4 (.one [] 9 (.fin [10])))) [12] (by kernel_rfl) (by kernel_rfl) (by kernel_rfl) (fun _ _ _ _ _ h=>absurd h.1 (by nofun)) ?_;rw[HWD.out];have q0:=tfE k0 hlq;refine aev (l:= ?seg1) ?hseg1 ?_
  case hseg1=>simp only[pick,lE1,lE2,lE3];rfl
  repeat (go_big_quiet_step (fail))
  refine wpQuiet_nil ?_;clear q0 k0;refine⟨?wayA,?wayC⟩
  case wayA=>
   refine aau (vs:= #[.pointer (some ⟨g,0,none⟩)]) Tryz.call97 rfl rfl rfl (R:=fun r w'=>r= .int .i64 (n:Int)/\w'=wd) (HLN.out.mono ?_) wd.heap.size (Nat.le_refl _) ?_
   · rintro e w' ⟨rfl,rfl⟩;exact⟨_,rfl,Below.refl _ _,rfl,rfl⟩
   rintro r w2 _ ⟨rfl,rfl⟩;refine aev (l:= []) rfl (wpQuiet_nil ?_);simp only[Act.put,lE4,lE5,lE6];refine⟨?wayB,?wayD⟩
   case wayB=>
    refine aau (vs:= #[.pointer (some ⟨g,0,none⟩)]) Tryz.call57 rfl rfl rfl (R:=fun r w'=>r= .int .i64 (cap:Int)/\w'=w2) (HCP.out.mono ?_) w2.heap.size (Nat.le_refl _) ?_
    · rintro e w' ⟨rfl,rfl⟩;exact⟨_,rfl,Below.refl _ _,rfl,rfl⟩
    rintro r w3 _ ⟨rfl,rfl⟩;refine aeu (l:= ?seg2) ?hseg2 ?_
    case hseg2=>simp only[pick,lE1,lE2,lE3];rfl
    simp only[Act.put,lE4,lE5,lE6];repeat (go_big_quiet_step (fail))
    refine wpQuiet_nil ?_;refine abX (some 3) rfl rfl rfl (agE _ _ rfl w3) ((Below.refl _ _).alloc (Nat.le_refl _) _) ⟨w3.heap.size,Nat.le_refl _,?_⟩;simp only[Act.put,lE4,lE5,lE6];refine aew (l:= []) (t:= ?tl2) rfl ?htl2 (wpQuiet_nil ?_)
    case htl2=>simp only[pick,lE1,lE2,lE3];rfl
    go_wp2
    exact⟨w3.heap.size,Nat.le_refl _,(Below.refl _ _).alloc (Nat.le_refl _) _,heap_alloc_new w3 _,rfl⟩
   case wayD=>
    refine abX (some 3) rfl rfl rfl (agE _ _ rfl w2) ((Below.refl _ _).alloc (Nat.le_refl _) _) ⟨w2.heap.size,Nat.le_refl _,?_⟩;simp only[Act.put,lE4,lE5,lE6];obtain⟨w3,hw3⟩:=nmE (w2.alloc (.cells #[.int .i64 0, .int .i64 0, .int .i64 0, .int .i64 0, .int .i64 0] 48));have hb3:=abE hw3;have n3:=anE hw3;rw[hw3];have hC3:=akr (H1.out.below hb3).ar;refine aeu (l:= []) rfl (wpQuiet_nil ?_);refine aau (vs:= #[.pointer (some ⟨g,0,none⟩)]) Tryz.call57 rfl rfl rfl (R:=fun r w'=>r= .int .i64 (cap:Int)/\w'=w3) (hC3.mono ?_) w2.heap.size (Nat.le_refl _) ?_
    · rintro e w' ⟨rfl,rfl⟩;exact⟨_,rfl,Below.refl _ _,rfl,rfl⟩
    rintro r w4 _ ⟨rfl,rfl⟩;refine aew (l:= ?la3) (t:= ?tl3) ?hla3 ?htl3 ?_
    case hla3=>simp only[pick,lE1,lE2,lE3];rfl
    case htl3=>simp only[pick,lE1,lE2,lE3];rfl
    simp only[Act.put,lE4,lE5,lE6];repeat (go_big_quiet_step (fail))
    refine wpQuiet_nil ?_;obtain⟨⟨c0,c1,c2,c3,c4⟩,f0,f1,f2,f3,f4⟩:=adu n3;have hlt3:=aae n3;have HB3:=hE0 hb3;have HN3:=hE0 n3;clear hw3 hb3 n3 hC3;go_wp2
    exact⟨w2.heap.size,Nat.le_refl _,((((HB3.out.setCell (Nat.le_refl _) _).setCell (Nat.le_refl _) _).setCell (Nat.le_refl _) _).setCell (Nat.le_refl _) _).setCell (Nat.le_refl _) _,apX HN3.out _ _ _ _ _,rfl⟩
  case wayC=>
   refine abX (some 3) rfl rfl rfl (agE _ _ rfl wd) ((Below.refl _ _).alloc (Nat.le_refl _) _) ⟨wd.heap.size,Nat.le_refl _,?_⟩;simp only[Act.put,lE4,lE5,lE6];obtain⟨w3,hw3⟩:=nmE (wd.alloc (.cells #[.int .i64 0, .int .i64 0, .int .i64 0, .int .i64 0, .int .i64 0] 48));have hb3:=abE hw3;have n3:=anE hw3;rw[hw3];have hC3:=akr (H1.out.below hb3).ar;have hL3:=abF (H1.out.below hb3).ar;rw[HNL.out]at hL3;refine aeu (l:= []) rfl (wpQuiet_nil ?_);refine aau (vs:= #[.pointer (some ⟨g,0,none⟩)]) Tryz.call97 rfl rfl rfl (R:=fun r w'=>r= .int .i64 (n:Int)/\w'=w3) (hL3.mono ?_) wd.heap.size (Nat.le_refl _) ?_
   · rintro e w' ⟨rfl,rfl⟩;exact⟨_,rfl,Below.refl _ _,rfl,rfl⟩
   rintro r w4 _ ⟨rfl,rfl⟩;refine aeu (l:= []) rfl (wpQuiet_nil ?_);simp only[Act.put,lE4,lE5,lE6];refine aau (vs:= #[.pointer (some ⟨g,0,none⟩)]) Tryz.call57 rfl rfl rfl (R:=fun r w'=>r= .int .i64 (cap:Int)/\w'=w4) (hC3.mono ?_) wd.heap.size (Nat.le_refl _) ?_
   · rintro e w' ⟨rfl,rfl⟩;exact⟨_,rfl,Below.refl _ _,rfl,rfl⟩
   rintro r w5 _ ⟨rfl,rfl⟩;refine aew (l:= ?la4) (t:= ?tl4) ?hla4 ?htl4 ?_
   case hla4=>simp only[pick,lE1,lE2,lE3];rfl
   case htl4=>simp only[pick,lE1,lE2,lE3];rfl
   simp only[Act.put,lE4,lE5,lE6];repeat (go_big_quiet_step (fail))
   refine wpQuiet_nil ?_;obtain⟨⟨c0,c1,c2,c3,c4⟩,f0,f1,f2,f3,f4⟩:=adu n3;have hlt3:=aae n3;have HB3:=hE0 hb3;have HN3:=hE0 n3;clear hw3 hb3 n3 hC3 hL3;go_wp2
   exact⟨wd.heap.size,Nat.le_refl _,((((HB3.out.setCell (Nat.le_refl _) _).setCell (Nat.le_refl _) _).setCell (Nat.le_refl _) _).setCell (Nat.le_refl _) _).setCell (Nat.le_refl _) _,apX HN3.out _ _ _ _ _,rfl⟩
 case cont=>
  rintro ex a' w2 ⟨rfl,p,hp,hb2,n2,rfl⟩;have hb02:=HB1.out.trans (hb2.mono HB1.out.size);have h2:=H1.out.below hb2;have k2:=h2.c0;have hlq2:=h2.lt;have hW:=ajx w2 g base cap c A bs _ h2.ar hb62 (by rw[HNL.out];exact hl) HWK.out;dsimp only[acR,Option.isSome,Option.getD,aat]at hW;have HW:=hE0 hW;have HB2:=hE0 hb02;have HN2:=hE0 n2;have HNR:=hE0 ((hb2.block w.heap.size (aae HN1.out)).trans HN1.out);have HPW:=hE0 (show p≠w.heap.size from fun e=>by have:=aae HN1.out;omega);have HPG:=hE0 (show w.heap.size<=p from Nat.le_trans HB1.out.size hp);have hpl2:=aae n2;clear h2 hW hb02 n2 hb2 hp HB1 HN1 HLN HCP H1 HW1 HWD hlq k0;go_wp2_with fail
  refine HW.out.mono ?_;rintro e w3 ⟨A3,c3,rfl,ho3,hb3⟩;have hcl:l.length<=c3/\c3<=9223372036854775807:=by
   rcases ho3.2 with⟨h',h0⟩ | ⟨_,_,_,h',_,_,h1,h2,_⟩
   · injection h' with _ _ e;rw[h0,e];omega
   · injection h' with _ _ e;unfold maxLen at h2;omega
  have HRB:Hid (∀a,A3=some a->w2.heap.size<=a.block):=fun a e=>by subst e;exact(ho3.lt a.block rfl).1
  have HR:=hE0 (BkRd.of_own ho3);have HN3:=hE0 ((hb3.block p hpl2).trans HN2.out);have HNR3:=hE0 ((hb3.block w.heap.size (aae HNR.out)).trans HNR.out);have HB3:=hE0 (HB2.out.trans (hb3.mono HB2.out.size));have hpl3:=Nat.lt_of_lt_of_le hpl2 hb3.size;clear ho3 hb3 HW HN2 HNR HB2 k2;go_wp2
  go_loopw [29] (fun t wr=>∃j:Nat,t= .int .i64 (j:Int)/\j<=l.length/\Tch (fun k=>k=p) w3 wr/\wr.heap[p]?=some (.cells (apW (aaS (l.take j)).1 (aaS (l.take j)).2.1 (aaS (l.take j)).2.2 n cap) 48 (0,0))) (fun t _=>l.length-(intOf t).toNat)
  case atStart=>exact⟨0,rfl,Nat.zero_le _,Tch.refl _ _,by rw[List.take_zero];exact HN3.out⟩
  case round=>
   obtain⟨j,rfl,hj,ht,hr⟩:=hrel;have hle:=amo (l.take j);have hsb:=afv l j;have hlt0:(l.take j).length<=512:=by rw[List.length_take];omega
   have nR:=(ht.block w.heap.size (aae HNR3.out) (Ne.symm HPW.out)).trans HNR3.out;have hfin:Below w.heap.size w wr:=HB3.out.trans (ht.below (fun k hk=>by rw[hk];exact HPG.out) HB3.out.size);by_cases hlt:j<l.length
   · obtain⟨x,hx⟩:∃x,l[j]?=some x:=⟨l[j],List.getElem?_eq_getElem hlt⟩;have htk:l.take (j+1)=l.take j++ [x]:=by
      rw[List.take_add_one,hx];rfl
     have hsn:=anA (l.take j) x;rw[<-htk]at hsn;have hsz:=HBD.out x (List.mem_of_getElem? hx);have hle2:=amo (l.take (j+1));have hsb2:=afv l (j+1);obtain⟨b2,q2,rfl,hbb,hcl2⟩:=HR.out (by omega);have hb2p:¬(fun k=>k=p) b2:=fun e=>by
      have e:b2=p:=e;have:=HRB.out _ rfl;dsimp only at this;omega
     obtain⟨p0,p1,p2⟩:=hcl2 j x hx;have r0:=ht.cell p0 hb2p;have r1:=ht.cell p1 hb2p;have r2:=ht.cell p2 hb2p;obtain⟨xo,xs,xu⟩:=x;dsimp only at p0 p1 p2 r0 r1 r2 hsz hsn;obtain⟨s1,hs1⟩:=nmE ((aaS (l.take j)).1);obtain⟨s2,hs2⟩:=nmE ((aaS (l.take j)).2.1);obtain⟨s3,hs3⟩:=nmE ((aaS (l.take j)).2.2);rw[hs1,hs2,hs3]at hr hle hsn;have hS:Hid (s1<=512/\s2<=512/\s3<=16384):=(show _ from⟨by omega,by omega,by omega⟩);obtain⟨hs1',hs2',hs3'⟩:=hS.out;obtain⟨w4,hw4⟩:=nmE (wr.alloc (.cells #[.int .i64 (xo:Int), .int .i64 (xs:Int), .bool xu] 112));have hb4:=abE hw4;have n4:=anE hw4;have r4:=(hb4.block p (aae hr)).trans hr;have T4:=hE0 (ht.trans (Tch.of_below (S:=fun k=>k=p) hb4) (fun _ _ h=>h));obtain⟨⟨d0,d1,d2⟩,_⟩:=aad n4;have hlt4:=aaa n4;have hltp:=aaa r4;obtain⟨⟨v0,v1,v2,v3,v4⟩,f0,f1,f2,f3,f4⟩:=adu r4;have HW4:=hE0 hw4;have HR4:=hE0 r4;have HN4:=hE0 n4;have HPN:=hE0 (show wr.heap.size≠p from fun e=>by have:=aae hr;omega)
     cases xu with
     | true=>
      rw[if_pos rfl]at hsn;have HUS:=hE0 (fun W=>abI W (xo:Int) xs true (by omega) (by omega));obtain⟨L,hL⟩:=nmE (xs-16);rw[hL]at HUS hsn;have hL14:L<=16384:=by omega
      obtain⟨s5,hs5⟩:=nmE (s1+1);obtain⟨s6,hs6⟩:=nmE (s3+L);have e5:(s1:Int)+1=(s5:Int):=by omega
      have e6:(s3:Int)+(L:Int)=(s6:Int):=by omega
      rw[hs5,hs6]at hsn;have HSN:=hE0 hsn;have hs5':s5<=513:=by omega
      have hs6':s6<=32768:=by omega
      obtain⟨w5,hw5⟩:=nmE (w4.setCell ⟨p,0,none⟩ (.int .i64 (s5:Int)));obtain⟨we,hwe⟩:=nmE w5.drew;have r5:we.heap[p]?=some (.cells (apW s5 s2 s3 n cap) 48 (0,0)):=by
       rw[<-hwe,<-hw5];exact heap_setCell_same w4 p 0 _ _ (.int .i64 (s5:Int)) r4
      have n5:we.heap[wr.heap.size]?=some (.cells #[.int .i64 (xo:Int), .int .i64 (xs:Int), .bool true] 112 (0,0)):=by
       rw[<-hwe,<-hw5];exact(Below.heap_setCell w4 ⟨p,0,none⟩ _ wr.heap.size HPN.out).trans n4
      have T5:Tch (fun k=>k=p) w3 we:=by
       rw[<-hwe,<-hw5];exact(T4.out.trans (Tch.set (S:=fun k=>k=p) w4 ⟨p,0,none⟩ _ rfl) (fun _ _ h=>h)).drew
      have HW5:=hE0 hw5;have HWE:=hE0 hwe;have HR5:=hE0 r5;have HT5:=hE0 T5;have hlt5:=aaa n5;have hltp5:=aaa r5;obtain⟨⟨e0,e1,e2⟩,_⟩:=aad n5;obtain⟨⟨u0,u1,u2,u3,u4⟩,_⟩:=adu r5;clear hx htk hsn hsz hcl2 p0 p1 p2 ht hr hs1 hs2 hs3 hle hsb hlt0 hle2 hsb2 nR hfin hw4 hb4 n4 r4 hL hS hw5 hwe r5 n5 T5 T4 HR4 HN4 hs5 hs6;go_wp2_with (first | (rw[HW4.out]) | (rw[HW5.out]) | fail)
      refine aaq we.heap.size [([0,1,2],3)] [4,5,6] [7] (by kernel_rfl) (by kernel_rfl) (by kernel_rfl) (fun _ _ _ _ _ h=>h) ?_;rw[HWE.out];have q0:=tfE u2 hltp5;have q1:=tfE e0 hlt5;have q2:=tfE e1 hlt5;have q3:=tfE e2 hlt5;refine tail_cons (l:= ?seg5) ?hseg5 ?_
      case hseg5=>simp only[pick,lE1,lE2,lE3];rfl
      repeat (go_big_quiet_step (fail))
      refine wpQuiet_nil ?_;clear q0 q1 q2 q3 u0 u1 u2 u3 u4 e0 e1 e2 v0 v1 v2 v3 v4 f0 f1 f2 f3 f4 d0 d1 d2 hlt4 hltp;refine aau (vs:= #[.agg #[.int .i64 (xo:Int), .int .i64 (xs:Int), .bool true]]) Tryz.call110 rfl rfl rfl (R:=fun r w'=>r= .int .u64 (L:Int)/\Below we.heap.size we w') ((HUS.out we).mono ?_) we.heap.size (Nat.le_refl _) ?_
      · rintro e w' ⟨rfl,hb⟩;exact⟨_,rfl,hb,rfl,hb⟩
      rintro r w6 _ ⟨rfl,hb6⟩;have r6:=(hb6.block p hltp5).trans HR5.out;obtain⟨⟨u0,u1,u2,u3,u4⟩,f0,f1,f2,f3,f4⟩:=adu r6;have hlt6:=aaa r6;have HFN:Hid (Tch (fun k=>k=p) w3 (w6.setCell ⟨p,2,none⟩ (.int .i64 (s6:Int)))/\(w6.setCell ⟨p,2,none⟩ (.int .i64 (s6:Int))).heap[p]?=some (.cells (apW s5 s2 s6 n cap) 48 (0,0))):=
       ⟨(HT5.out.trans (Tch.of_below (S:=fun k=>k=p) hb6) (fun _ _ h=>h)).trans (Tch.set (S:=fun k=>k=p) w6 ⟨p,2,none⟩ _ rfl) (fun _ _ h=>h),heap_setCell_same w6 p 2 _ _ (.int .i64 (s6:Int)) r6⟩
      clear hb6 r6;refine aaN (l:= ?la6) (t:= ?tl6) ?hla6 ?htl6 ?_
      case hla6=>simp only[pick,lE1,lE2,lE3];rfl
      case htl6=>simp only[pick,lE1,lE2,lE3];rfl
      simp only[Act.put,lE4,lE5,lE6];repeat (go_big_quiet_step (fail))
      refine wpQuiet_nil ?_;go_wp2
      go_roundw
      case rel=>exact⟨j+1,by go_num,by omega,HFN.out.1,by rw[HSN.out];exact HFN.out.2⟩
      case measure=>simp only[intOf];omega
     | false=>
      rw[if_neg (by decide)]at hsn;obtain⟨s5,hs5⟩:=nmE (s2+1);have e5:(s2:Int)+1=(s5:Int):=by omega
      rw[hs5]at hsn;have HSN:=hE0 hsn;have hs5':s5<=513:=by omega
      have HFN:Hid (Tch (fun k=>k=p) w3 (w4.setCell ⟨p,1,none⟩ (.int .i64 (s5:Int)))/\(w4.setCell ⟨p,1,none⟩ (.int .i64 (s5:Int))).heap[p]?=some (.cells (apW s1 s5 s3 n cap) 48 (0,0))):=
       ⟨T4.out.trans (Tch.set (S:=fun k=>k=p) w4 ⟨p,1,none⟩ _ rfl) (fun _ _ h=>h),heap_setCell_same w4 p 1 _ _ (.int .i64 (s5:Int)) r4⟩
      clear hx htk hsn hsz hcl2 p0 p1 p2 ht hr hs1 hs2 hs3 hle hsb hlt0 hle2 hsb2 nR hfin hw4 hb4 n4 r4 hS hs5 T4 HR4 HN4;go_wp2_with (first | (rw[HW4.out]) | fail)
      go_roundw
      case rel=>exact⟨j+1,by go_num,by omega,HFN.out.1,by rw[HSN.out];exact HFN.out.2⟩
      case measure=>simp only[intOf];omega
   · have htl:l.take j=l:=List.take_of_length_le (by omega);rw[htl,HZ.out.1,HZ.out.2.1,HZ.out.2.2]at hr;obtain⟨⟨v0,v1,v2,v3,v4⟩,_⟩:=adu hr;obtain⟨⟨c0,c1,c2,c3',c4⟩,f0,f1,f2,f3,f4⟩:=adu nR;have hltr:=aaa nR;have hltp:=aaa hr;have NR:=hE0 nR;have HF:=hE0 hfin;clear hr hle hsb hlt0 ht nR hfin htl;go_wp2
     (try simp only[Exit.inBlock,Exit.then])
     refine atm (g:=w.heap.size) (x0:=(z1:Int)) (x1:=(z2:Int)) (x2:=(z3:Int)) (x3:=(n:Int)) (x4:=(cap:Int)) Tryz.results52 ?_ ?_ (apX NR.out _ _ _ _ _) ?_
     · rfl
     · rfl
     · exact⟨rfl,((((HF.out.setCell (Nat.le_refl _) _).setCell (Nat.le_refl _) _).setCell (Nat.le_refl _) _).setCell (Nat.le_refl _) _).setCell (Nat.le_refl _) _⟩
end
def PMade (base cap:Nat) (H:Hp) (w:World) (e:Ending) (w':World):Prop:=
 ∃q g A c bs,e= .returned (.tuple #[.pointer (some ⟨q,0,none⟩), .nilIface])/\PH w' q g base cap A c bs H/\Below w.heap.size w w'/\w.heap.size<=q/\w.heap.size<=g/\∀a,A=some a->w.heap.size<=a.block
section
variable {w w':World} {q g base cap c:Nat} {A:Option Addr} {bs out:List UInt8} {H H':Hp}
theorem arL (w:World) (base:Nat) (hb:base<18446744073709551616) (cap:Int) (hc: -9223372036854775808<=cap/\cap<=9223372036854775807) (h:base%16≠0\/4611686018427387904<base\/cap<1024\/16384<cap):
 Calls Tryz.prog 13 #[.int .u64 (base:Int), .int .i64 cap] w fun e w'=>e= .returned (.tuple #[.pointer none,amn 1])/\w=w':=by
 have HN:=hE0 (ar1 w base cap hb hc h);clear h;go_enter Tryz.func13,Tryz.ntmps13
 go_wp2_with fail
 refine HN.out.mono ?_;rintro e w2 ⟨rfl,rfl⟩;go_wp2
 go_ret2
 exact⟨rfl,rfl⟩
theorem atn (w:World) (z:List UInt8) (hz:List.replicate 184 (0:UInt8)=z) (base cap:Nat) (h1:base%16=0) (h2:base<=4611686018427387904) (h3:1024<=cap) (h4:cap<=16384):
 Calls Tryz.prog 13 #[.int .u64 (base:Int), .int .i64 (cap:Int)] w fun e w'=>∃q g A c,e= .returned (.tuple #[.pointer (some ⟨q,0,none⟩), .nilIface])/\PH w' q g base cap A c z (aed cap)/\Below w.heap.size w w'/\w.heap.size<=q/\w.heap.size<=g/\∀a,A=some a->w.heap.size<=a.block:=by
 have HZ:=hE0 (arq hz cap (by omega));have HN:=hE0 (aks w base cap h1 h2 h3 h4);have hG:∀W g c A,Ar W 195 g base cap A c []->Calls Tryz.prog 65 #[.pointer (some ⟨g,0,none⟩), .int .i64 184] W fun e w'=>e= .returned .nilIface/\Became 195 g base cap A z W w':=fun W g c A ha=>by
  have:=ahW ha 184 (by simp) h4 (by simp;omega);rw[List.nil_append,hz]at this;exact this
 have HG:=hE0 hG;clear hG hz;go_enter Tryz.func13,Tryz.ntmps13
 go_wp2_with fail
 refine HN.out.mono ?_;rintro e w2 ⟨rfl,ha,hb⟩;have HG2:=hE0 (HG.out w2 _ _ _ ha);have HB2:=hE0 hb;have HL2:=hE0 ha.lt;clear ha hb HG HN;go_wp2_with fail
 refine HG2.out.mono ?_;rintro e w3 ⟨rfl,A3,c3,a3,t3,m3⟩;have hft:∀k,foot w.heap.size none k->w.heap.size<=k:=fun k hk=>by
  rcases hk with rfl | ⟨a,e,_⟩
  · exact Nat.le_refl _
  · exact absurd e (by nofun)
 have hb3:Below w.heap.size w w3:=HB2.out.trans (t3.below hft HB2.out.size);have hA3:∀a,A3=some a->w.heap.size<=a.block:=fun a e=>by
  rcases m3 with h | h
  · rw[h]at e;cases e
  · exact Nat.le_trans HB2.out.size (h a e)
 obtain⟨w4,hw4⟩:=nmE (w3.alloc (.cells #[.pointer (some ⟨w.heap.size,0,none⟩)] 132));have hb4:=abE hw4;have n4:=anE hw4;have HF:Hid (∃q g A c,Ending.returned (.tuple #[.pointer (some ⟨w3.heap.size,0,none⟩), .nilIface])= .returned (.tuple #[.pointer (some ⟨q,0,none⟩), .nilIface])/\PH w4 q g base cap A c z (aed cap)/\Below w.heap.size w w4/\w.heap.size<=q/\w.heap.size<=g/\∀a,A=some a->w.heap.size<=a.block):=
  ⟨_,_,A3,c3,rfl,⟨n4,a3.below hb4,HZ.out,rfl,h4,h2⟩,hb3.trans (hb4.mono hb3.size),hb3.size,Nat.le_refl _,hA3⟩
 have HW4:=hE0 hw4;clear a3 t3 m3 hft hb3 hA3 hw4 hb4 n4 HG2 HB2 HL2;go_wp2_with (first | (rw[HW4.out]) | fail)
 go_ret2
 exact HF.out
theorem agF (w:World) (base cap:Nat) (h1:base%16=0) (h2:base<=4611686018427387904) (h3:1024<=cap) (h4:cap<=16384):
 Calls Tryz.prog 13 #[.int .u64 (base:Int), .int .i64 (cap:Int)] w fun e w'=>PMade base cap (aed cap) w e w':=by
 refine(atn w _ rfl base cap h1 h2 h3 h4).mono ?_;rintro e w' ⟨q,g,A,c,h⟩;exact⟨q,g,A,c,_,h⟩
theorem arM (h:Ar w 195 g base cap A c bs) (hb:base<=4611686018427387904) (hc:cap<=16384) (hl:bs.length<=cap) (hk:ab8 bs=true):
 Calls Tryz.prog 156 #[.pointer (some ⟨g,0,none⟩)] w fun e w'=>∃H bs',PMade base cap H w e w'/\RtD bs' H/\bs'=bs/\∃q g A c,e= .returned (.tuple #[.pointer (some ⟨q,0,none⟩), .nilIface])/\PH w' q g base cap A c bs H:=by
 have hC:=apl w g base cap c A bs _ h hb (by omega) hk;dsimp only[aat]at hC;obtain⟨H,hR,hcp⟩:=at2 hk hl;have HC:=hE0 hC;have HCL:=hE0 (fun W (hb:Below w.heap.size w W)=>ai1 (h.below hb) (by omega));have HR:=hE0 hR;have HCP:=hE0 hcp;clear hC hR hcp h;go_enter Tryz.func156,Tryz.ntmps156
 go_wp2_with fail
 refine HC.out.mono ?_;rintro e w2 ⟨rfl,hb2⟩;have HC2:=hE0 (HCL.out w2 hb2);have HB2:=hE0 hb2;clear hb2 HC HCL;go_wp2_with fail
 refine HC2.out.mono ?_;rintro e w3 ⟨g3,A3,c3,rfl,a3,hb3,k1,k2⟩;obtain⟨w4,hw4⟩:=nmE (w3.alloc (.cells #[.pointer (some ⟨g3,0,none⟩)] 132));have hb4:=abE hw4;have n4:=anE hw4;have hb03:=HB2.out.trans (hb3.mono HB2.out.size);have hph:PH w4 w3.heap.size g3 base cap A3 c3 bs H:=⟨n4,a3.below hb4,HR.out,HCP.out,hc,hb⟩;have HF:Hid (PMade base cap H w (.returned (.tuple #[.pointer (some ⟨w3.heap.size,0,none⟩), .nilIface])) w4):=
  ⟨_,_,A3,c3,bs,rfl,hph,hb03.trans (hb4.mono hb03.size),hb03.size,Nat.le_trans HB2.out.size k1,fun a e=>Nat.le_trans HB2.out.size (k2 a e)⟩
 have HPH:=hE0 hph;have HW4:=hE0 hw4;clear a3 hb3 k1 k2 hw4 hb4 n4 hb03 hph HC2 HB2;go_wp2_with (first | (rw[HW4.out]) | fail)
 go_ret2
 exact⟨H,bs,HF.out,HR.out,rfl,_,_,_,_,rfl,HPH.out⟩
theorem ahJ (h:PH w q g base cap A c bs H):
 Calls Tryz.prog 35 #[.pointer (some ⟨q,0,none⟩)] w fun e w'=>ar2 base cap bs w e w':=by
 have HC:=hE0 (ai1 h.ar (by have:=h.len;omega));have k0:=h.c0;have hlq:=h.lt;clear h;go_enter Tryz.func35,Tryz.ntmps35
 go_wp2_with fail
 refine HC.out.mono ?_;rintro e w2 ⟨g2,A2,c2,rfl,h2⟩;have HF:=hE0 h2;clear h2 HC k0;go_wp2
 go_ret
 exact⟨g2,A2,c2,rfl,HF.out⟩
end
def aeS (r:Rp) (A:Option Addr) (c:Nat):Array Value:= #[.int .i64 r.code, .int .u64 (r.hd:Int), .int .u64 (r.n:Int), .slice A r.b.length c, .int .i64 (r.st.used:Int), .int .i64 (r.st.free:Int), .int .i64 (r.st.bytes:Int), .int .i64 (r.st.len:Int), .int .i64 (r.st.cap:Int)]
def rpV (r:Rp) (A:Option Addr) (c:Nat):Value:= .agg (aeS r A c)
def rp0:Array Value:= #[.int .i64 0, .int .u64 0, .int .u64 0, .slice none 0 0, .int .i64 0, .int .i64 0, .int .i64 0, .int .i64 0, .int .i64 0]
def ada (r:Rp) (w:World) (e:Ending) (w':World):Prop:=∃A' c',e= .returned (rpV r A' c')/\w'.ownsRow w.heap.size 5 1 (.slice A' r.b.length c') r.b.length (r.b.map bv)
def abj (op:Int) (p n m a:Nat) (B:Option Addr) (bl k:Nat):Value:= .agg #[.int .i64 op, .int .u64 (p:Int), .int .u64 (n:Int), .int .u64 (m:Int), .int .u64 (a:Int), .slice B bl k]
section
variable {w w' w4 w5:World} {q g base cap c:Nat} {A:Option Addr} {bs out:List UInt8} {H H':Hp}
theorem aas{x0 x1 x2 x3 x4 x5 x6 x7 x8:Value}{g:Nat}{t:TypeId}(h:w.heap[g]?=some (.cells #[x0,x1,x2,x3,x4,x5,x6,x7,x8] t (0,0))):
 (w.cell? ⟨g,0,none⟩=some x0/\w.cell? ⟨g,1,none⟩=some x1/\w.cell? ⟨g,2,none⟩=some x2/\w.cell? ⟨g,3,none⟩=some x3/\w.cell? ⟨g,4,none⟩=some x4/\w.cell? ⟨g,5,none⟩=some x5/\w.cell? ⟨g,6,none⟩=some x6/\w.cell? ⟨g,7,none⟩=some x7/\w.cell? ⟨g,8,none⟩=some x8)/\
 (w.frozen? ⟨g,0,none⟩=false/\w.frozen? ⟨g,1,none⟩=false/\w.frozen? ⟨g,2,none⟩=false/\w.frozen? ⟨g,3,none⟩=false/\w.frozen? ⟨g,4,none⟩=false/\w.frozen? ⟨g,5,none⟩=false/\w.frozen? ⟨g,6,none⟩=false/\w.frozen? ⟨g,7,none⟩=false/\w.frozen? ⟨g,8,none⟩=false):=by
 refine⟨⟨?_,?_,?_,?_,?_,?_,?_,?_,?_⟩,frozen_of_row w g 0 _ _ h,frozen_of_row w g 1 _ _ h,frozen_of_row w g 2 _ _ h,frozen_of_row w g 3 _ _ h,frozen_of_row w g 4 _ _ h,frozen_of_row w g 5 _ _ h,frozen_of_row w g 6 _ _ h,frozen_of_row w g 7 _ _ h,frozen_of_row w g 8 _ _ h⟩
 · rw[cell_of_row w g 0 _ _ (0,0) h];rfl
 · rw[cell_of_row w g 1 _ _ (0,0) h];rfl
 · rw[cell_of_row w g 2 _ _ (0,0) h];rfl
 · rw[cell_of_row w g 3 _ _ (0,0) h];rfl
 · rw[cell_of_row w g 4 _ _ (0,0) h];rfl
 · rw[cell_of_row w g 5 _ _ (0,0) h];rfl
 · rw[cell_of_row w g 6 _ _ (0,0) h];rfl
 · rw[cell_of_row w g 7 _ _ (0,0) h];rfl
 · rw[cell_of_row w g 8 _ _ (0,0) h];rfl
theorem aa8{x0 x1 x2 x3 x4 x5:Value}{g:Nat}{t:TypeId}(h:w.heap[g]?=some (.cells #[x0,x1,x2,x3,x4,x5] t (0,0))):
 w.cell? ⟨g,0,none⟩=some x0/\w.cell? ⟨g,1,none⟩=some x1/\w.cell? ⟨g,2,none⟩=some x2/\w.cell? ⟨g,3,none⟩=some x3/\w.cell? ⟨g,4,none⟩=some x4/\w.cell? ⟨g,5,none⟩=some x5:=by
 refine⟨?_,?_,?_,?_,?_,?_⟩
 · rw[cell_of_row w g 0 _ _ (0,0) h];rfl
 · rw[cell_of_row w g 1 _ _ (0,0) h];rfl
 · rw[cell_of_row w g 2 _ _ (0,0) h];rfl
 · rw[cell_of_row w g 3 _ _ (0,0) h];rfl
 · rw[cell_of_row w g 4 _ _ (0,0) h];rfl
 · rw[cell_of_row w g 5 _ _ (0,0) h];rfl
def anB (w:World) (g:Nat) (x0 x1 x2 x3 x4 x5 x6 x7 x8:Value):World:=((((((((w.setCell ⟨g,0,none⟩ x0).setCell ⟨g,1,none⟩ x1).setCell ⟨g,2,none⟩ x2).setCell ⟨g,3,none⟩ x3).setCell ⟨g,4,none⟩ x4).setCell ⟨g,5,none⟩ x5).setCell ⟨g,6,none⟩ x6).setCell ⟨g,7,none⟩ x7).setCell ⟨g,8,none⟩ x8
theorem aeT{y0 y1 y2 y3 y4 y5 y6 y7 y8:Value}{g:Nat}{t:TypeId}(h:w.heap[g]?=some (.cells #[y0,y1,y2,y3,y4,y5,y6,y7,y8] t (0,0))) (x0 x1 x2 x3 x4 x5 x6 x7 x8:Value):
 (anB w g x0 x1 x2 x3 x4 x5 x6 x7 x8).heap[g]?=some (.cells #[x0,x1,x2,x3,x4,x5,x6,x7,x8] t (0,0)):=by
 unfold anB;have h1:=heap_setCell_same _ g 0 _ _ x0 h;have h1:(_:Option Obj)=some (.cells #[x0,y1,y2,y3,y4,y5,y6,y7,y8] t (0,0)):=h1;have h2:=heap_setCell_same _ g 1 _ _ x1 h1;have h2:(_:Option Obj)=some (.cells #[x0,x1,y2,y3,y4,y5,y6,y7,y8] t (0,0)):=h2;have h3:=heap_setCell_same _ g 2 _ _ x2 h2;have h3:(_:Option Obj)=some (.cells #[x0,x1,x2,y3,y4,y5,y6,y7,y8] t (0,0)):=h3;have h4:=heap_setCell_same _ g 3 _ _ x3 h3;have h4:(_:Option Obj)=some (.cells #[x0,x1,x2,x3,y4,y5,y6,y7,y8] t (0,0)):=h4;have h5:=heap_setCell_same _ g 4 _ _ x4 h4;have h5:(_:Option Obj)=some (.cells #[x0,x1,x2,x3,x4,y5,y6,y7,y8] t (0,0)):=h5;have h6:=heap_setCell_same _ g 5 _ _ x5 h5;have h6:(_:Option Obj)=some (.cells #[x0,x1,x2,x3,x4,x5,y6,y7,y8] t (0,0)):=h6;have h7:=heap_setCell_same _ g 6 _ _ x6 h6;have h7:(_:Option Obj)=some (.cells #[x0,x1,x2,x3,x4,x5,x6,y7,y8] t (0,0)):=h7;have h8:=heap_setCell_same _ g 7 _ _ x7 h7;have h8:(_:Option Obj)=some (.cells #[x0,x1,x2,x3,x4,x5,x6,x7,y8] t (0,0)):=h8;have h9:=heap_setCell_same _ g 8 _ _ x8 h8;have h9:(_:Option Obj)=some (.cells #[x0,x1,x2,x3,x4,x5,x6,x7,x8] t (0,0)):=h9;exact h9
theorem acy (w:World) (g:Nat) (x0 x1 x2 x3 x4 x5 x6 x7 x8:Value):Tch (fun k=>k=g) w (anB w g x0 x1 x2 x3 x4 x5 x6 x7 x8):=by
 unfold anB;have t:∀(W:World) (i:Nat) (x:Value),Tch (fun k=>k=g) w W->Tch (fun k=>k=g) w (W.setCell ⟨g,i,none⟩ x):=fun W i x h=>h.trans (Tch.set (S:=fun k=>k=g) W ⟨g,i,none⟩ x rfl) (fun _ _ h=>h);exact t _ _ _ (t _ _ _ (t _ _ _ (t _ _ _ (t _ _ _ (t _ _ _ (t _ _ _ (t _ _ _ (t _ _ _ (Tch.refl _ _)))))))))
theorem adv{fn:Func}{R:Ending->World->Prop}{a:Act}{w:World}{p:Tmp}{g:Nat}{x0 x1 x2 x3 x4 x5 x6 x7 x8:Value}(hres:fn.results= #[.cell p 50]) (hp:a.tmps.getD p undef= .pointer (some ⟨g,0,none⟩)) (hd:a.defers= [])
 (hg:w.heap[g]?=some (.cells #[x0,x1,x2,x3,x4,x5,x6,x7,x8] 50 (0,0))) (hR:R (.returned (.agg #[x0,x1,x2,x3,x4,x5,x6,x7,x8])) w):bodyPost Tryz.prog fn R .ret a w:=by
 refine bodyPost_ret (v:= .agg #[x0,x1,x2,x3,x4,x5,x6,x7,x8]) ?_ hd hR;exact results_cell_row hres _ _ g _ _ _ _ hp hg rfl rfl rfl
theorem apY (h:Ar w 195 g base cap A c bs){k:Nat}{cs:Array Value}(hk:w.heap[k]?=some (.cells cs 50 (0,0))):¬foot g A k:=by
 rintro(rfl | ⟨a,ea,rfl⟩)
 · have h1:=h.obj;rw[hk]at h1;injection h1 with h1;injection h1 with _ h2 _;exact absurd h2 (by decide)
 · obtain⟨h',e,cur,hg,_⟩:=h.row ea;subst e;rw[hk]at hg;injection hg with hg;injection hg with _ h2 _;exact absurd h2 (by decide)
theorem PTurn.near{S:Nat->Prop}(h:PTurn g base cap A H' w w4) (ht:Tch S w4 w5) (hS:∀k,S k->w.heap.size<=k/\∃cs,w4.heap[k]?=some (.cells cs 50 (0,0))):PTurn g base cap A H' w w5:=by
 obtain⟨out,⟨A4,c4,a4,t4,m4⟩,rd⟩:=h;refine⟨out,⟨A4,c4,a4.tch ht (fun k hk hs=> ?_),t4.trans ht (fun i hi hs=> ?_),m4⟩,rd⟩
 · obtain⟨_,cs,hcs⟩:=hS k hs;exact apY a4 hcs hk
 · have:=(hS i hs).1;omega
theorem agG{w w':World}{base n size:Nat}{t:TypeId}{v:Value}{xs:List Value}(h:w.ownsRow base t size v n xs) (hk:∀k,v.ownBlock=some k->w'.heap[k]?=w.heap[k]?):w'.ownsRow base t size v n xs:=by
 refine⟨h.1,?_⟩;rcases h.2 with h2 | ⟨g,cap,cur,hv,hg,hh,r⟩
 · exact .inl h2
 · exact .inr ⟨g,cap,cur,hv,hg,(hk g (by rw[hv];rfl)).trans hh,r⟩
theorem PTurn.after{w1:World}(h:PTurn g base cap A H' w1 w4) (hb:Below w.heap.size w w1):PTurn g base cap A H' w w4:=by
 obtain⟨out,hbe,hr⟩:=h;exact⟨out,hbe.after hb,hr⟩
theorem PTurn.tch (h:PTurn g base cap A H' w w4):Tch (foot g A) w w4:=by
 obtain⟨_,⟨_,_,_,t,_⟩,_⟩:=h;exact t
theorem PTurn.ends{b4 b5:Nat}(h:PTurn g base cap A H' w w4) (m4:w4.heap[b4]?=some (.cells rp0 50 (0,0))) (m5:w4.heap[b5]?=some (.cells rp0 50 (0,0))) (l4:w.heap.size<=b4) (l5:w.heap.size<=b5) (ht:Tch (fun k=>k=b4\/k=b5) w4 w5):PTurn g base cap A H' w w5:=
 h.near ht (by
  rintro k (rfl | rfl)
  · exact⟨l4,_,m4⟩
  · exact⟨l5,_,m5⟩)
theorem au8{y0 y1 y2 y3 y4 y5 y6 y7 y8:Value}{g:Nat}{t:TypeId}(h:w.heap[g]?=some (.cells #[y0,y1,y2,y3,y4,y5,y6,y7,y8] t (0,0))) (x4 x5 x6 x7 x8:Value):
 (((((w.setCell ⟨g,4,none⟩ x4).setCell ⟨g,5,none⟩ x5).setCell ⟨g,6,none⟩ x6).setCell ⟨g,7,none⟩ x7).setCell ⟨g,8,none⟩ x8).heap[g]?=some (.cells #[y0,y1,y2,y3,x4,x5,x6,x7,x8] t (0,0)):=by
 have h1:=heap_setCell_same w g 4 _ _ x4 h;have h2:=heap_setCell_same _ g 5 _ _ x5 h1;have h3:=heap_setCell_same _ g 6 _ _ x6 h2;have h4:=heap_setCell_same _ g 7 _ _ x7 h3;have h5:=heap_setCell_same _ g 8 _ _ x8 h4;rw[h5];rfl
theorem aun (w:World) (g:Nat) (x4 x5 x6 x7 x8:Value):Tch (fun k=>k=g) w (((((w.setCell ⟨g,4,none⟩ x4).setCell ⟨g,5,none⟩ x5).setCell ⟨g,6,none⟩ x6).setCell ⟨g,7,none⟩ x7).setCell ⟨g,8,none⟩ x8):=by
 have t:∀(W:World) (i:Nat) (x:Value),Tch (fun k=>k=g) w W->Tch (fun k=>k=g) w (W.setCell ⟨g,i,none⟩ x):=fun W i x h=>h.trans (Tch.set (S:=fun k=>k=g) W ⟨g,i,none⟩ x rfl) (fun _ _ h=>h);exact t _ _ _ (t _ _ _ (t _ _ _ (t _ _ _ (t _ _ _ (Tch.refl _ _)))))
structure Do3 (w w3:World) (b3 b4 b5:Nat) (cs:Array Value):Prop where
 bel:Below w.heap.size w w3
 n3:w3.heap[b3]?=some (.cells cs 43 (0,0))
 n4:w3.heap[b4]?=some (.cells rp0 50 (0,0))
 n5:w3.heap[b5]?=some (.cells rp0 50 (0,0))
 l3:w.heap.size<=b3
 l4:w.heap.size<=b4
 l5:w.heap.size<=b5
 ne:b4≠b5
theorem Do3.made (w:World) (cs:Array Value):Do3 w (((w.alloc (.cells cs 43)).alloc (.cells rp0 50)).alloc (.cells rp0 50)) w.heap.size (w.alloc (.cells cs 43)).heap.size ((w.alloc (.cells cs 43)).alloc (.cells rp0 50)).heap.size cs:=by
 obtain⟨w1,hw1⟩:=nmE (w.alloc (.cells cs 43));have b1:=abE hw1;have n1:=anE hw1;rw[hw1];obtain⟨w2,hw2⟩:=nmE (w1.alloc (.cells rp0 50));have b2:=abE hw2;have n2:=anE hw2;rw[hw2];have n12:=(b2.block _ (aae n1)).trans n1;obtain⟨w3,hw3⟩:=nmE (w2.alloc (.cells rp0 50));have b3:=abE hw3;have n3:=anE hw3;rw[hw3];have l12:=aae n2;exact⟨b1.trans ((b2.mono b1.size).trans (b3.mono (Nat.le_trans b1.size b2.size))),(b3.block _ (aae n12)).trans n12,(b3.block _ l12).trans n2,n3,Nat.le_refl _,b1.size,Nat.le_trans b1.size b2.size,by omega⟩
theorem ato (p n m a:Nat) (b:List UInt8):H.doC 0 p n m a b=(Rp.err 1,H):=by
 unfold Hp.doC;rw[if_neg (by decide),if_neg (by decide),if_neg (by decide),if_neg (by decide),if_neg (by decide),if_neg (by decide)]
theorem als (p n m a:Nat) (b:List UInt8):H.doC 1 p n m a b=apv (H.get n 165):=by unfold Hp.doC;rw[if_pos rfl]
theorem atp (p n m a:Nat) (b:List UInt8):H.doC 2 p n m a b=apv (H.calloc n m):=by unfold Hp.doC;rw[if_neg (by decide),if_pos rfl]
theorem apZ (p n m a:Nat) (b:List UInt8):H.doC 3 p n m a b=(Rp.err (H.freeP p).1,(H.freeP p).2):=by
 unfold Hp.doC Hp.freeP;rw[if_neg (by decide),if_neg (by decide),if_pos rfl]
 cases H.handleB p<;>rfl
theorem atq (p n m a:Nat) (b:List UInt8):H.doC 4 p n m a b=apv (H.realloc p n):=by unfold Hp.doC;rw[if_neg (by decide),if_neg (by decide),if_neg (by decide),if_pos rfl]
theorem atr (p n m a:Nat) (b:List UInt8):H.doC 5 p n m a b=(⟨(H.usableP p).2,0,(H.usableP p).1,[],St5.none⟩,H):=by
 unfold Hp.doC Hp.heldC Hp.usableP;rw[if_neg (by decide),if_neg (by decide),if_neg (by decide),if_neg (by decide),if_pos (.inl rfl)]
 cases H.handleB p with
 | none=>rfl
 | some i=>dsimp only;rw[if_pos rfl]
theorem arN (p n m a:Nat) (b:List UInt8):H.doC 6 p n m a b=(⟨(H.readP p a n).2,0,0,(H.readP p a n).1,St5.none⟩,H):=by
 unfold Hp.doC Hp.heldC Hp.readP;rw[if_neg (by decide),if_neg (by decide),if_neg (by decide),if_neg (by decide),if_pos (.inr (.inl rfl))]
 cases H.handleB p with
 | none=>rfl
 | some i=>
  dsimp only;rw[if_neg (by decide),if_neg (show ¬(6:Int)=7 by decide)];by_cases h:(H.ds.getD i aco).2.length<a+n
  · rw[if_pos h,if_pos h];rfl
  · rw[if_neg h,if_neg h,if_pos rfl]
theorem arO (p n m a:Nat) (b:List UInt8):H.doC 7 p n m a b=(Rp.err (H.writeP p a b).1,(H.writeP p a b).2):=by
 unfold Hp.doC Hp.heldC Hp.writeP;rw[if_neg (by decide),if_neg (by decide),if_neg (by decide),if_neg (by decide),if_pos (.inr (.inr rfl))]
 cases H.handleB p with
 | none=>rfl
 | some i=>
  dsimp only;rw[if_neg (by decide),if_pos (show(7:Int)=7 from rfl)];by_cases h:(H.ds.getD i aco).2.length<a+b.length
  · rw[if_pos h,if_pos h]
  · rw[if_neg h,if_neg h,if_neg (by decide)]
theorem att (p n m a:Nat) (b:List UInt8):H.doC 8 p n m a b=(⟨0,0,0,[],H.stats⟩,H):=by
 unfold Hp.doC;rw[if_neg (by decide),if_neg (by decide),if_neg (by decide),if_neg (by decide),if_neg (by decide),if_pos rfl]
end
theorem au9{w:World}{q g base cap c:Nat}{A:Option Addr}{bs:List UInt8}{H:Hp}(h:PH w q g base cap A c bs H) (hE:ET w) (h0:¬foot g A 0) (p n m a bl k:Nat) (B:Option Addr) (b:List UInt8):
 Calls Tryz.prog 20 #[.pointer (some ⟨q,0,none⟩),abj 0 p n m a B bl k] w fun e w'=>ada (H.doC 0 p n m a b).1 w e w'/\PTurn g base cap A (H.doC 0 p n m a b).2 w w':=by
 rw[ato];unfold abj;have hd:=Do3.made w #[.int .i64 0, .int .u64 (p:Int), .int .u64 (n:Int), .int .u64 (m:Int), .int .u64 (a:Int), .slice B bl k];obtain⟨w1,hw1⟩:=nmE (w.alloc (.cells #[.int .i64 0, .int .u64 (p:Int), .int .u64 (n:Int), .int .u64 (m:Int), .int .u64 (a:Int), .slice B bl k] 43));rw[hw1]at hd;obtain⟨w2,hw2⟩:=nmE (w1.alloc (.cells rp0 50));rw[hw2]at hd;obtain⟨w3,hw3⟩:=nmE (w2.alloc (.cells rp0 50));rw[hw3]at hd;unfold rp0 at hw2 hw3;obtain⟨z0,z1,z2,z3,z4,z5⟩:=aa8 hd.n3;have hz:=aaa hd.n3;have h3:=h.below hd.bel;have hk:∀k,w.heap.size<=k->¬foot g A k:=fun k hk hf=>by have:=h.ar.foot_lt hf;omega
 have HD:=hE0 hd;have HH:=hE0 h;have HK:=hE0 hk;have HW1:=hE0 hw1;have HW2:=hE0 hw2;have HW3:=hE0 hw3;have HE:=hE0 hE;have H00:=hE0 h0;clear h hd h3 hE hk hw1 hw2 hw3 h0;go_enter Tryz.func20,Tryz.ntmps20
 have T4:PTurn g base cap A H w w3:=HH.out.stay HD.out.bel;have E4:ET w3:=HE.out.keep (T4.tch.block 0 HE.out.lt H00.out);have t34:Tch (foot g A) w3 w3:=Tch.refl _ _;have m4:=(t34.block _ (aae HD.out.n4) (HK.out _ HD.out.l4)).trans HD.out.n4;have m5:=(t34.block _ (aae HD.out.n5) (HK.out _ HD.out.l5)).trans HD.out.n5;obtain⟨⟨y0,y1,y2,y3,y4,y5,y6,y7,y8⟩,f0,f1,f2,f3,f4,f5,f6,f7,f8⟩:=aas m5;have hy:=aaa m5;have n5:w3.heap[w2.heap.size]?=some (.cells #[.int .i64 0, .int .u64 0, .int .u64 0, .slice none 0 0, .int .i64 0, .int .i64 0, .int .i64 0, .int .i64 0, .int .i64 0] 50 (0,0)):=m5;have t5:Tch (fun k=>k=w2.heap.size) w3 w3:=Tch.refl _ _;have E5:ET w3:=E4.keep (t5.block 0 E4.lt (fun e=>by
  have e:0=w2.heap.size:=e;have h1:=HD.out.l5;have h2:=HE.out.lt;omega))
 have m5':w3.heap[w1.heap.size]?=some (.cells rp0 50 (0,0)):=(t5.block _ (aae m4) HD.out.ne).trans m4;have HNM:=hE0 (agD E5 1);have HT5:=hE0 t5;have HN5:=hE0 n5;have HM5:=hE0 m5';have HM4:=hE0 m4;have HM45:=hE0 m5;have HT4:=hE0 T4;clear E4 E5 m4 m5 m5' n5 t5 T4;go_wp2_with (first | (rw[HW1.out]) | (rw[HW2.out]) | (rw[HW3.out]) | fail)
 refine HNM.out.mono ?_;rintro e w6 ⟨rfl,hb6⟩;have n6:=(hb6.block _ (aae HN5.out)).trans HN5.out;have m6:=(hb6.block _ (aae HM5.out)).trans HM5.out;obtain⟨w7,hw7⟩:=nmE (w6.setCell ⟨w2.heap.size,0,none⟩ (.int .i64 1));have n7:w7.heap[w2.heap.size]?=some (.cells #[.int .i64 1, .int .u64 0, .int .u64 0, .slice none 0 0, .int .i64 0, .int .i64 0, .int .i64 0, .int .i64 0, .int .i64 0] 50 (0,0)):=by rw[<-hw7];exact heap_setCell_same w6 w2.heap.size 0 _ _ _ n6
 have m7:w7.heap[w1.heap.size]?=some (.cells rp0 50 (0,0)):=by rw[<-hw7];exact(Below.heap_setCell w6 ⟨w2.heap.size,0,none⟩ _ w1.heap.size HD.out.ne).trans m6
 have t7:Tch (fun k=>k=w2.heap.size) w6 w7:=by rw[<-hw7];exact Tch.set (S:=fun k=>k=w2.heap.size) w6 ⟨w2.heap.size,0,none⟩ _ rfl
 have tf:Tch (fun k=>k=w1.heap.size\/k=w2.heap.size) w3 (anB w7 w1.heap.size (.int .i64 1) (.int .u64 0) (.int .u64 0) (.slice none 0 0) (.int .i64 0) (.int .i64 0) (.int .i64 0) (.int .i64 0) (.int .i64 0)):=
  (((((Tch.refl (fun k=>k=w1.heap.size\/k=w2.heap.size) w3).trans HT5.out (fun _ _ e=> .inr e)).trans (Tch.of_below (S:=fun _=>False) hb6) (fun _ _ h=>h.elim)).trans t7 (fun _ _ e=> .inr e)).trans (acy w7 w1.heap.size (.int .i64 1) (.int .u64 0) (.int .u64 0) (.slice none 0 0) (.int .i64 0) (.int .i64 0) (.int .i64 0) (.int .i64 0) (.int .i64 0)) (fun _ _ e=> .inl e))
 have TF:=hE0 tf;have MF:=hE0 (aeT m7 (.int .i64 1) (.int .u64 0) (.int .u64 0) (.slice none 0 0) (.int .i64 0) (.int .i64 0) (.int .i64 0) (.int .i64 0) (.int .i64 0));clear y0 y1 y2 y3 y4 y5 y6 y7 y8 f0 f1 f2 f3 f4 f5 f6 f7 f8 hy;obtain⟨⟨y0,y1,y2,y3,y4,y5,y6,y7,y8⟩,f0,f1,f2,f3,f4,f5,f6,f7,f8⟩:=aas n6;have hy6:=aaa n6;have HW7:=hE0 hw7;obtain⟨⟨u0,u1,u2,u3,u4,u5,u6,u7,u8⟩,_⟩:=aas n7;have hy7:=aaa n7;obtain⟨⟨v0,v1,v2,v3,v4,v5,v6,v7,v8⟩,e0,e1,e2,e3,e4,e5,e6,e7,e8⟩:=aas m7;have hm7:=aaa m7;clear hb6 n6 m6 hw7 n7 m7 t7 tf HNM HT5 HN5 HM5;go_wp2_with (first | (rw[HW7.out]) | fail)
 (try simp only[Exit.inBlock,Exit.then])
 refine adv (g:=w1.heap.size) Tryz.results20 ?_ ?_ MF.out ?_
 · rfl
 · rfl
 · exact⟨⟨none,0,rfl,World.ownsRow_nil _ _ _ _⟩,HT4.out.ends HM4.out HM45.out HD.out.l4 HD.out.l5 TF.out⟩
theorem arP{w:World}{q g base cap c:Nat}{A:Option Addr}{bs:List UInt8}{H:Hp}(h:PH w q g base cap A c bs H) (hE:ET w) (h0:¬foot g A 0) (p n m a bl k:Nat) (B:Option Addr) (b:List UInt8) (hM:∀w3,Below w.heap.size w w3->Calls Tryz.prog 61 #[.pointer (some ⟨q,0,none⟩), .int .u64 (n:Int)] w3 fun e w'=>afA g base cap A (H.get n 165) w3 e w') (hN:∀W,ET W->Calls Tryz.prog 71 #[amn (H.get n 165).1.2] W fun e w'=>e= .returned (.int .i64 (H.get n 165).1.2)/\Below W.heap.size W w'):
 Calls Tryz.prog 20 #[.pointer (some ⟨q,0,none⟩),abj 1 p n m a B bl k] w fun e w'=>ada (H.doC 1 p n m a b).1 w e w'/\PTurn g base cap A (H.doC 1 p n m a b).2 w w':=by
 rw[als];unfold abj;have hd:=Do3.made w #[.int .i64 1, .int .u64 (p:Int), .int .u64 (n:Int), .int .u64 (m:Int), .int .u64 (a:Int), .slice B bl k];obtain⟨w1,hw1⟩:=nmE (w.alloc (.cells #[.int .i64 1, .int .u64 (p:Int), .int .u64 (n:Int), .int .u64 (m:Int), .int .u64 (a:Int), .slice B bl k] 43));rw[hw1]at hd;obtain⟨w2,hw2⟩:=nmE (w1.alloc (.cells rp0 50));rw[hw2]at hd;obtain⟨w3,hw3⟩:=nmE (w2.alloc (.cells rp0 50));rw[hw3]at hd;unfold rp0 at hw2 hw3;obtain⟨z0,z1,z2,z3,z4,z5⟩:=aa8 hd.n3;have hz:=aaa hd.n3;have hk:∀k,w.heap.size<=k->¬foot g A k:=fun k hk hf=>by have:=h.ar.foot_lt hf;omega
 have hO:=hM w3 hd.bel;obtain⟨r,hr⟩:=nmE (H.get n 165);rw[hr]at hO hN ⊢;obtain⟨⟨rh,rk⟩,H'⟩:=r;dsimp only[afA]at hO;dsimp only[apv];dsimp only at hN;have HO:=hE0 hO;have HNM:=hE0 hN;have HD:=hE0 hd;have HH:=hE0 h;have HK:=hE0 hk;have HW1:=hE0 hw1;have HW2:=hE0 hw2;have HW3:=hE0 hw3;have HE:=hE0 hE;have H00:=hE0 h0;clear h hd hM hN hE hk hw1 hw2 hw3 h0 hO hr;go_enter Tryz.func20,Tryz.ntmps20
 go_wp2_with (first | (rw[HW1.out]) | (rw[HW2.out]) | (rw[HW3.out]) | fail)
 refine HO.out.mono ?_;rintro e w4 ⟨rfl,ht⟩;have T4:PTurn g base cap A H' w w4:=ht.after HD.out.bel;have E4:ET w4:=HE.out.keep (T4.tch.block 0 HE.out.lt H00.out);have t34:Tch (foot g A) w3 w4:=ht.tch;have m4:=(t34.block _ (aae HD.out.n4) (HK.out _ HD.out.l4)).trans HD.out.n4;have m5:=(t34.block _ (aae HD.out.n5) (HK.out _ HD.out.l5)).trans HD.out.n5;obtain⟨⟨y0,y1,y2,y3,y4,y5,y6,y7,y8⟩,f0,f1,f2,f3,f4,f5,f6,f7,f8⟩:=aas m5;have hy:=aaa m5;clear z0 z1 z2 z3 z4 z5 hz HO t34;obtain⟨w5,hw5⟩:=nmE (w4.setCell ⟨w2.heap.size,1,none⟩ (.int .u64 (rh:Int)));have n5:w5.heap[w2.heap.size]?=some (.cells #[.int .i64 0, .int .u64 (rh:Int), .int .u64 0, .slice none 0 0, .int .i64 0, .int .i64 0, .int .i64 0, .int .i64 0, .int .i64 0] 50 (0,0)):=by rw[<-hw5];exact heap_setCell_same w4 w2.heap.size 1 _ _ _ m5
 have t5:Tch (fun k=>k=w2.heap.size) w4 w5:=by rw[<-hw5];exact Tch.set (S:=fun k=>k=w2.heap.size) w4 ⟨w2.heap.size,1,none⟩ _ rfl
 have HW5:=hE0 hw5;clear hw5;have E5:ET w5:=E4.keep (t5.block 0 E4.lt (fun e=>by
  have e:0=w2.heap.size:=e;have h1:=HD.out.l5;have h2:=HE.out.lt;omega))
 have m5':w5.heap[w1.heap.size]?=some (.cells rp0 50 (0,0)):=(t5.block _ (aae m4) HD.out.ne).trans m4;have HNM:=hE0 (HNM.out _ E5);have HT5:=hE0 t5;have HN5:=hE0 n5;have HM5:=hE0 m5';have HM4:=hE0 m4;have HM45:=hE0 m5;have HT4:=hE0 T4;clear E4 E5 m4 m5 m5' n5 t5 T4;go_wp2_with (first | (rw[HW5.out]) | fail)
 refine HNM.out.mono ?_;rintro e w6 ⟨rfl,hb6⟩;have n6:=(hb6.block _ (aae HN5.out)).trans HN5.out;have m6:=(hb6.block _ (aae HM5.out)).trans HM5.out;obtain⟨w7,hw7⟩:=nmE (w6.setCell ⟨w2.heap.size,0,none⟩ (.int .i64 rk));have n7:w7.heap[w2.heap.size]?=some (.cells #[.int .i64 rk, .int .u64 (rh:Int), .int .u64 0, .slice none 0 0, .int .i64 0, .int .i64 0, .int .i64 0, .int .i64 0, .int .i64 0] 50 (0,0)):=by rw[<-hw7];exact heap_setCell_same w6 w2.heap.size 0 _ _ _ n6
 have m7:w7.heap[w1.heap.size]?=some (.cells rp0 50 (0,0)):=by rw[<-hw7];exact(Below.heap_setCell w6 ⟨w2.heap.size,0,none⟩ _ w1.heap.size HD.out.ne).trans m6
 have t7:Tch (fun k=>k=w2.heap.size) w6 w7:=by rw[<-hw7];exact Tch.set (S:=fun k=>k=w2.heap.size) w6 ⟨w2.heap.size,0,none⟩ _ rfl
 have tf:Tch (fun k=>k=w1.heap.size\/k=w2.heap.size) w4 (anB w7 w1.heap.size (.int .i64 rk) (.int .u64 (rh:Int)) (.int .u64 0) (.slice none 0 0) (.int .i64 0) (.int .i64 0) (.int .i64 0) (.int .i64 0) (.int .i64 0)):=
  (((((Tch.refl (fun k=>k=w1.heap.size\/k=w2.heap.size) w4).trans HT5.out (fun _ _ e=> .inr e)).trans (Tch.of_below (S:=fun _=>False) hb6) (fun _ _ h=>h.elim)).trans t7 (fun _ _ e=> .inr e)).trans (acy w7 w1.heap.size (.int .i64 rk) (.int .u64 (rh:Int)) (.int .u64 0) (.slice none 0 0) (.int .i64 0) (.int .i64 0) (.int .i64 0) (.int .i64 0) (.int .i64 0)) (fun _ _ e=> .inl e))
 have TF:=hE0 tf;have MF:=hE0 (aeT m7 (.int .i64 rk) (.int .u64 (rh:Int)) (.int .u64 0) (.slice none 0 0) (.int .i64 0) (.int .i64 0) (.int .i64 0) (.int .i64 0) (.int .i64 0));clear y0 y1 y2 y3 y4 y5 y6 y7 y8 f0 f1 f2 f3 f4 f5 f6 f7 f8 hy;obtain⟨⟨y0,y1,y2,y3,y4,y5,y6,y7,y8⟩,f0,f1,f2,f3,f4,f5,f6,f7,f8⟩:=aas n6;have hy6:=aaa n6;have HW7:=hE0 hw7;obtain⟨⟨u0,u1,u2,u3,u4,u5,u6,u7,u8⟩,_⟩:=aas n7;have hy7:=aaa n7;obtain⟨⟨v0,v1,v2,v3,v4,v5,v6,v7,v8⟩,e0,e1,e2,e3,e4,e5,e6,e7,e8⟩:=aas m7;have hm7:=aaa m7;clear hb6 n6 m6 hw7 n7 m7 t7 tf HNM HT5 HN5 HM5;go_wp2_with (first | (rw[HW7.out]) | fail)
 (try simp only[Exit.inBlock,Exit.then])
 refine adv (g:=w1.heap.size) Tryz.results20 ?_ ?_ MF.out ?_
 · rfl
 · rfl
 · exact⟨⟨none,0,rfl,World.ownsRow_nil _ _ _ _⟩,HT4.out.ends HM4.out HM45.out HD.out.l4 HD.out.l5 TF.out⟩
theorem ava{w:World}{q g base cap c:Nat}{A:Option Addr}{bs:List UInt8}{H:Hp}(h:PH w q g base cap A c bs H) (hE:ET w) (h0:¬foot g A 0) (p n m a bl k:Nat) (B:Option Addr) (b:List UInt8) (hn:n<18446744073709551616):
 Calls Tryz.prog 20 #[.pointer (some ⟨q,0,none⟩),abj 1 p n m a B bl k] w fun e w'=>ada (H.doC 1 p n m a b).1 w e w'/\PTurn g base cap A (H.doC 1 p n m a b).2 w w':=
 arP h hE h0 p n m a bl k B b (fun _ hb=>alp (h.below hb) n hn) fun _ hE=>abJ hE _
theorem avb{w:World}{q g base cap c:Nat}{A:Option Addr}{bs:List UInt8}{H:Hp}(h:PH w q g base cap A c bs H) (hE:ET w) (h0:¬foot g A 0) (p n m a bl k:Nat) (B:Option Addr) (b:List UInt8) (hn:n<18446744073709551616) (hm:m<18446744073709551616):
 Calls Tryz.prog 20 #[.pointer (some ⟨q,0,none⟩),abj 2 p n m a B bl k] w fun e w'=>ada (H.doC 2 p n m a b).1 w e w'/\PTurn g base cap A (H.doC 2 p n m a b).2 w w':=by
 rw[atp];unfold abj;have hd:=Do3.made w #[.int .i64 2, .int .u64 (p:Int), .int .u64 (n:Int), .int .u64 (m:Int), .int .u64 (a:Int), .slice B bl k];obtain⟨w1,hw1⟩:=nmE (w.alloc (.cells #[.int .i64 2, .int .u64 (p:Int), .int .u64 (n:Int), .int .u64 (m:Int), .int .u64 (a:Int), .slice B bl k] 43));rw[hw1]at hd;obtain⟨w2,hw2⟩:=nmE (w1.alloc (.cells rp0 50));rw[hw2]at hd;obtain⟨w3,hw3⟩:=nmE (w2.alloc (.cells rp0 50));rw[hw3]at hd;unfold rp0 at hw2 hw3;obtain⟨z0,z1,z2,z3,z4,z5⟩:=aa8 hd.n3;have hz:=aaa hd.n3;have h3:=h.below hd.bel;have hk:∀k,w.heap.size<=k->¬foot g A k:=fun k hk hf=>by have:=h.ar.foot_lt hf;omega
 have hO:=ajZ h3 n m hn hm;obtain⟨r,hr⟩:=nmE (H.calloc n m);rw[hr]at hO ⊢;obtain⟨⟨rh,rk⟩,H'⟩:=r;dsimp only[afA]at hO;dsimp only[apv];have HO:=hE0 hO;have HD:=hE0 hd;have HH:=hE0 h;have HK:=hE0 hk;have HW1:=hE0 hw1;have HW2:=hE0 hw2;have HW3:=hE0 hw3;have HE:=hE0 hE;have H00:=hE0 h0;clear h hd h3 hE hk hw1 hw2 hw3 h0 hO hr;go_enter Tryz.func20,Tryz.ntmps20
 go_wp2_with (first | (rw[HW1.out]) | (rw[HW2.out]) | (rw[HW3.out]) | fail)
 refine HO.out.mono ?_;rintro e w4 ⟨rfl,ht⟩;have T4:PTurn g base cap A H' w w4:=ht.after HD.out.bel;have E4:ET w4:=HE.out.keep (T4.tch.block 0 HE.out.lt H00.out);have t34:Tch (foot g A) w3 w4:=ht.tch;have m4:=(t34.block _ (aae HD.out.n4) (HK.out _ HD.out.l4)).trans HD.out.n4;have m5:=(t34.block _ (aae HD.out.n5) (HK.out _ HD.out.l5)).trans HD.out.n5;obtain⟨⟨y0,y1,y2,y3,y4,y5,y6,y7,y8⟩,f0,f1,f2,f3,f4,f5,f6,f7,f8⟩:=aas m5;have hy:=aaa m5;clear z0 z1 z2 z3 z4 z5 hz HO t34;obtain⟨w5,hw5⟩:=nmE (w4.setCell ⟨w2.heap.size,1,none⟩ (.int .u64 (rh:Int)));have n5:w5.heap[w2.heap.size]?=some (.cells #[.int .i64 0, .int .u64 (rh:Int), .int .u64 0, .slice none 0 0, .int .i64 0, .int .i64 0, .int .i64 0, .int .i64 0, .int .i64 0] 50 (0,0)):=by rw[<-hw5];exact heap_setCell_same w4 w2.heap.size 1 _ _ _ m5
 have t5:Tch (fun k=>k=w2.heap.size) w4 w5:=by rw[<-hw5];exact Tch.set (S:=fun k=>k=w2.heap.size) w4 ⟨w2.heap.size,1,none⟩ _ rfl
 have HW5:=hE0 hw5;clear hw5;have E5:ET w5:=E4.keep (t5.block 0 E4.lt (fun e=>by
  have e:0=w2.heap.size:=e;have h1:=HD.out.l5;have h2:=HE.out.lt;omega))
 have m5':w5.heap[w1.heap.size]?=some (.cells rp0 50 (0,0)):=(t5.block _ (aae m4) HD.out.ne).trans m4;have HNM:=hE0 (abJ E5 rk);have HT5:=hE0 t5;have HN5:=hE0 n5;have HM5:=hE0 m5';have HM4:=hE0 m4;have HM45:=hE0 m5;have HT4:=hE0 T4;clear E4 E5 m4 m5 m5' n5 t5 T4;go_wp2_with (first | (rw[HW5.out]) | fail)
 refine HNM.out.mono ?_;rintro e w6 ⟨rfl,hb6⟩;have n6:=(hb6.block _ (aae HN5.out)).trans HN5.out;have m6:=(hb6.block _ (aae HM5.out)).trans HM5.out;obtain⟨w7,hw7⟩:=nmE (w6.setCell ⟨w2.heap.size,0,none⟩ (.int .i64 rk));have n7:w7.heap[w2.heap.size]?=some (.cells #[.int .i64 rk, .int .u64 (rh:Int), .int .u64 0, .slice none 0 0, .int .i64 0, .int .i64 0, .int .i64 0, .int .i64 0, .int .i64 0] 50 (0,0)):=by rw[<-hw7];exact heap_setCell_same w6 w2.heap.size 0 _ _ _ n6
 have m7:w7.heap[w1.heap.size]?=some (.cells rp0 50 (0,0)):=by rw[<-hw7];exact(Below.heap_setCell w6 ⟨w2.heap.size,0,none⟩ _ w1.heap.size HD.out.ne).trans m6
 have t7:Tch (fun k=>k=w2.heap.size) w6 w7:=by rw[<-hw7];exact Tch.set (S:=fun k=>k=w2.heap.size) w6 ⟨w2.heap.size,0,none⟩ _ rfl
 have tf:Tch (fun k=>k=w1.heap.size\/k=w2.heap.size) w4 (anB w7 w1.heap.size (.int .i64 rk) (.int .u64 (rh:Int)) (.int .u64 0) (.slice none 0 0) (.int .i64 0) (.int .i64 0) (.int .i64 0) (.int .i64 0) (.int .i64 0)):=
  (((((Tch.refl (fun k=>k=w1.heap.size\/k=w2.heap.size) w4).trans HT5.out (fun _ _ e=> .inr e)).trans (Tch.of_below (S:=fun _=>False) hb6) (fun _ _ h=>h.elim)).trans t7 (fun _ _ e=> .inr e)).trans (acy w7 w1.heap.size (.int .i64 rk) (.int .u64 (rh:Int)) (.int .u64 0) (.slice none 0 0) (.int .i64 0) (.int .i64 0) (.int .i64 0) (.int .i64 0) (.int .i64 0)) (fun _ _ e=> .inl e))
 have TF:=hE0 tf;have MF:=hE0 (aeT m7 (.int .i64 rk) (.int .u64 (rh:Int)) (.int .u64 0) (.slice none 0 0) (.int .i64 0) (.int .i64 0) (.int .i64 0) (.int .i64 0) (.int .i64 0));clear y0 y1 y2 y3 y4 y5 y6 y7 y8 f0 f1 f2 f3 f4 f5 f6 f7 f8 hy;obtain⟨⟨y0,y1,y2,y3,y4,y5,y6,y7,y8⟩,f0,f1,f2,f3,f4,f5,f6,f7,f8⟩:=aas n6;have hy6:=aaa n6;have HW7:=hE0 hw7;obtain⟨⟨u0,u1,u2,u3,u4,u5,u6,u7,u8⟩,_⟩:=aas n7;have hy7:=aaa n7;obtain⟨⟨v0,v1,v2,v3,v4,v5,v6,v7,v8⟩,e0,e1,e2,e3,e4,e5,e6,e7,e8⟩:=aas m7;have hm7:=aaa m7;clear hb6 n6 m6 hw7 n7 m7 t7 tf HNM HT5 HN5 HM5;go_wp2_with (first | (rw[HW7.out]) | fail)
 (try simp only[Exit.inBlock,Exit.then])
 refine adv (g:=w1.heap.size) Tryz.results20 ?_ ?_ MF.out ?_
 · rfl
 · rfl
 · exact⟨⟨none,0,rfl,World.ownsRow_nil _ _ _ _⟩,HT4.out.ends HM4.out HM45.out HD.out.l4 HD.out.l5 TF.out⟩
theorem avc{w:World}{q g base cap c:Nat}{A:Option Addr}{bs:List UInt8}{H:Hp}(h:PH w q g base cap A c bs H) (hE:ET w) (h0:¬foot g A 0) (p n m a bl k:Nat) (B:Option Addr) (b:List UInt8) (hp:p<18446744073709551616):
 Calls Tryz.prog 20 #[.pointer (some ⟨q,0,none⟩),abj 3 p n m a B bl k] w fun e w'=>ada (H.doC 3 p n m a b).1 w e w'/\PTurn g base cap A (H.doC 3 p n m a b).2 w w':=by
 rw[apZ];unfold abj;have hd:=Do3.made w #[.int .i64 3, .int .u64 (p:Int), .int .u64 (n:Int), .int .u64 (m:Int), .int .u64 (a:Int), .slice B bl k];obtain⟨w1,hw1⟩:=nmE (w.alloc (.cells #[.int .i64 3, .int .u64 (p:Int), .int .u64 (n:Int), .int .u64 (m:Int), .int .u64 (a:Int), .slice B bl k] 43));rw[hw1]at hd;obtain⟨w2,hw2⟩:=nmE (w1.alloc (.cells rp0 50));rw[hw2]at hd;obtain⟨w3,hw3⟩:=nmE (w2.alloc (.cells rp0 50));rw[hw3]at hd;unfold rp0 at hw2 hw3;obtain⟨z0,z1,z2,z3,z4,z5⟩:=aa8 hd.n3;have hz:=aaa hd.n3;have h3:=h.below hd.bel;have hk:∀k,w.heap.size<=k->¬foot g A k:=fun k hk hf=>by have:=h.ar.foot_lt hf;omega
 have hO:=apR h3 p hp;obtain⟨r,hr⟩:=nmE (H.freeP p);rw[hr]at hO ⊢;obtain⟨rk,H'⟩:=r;dsimp only at hO;dsimp only[Rp.err];have HO:=hE0 hO;have HD:=hE0 hd;have HH:=hE0 h;have HK:=hE0 hk;have HW1:=hE0 hw1;have HW2:=hE0 hw2;have HW3:=hE0 hw3;have HE:=hE0 hE;have H00:=hE0 h0;clear h hd h3 hE hk hw1 hw2 hw3 h0 hO hr;go_enter Tryz.func20,Tryz.ntmps20
 go_wp2_with (first | (rw[HW1.out]) | (rw[HW2.out]) | (rw[HW3.out]) | fail)
 refine HO.out.mono ?_;rintro e w4 ⟨rfl,ht⟩;have T4:PTurn g base cap A H' w w4:=ht.after HD.out.bel;have E4:ET w4:=HE.out.keep (T4.tch.block 0 HE.out.lt H00.out);have t34:Tch (foot g A) w3 w4:=ht.tch;have m4:=(t34.block _ (aae HD.out.n4) (HK.out _ HD.out.l4)).trans HD.out.n4;have m5:=(t34.block _ (aae HD.out.n5) (HK.out _ HD.out.l5)).trans HD.out.n5;obtain⟨⟨y0,y1,y2,y3,y4,y5,y6,y7,y8⟩,f0,f1,f2,f3,f4,f5,f6,f7,f8⟩:=aas m5;have hy:=aaa m5;clear z0 z1 z2 z3 z4 z5 hz HO t34;have n5:w4.heap[w2.heap.size]?=some (.cells #[.int .i64 0, .int .u64 0, .int .u64 0, .slice none 0 0, .int .i64 0, .int .i64 0, .int .i64 0, .int .i64 0, .int .i64 0] 50 (0,0)):=m5;have t5:Tch (fun k=>k=w2.heap.size) w4 w4:=Tch.refl _ _;have E5:ET w4:=E4.keep (t5.block 0 E4.lt (fun e=>by
  have e:0=w2.heap.size:=e;have h1:=HD.out.l5;have h2:=HE.out.lt;omega))
 have m5':w4.heap[w1.heap.size]?=some (.cells rp0 50 (0,0)):=(t5.block _ (aae m4) HD.out.ne).trans m4;have HNM:=hE0 (abJ E5 rk);have HT5:=hE0 t5;have HN5:=hE0 n5;have HM5:=hE0 m5';have HM4:=hE0 m4;have HM45:=hE0 m5;have HT4:=hE0 T4;clear E4 E5 m4 m5 m5' n5 t5 T4;go_wp2_with fail
 refine HNM.out.mono ?_;rintro e w6 ⟨rfl,hb6⟩;have n6:=(hb6.block _ (aae HN5.out)).trans HN5.out;have m6:=(hb6.block _ (aae HM5.out)).trans HM5.out;obtain⟨w7,hw7⟩:=nmE (w6.setCell ⟨w2.heap.size,0,none⟩ (.int .i64 rk));have n7:w7.heap[w2.heap.size]?=some (.cells #[.int .i64 rk, .int .u64 0, .int .u64 0, .slice none 0 0, .int .i64 0, .int .i64 0, .int .i64 0, .int .i64 0, .int .i64 0] 50 (0,0)):=by rw[<-hw7];exact heap_setCell_same w6 w2.heap.size 0 _ _ _ n6
 have m7:w7.heap[w1.heap.size]?=some (.cells rp0 50 (0,0)):=by rw[<-hw7];exact(Below.heap_setCell w6 ⟨w2.heap.size,0,none⟩ _ w1.heap.size HD.out.ne).trans m6
 have t7:Tch (fun k=>k=w2.heap.size) w6 w7:=by rw[<-hw7];exact Tch.set (S:=fun k=>k=w2.heap.size) w6 ⟨w2.heap.size,0,none⟩ _ rfl
 have tf:Tch (fun k=>k=w1.heap.size\/k=w2.heap.size) w4 (anB w7 w1.heap.size (.int .i64 rk) (.int .u64 0) (.int .u64 0) (.slice none 0 0) (.int .i64 0) (.int .i64 0) (.int .i64 0) (.int .i64 0) (.int .i64 0)):=
  (((((Tch.refl (fun k=>k=w1.heap.size\/k=w2.heap.size) w4).trans HT5.out (fun _ _ e=> .inr e)).trans (Tch.of_below (S:=fun _=>False) hb6) (fun _ _ h=>h.elim)).trans t7 (fun _ _ e=> .inr e)).trans (acy w7 w1.heap.size (.int .i64 rk) (.int .u64 0) (.int .u64 0) (.slice none 0 0) (.int .i64 0) (.int .i64 0) (.int .i64 0) (.int .i64 0) (.int .i64 0)) (fun _ _ e=> .inl e))
 have TF:=hE0 tf;have MF:=hE0 (aeT m7 (.int .i64 rk) (.int .u64 0) (.int .u64 0) (.slice none 0 0) (.int .i64 0) (.int .i64 0) (.int .i64 0) (.int .i64 0) (.int .i64 0));clear y0 y1 y2 y3 y4 y5 y6 y7 y8 f0 f1 f2 f3 f4 f5 f6 f7 f8 hy;obtain⟨⟨y0,y1,y2,y3,y4,y5,y6,y7,y8⟩,f0,f1,f2,f3,f4,f5,f6,f7,f8⟩:=aas n6;have hy6:=aaa n6;have HW7:=hE0 hw7;obtain⟨⟨u0,u1,u2,u3,u4,u5,u6,u7,u8⟩,_⟩:=aas n7;have hy7:=aaa n7;obtain⟨⟨v0,v1,v2,v3,v4,v5,v6,v7,v8⟩,e0,e1,e2,e3,e4,e5,e6,e7,e8⟩:=aas m7;have hm7:=aaa m7;clear hb6 n6 m6 hw7 n7 m7 t7 tf HNM HT5 HN5 HM5;go_wp2_with (first | (rw[HW7.out]) | fail)
 (try simp only[Exit.inBlock,Exit.then])
 refine adv (g:=w1.heap.size) Tryz.results20 ?_ ?_ MF.out ?_
 · rfl
 · rfl
 · exact⟨⟨none,0,rfl,World.ownsRow_nil _ _ _ _⟩,HT4.out.ends HM4.out HM45.out HD.out.l4 HD.out.l5 TF.out⟩
theorem avd{w:World}{q g base cap c:Nat}{A:Option Addr}{bs:List UInt8}{H:Hp}(h:PH w q g base cap A c bs H) (hE:ET w) (h0:¬foot g A 0) (p n m a bl k:Nat) (B:Option Addr) (b:List UInt8) (hp:p<18446744073709551616) (hn:n<18446744073709551616):
 Calls Tryz.prog 20 #[.pointer (some ⟨q,0,none⟩),abj 4 p n m a B bl k] w fun e w'=>ada (H.doC 4 p n m a b).1 w e w'/\PTurn g base cap A (H.doC 4 p n m a b).2 w w':=by
 rw[atq];unfold abj;have hd:=Do3.made w #[.int .i64 4, .int .u64 (p:Int), .int .u64 (n:Int), .int .u64 (m:Int), .int .u64 (a:Int), .slice B bl k];obtain⟨w1,hw1⟩:=nmE (w.alloc (.cells #[.int .i64 4, .int .u64 (p:Int), .int .u64 (n:Int), .int .u64 (m:Int), .int .u64 (a:Int), .slice B bl k] 43));rw[hw1]at hd;obtain⟨w2,hw2⟩:=nmE (w1.alloc (.cells rp0 50));rw[hw2]at hd;obtain⟨w3,hw3⟩:=nmE (w2.alloc (.cells rp0 50));rw[hw3]at hd;unfold rp0 at hw2 hw3;obtain⟨z0,z1,z2,z3,z4,z5⟩:=aa8 hd.n3;have hz:=aaa hd.n3;have h3:=h.below hd.bel;have hk:∀k,w.heap.size<=k->¬foot g A k:=fun k hk hf=>by have:=h.ar.foot_lt hf;omega
 have hO:=aiH h3 p n hp hn;obtain⟨r,hr⟩:=nmE (H.realloc p n);rw[hr]at hO ⊢;obtain⟨⟨rh,rk⟩,H'⟩:=r;dsimp only[afA]at hO;dsimp only[apv];have HO:=hE0 hO;have HD:=hE0 hd;have HH:=hE0 h;have HK:=hE0 hk;have HW1:=hE0 hw1;have HW2:=hE0 hw2;have HW3:=hE0 hw3;have HE:=hE0 hE;have H00:=hE0 h0;clear h hd h3 hE hk hw1 hw2 hw3 h0 hO hr;go_enter Tryz.func20,Tryz.ntmps20
 go_wp2_with (first | (rw[HW1.out]) | (rw[HW2.out]) | (rw[HW3.out]) | fail)
 refine HO.out.mono ?_;rintro e w4 ⟨rfl,ht⟩;have T4:PTurn g base cap A H' w w4:=ht.after HD.out.bel;have E4:ET w4:=HE.out.keep (T4.tch.block 0 HE.out.lt H00.out);have t34:Tch (foot g A) w3 w4:=ht.tch;have m4:=(t34.block _ (aae HD.out.n4) (HK.out _ HD.out.l4)).trans HD.out.n4;have m5:=(t34.block _ (aae HD.out.n5) (HK.out _ HD.out.l5)).trans HD.out.n5;obtain⟨⟨y0,y1,y2,y3,y4,y5,y6,y7,y8⟩,f0,f1,f2,f3,f4,f5,f6,f7,f8⟩:=aas m5;have hy:=aaa m5;clear z0 z1 z2 z3 z4 z5 hz HO t34;obtain⟨w5,hw5⟩:=nmE (w4.setCell ⟨w2.heap.size,1,none⟩ (.int .u64 (rh:Int)));have n5:w5.heap[w2.heap.size]?=some (.cells #[.int .i64 0, .int .u64 (rh:Int), .int .u64 0, .slice none 0 0, .int .i64 0, .int .i64 0, .int .i64 0, .int .i64 0, .int .i64 0] 50 (0,0)):=by rw[<-hw5];exact heap_setCell_same w4 w2.heap.size 1 _ _ _ m5
 have t5:Tch (fun k=>k=w2.heap.size) w4 w5:=by rw[<-hw5];exact Tch.set (S:=fun k=>k=w2.heap.size) w4 ⟨w2.heap.size,1,none⟩ _ rfl
 have HW5:=hE0 hw5;clear hw5;have E5:ET w5:=E4.keep (t5.block 0 E4.lt (fun e=>by
  have e:0=w2.heap.size:=e;have h1:=HD.out.l5;have h2:=HE.out.lt;omega))
 have m5':w5.heap[w1.heap.size]?=some (.cells rp0 50 (0,0)):=(t5.block _ (aae m4) HD.out.ne).trans m4;have HNM:=hE0 (abJ E5 rk);have HT5:=hE0 t5;have HN5:=hE0 n5;have HM5:=hE0 m5';have HM4:=hE0 m4;have HM45:=hE0 m5;have HT4:=hE0 T4;clear E4 E5 m4 m5 m5' n5 t5 T4;go_wp2_with (first | (rw[HW5.out]) | fail)
 refine HNM.out.mono ?_;rintro e w6 ⟨rfl,hb6⟩;have n6:=(hb6.block _ (aae HN5.out)).trans HN5.out;have m6:=(hb6.block _ (aae HM5.out)).trans HM5.out;obtain⟨w7,hw7⟩:=nmE (w6.setCell ⟨w2.heap.size,0,none⟩ (.int .i64 rk));have n7:w7.heap[w2.heap.size]?=some (.cells #[.int .i64 rk, .int .u64 (rh:Int), .int .u64 0, .slice none 0 0, .int .i64 0, .int .i64 0, .int .i64 0, .int .i64 0, .int .i64 0] 50 (0,0)):=by rw[<-hw7];exact heap_setCell_same w6 w2.heap.size 0 _ _ _ n6
 have m7:w7.heap[w1.heap.size]?=some (.cells rp0 50 (0,0)):=by rw[<-hw7];exact(Below.heap_setCell w6 ⟨w2.heap.size,0,none⟩ _ w1.heap.size HD.out.ne).trans m6
 have t7:Tch (fun k=>k=w2.heap.size) w6 w7:=by rw[<-hw7];exact Tch.set (S:=fun k=>k=w2.heap.size) w6 ⟨w2.heap.size,0,none⟩ _ rfl
 have tf:Tch (fun k=>k=w1.heap.size\/k=w2.heap.size) w4 (anB w7 w1.heap.size (.int .i64 rk) (.int .u64 (rh:Int)) (.int .u64 0) (.slice none 0 0) (.int .i64 0) (.int .i64 0) (.int .i64 0) (.int .i64 0) (.int .i64 0)):=
  (((((Tch.refl (fun k=>k=w1.heap.size\/k=w2.heap.size) w4).trans HT5.out (fun _ _ e=> .inr e)).trans (Tch.of_below (S:=fun _=>False) hb6) (fun _ _ h=>h.elim)).trans t7 (fun _ _ e=> .inr e)).trans (acy w7 w1.heap.size (.int .i64 rk) (.int .u64 (rh:Int)) (.int .u64 0) (.slice none 0 0) (.int .i64 0) (.int .i64 0) (.int .i64 0) (.int .i64 0) (.int .i64 0)) (fun _ _ e=> .inl e))
 have TF:=hE0 tf;have MF:=hE0 (aeT m7 (.int .i64 rk) (.int .u64 (rh:Int)) (.int .u64 0) (.slice none 0 0) (.int .i64 0) (.int .i64 0) (.int .i64 0) (.int .i64 0) (.int .i64 0));clear y0 y1 y2 y3 y4 y5 y6 y7 y8 f0 f1 f2 f3 f4 f5 f6 f7 f8 hy;obtain⟨⟨y0,y1,y2,y3,y4,y5,y6,y7,y8⟩,f0,f1,f2,f3,f4,f5,f6,f7,f8⟩:=aas n6;have hy6:=aaa n6;have HW7:=hE0 hw7;obtain⟨⟨u0,u1,u2,u3,u4,u5,u6,u7,u8⟩,_⟩:=aas n7;have hy7:=aaa n7;obtain⟨⟨v0,v1,v2,v3,v4,v5,v6,v7,v8⟩,e0,e1,e2,e3,e4,e5,e6,e7,e8⟩:=aas m7;have hm7:=aaa m7;clear hb6 n6 m6 hw7 n7 m7 t7 tf HNM HT5 HN5 HM5;go_wp2_with (first | (rw[HW7.out]) | fail)
 (try simp only[Exit.inBlock,Exit.then])
 refine adv (g:=w1.heap.size) Tryz.results20 ?_ ?_ MF.out ?_
 · rfl
 · rfl
 · exact⟨⟨none,0,rfl,World.ownsRow_nil _ _ _ _⟩,HT4.out.ends HM4.out HM45.out HD.out.l4 HD.out.l5 TF.out⟩
theorem ave{w:World}{q g base cap c:Nat}{A:Option Addr}{bs:List UInt8}{H:Hp}(h:PH w q g base cap A c bs H) (hE:ET w) (h0:¬foot g A 0) (p n m a bl k:Nat) (B:Option Addr) (b:List UInt8) (hp:p<18446744073709551616):
 Calls Tryz.prog 20 #[.pointer (some ⟨q,0,none⟩),abj 5 p n m a B bl k] w fun e w'=>ada (H.doC 5 p n m a b).1 w e w'/\PTurn g base cap A (H.doC 5 p n m a b).2 w w':=by
 rw[atr];unfold abj;have hd:=Do3.made w #[.int .i64 5, .int .u64 (p:Int), .int .u64 (n:Int), .int .u64 (m:Int), .int .u64 (a:Int), .slice B bl k];obtain⟨w1,hw1⟩:=nmE (w.alloc (.cells #[.int .i64 5, .int .u64 (p:Int), .int .u64 (n:Int), .int .u64 (m:Int), .int .u64 (a:Int), .slice B bl k] 43));rw[hw1]at hd;obtain⟨w2,hw2⟩:=nmE (w1.alloc (.cells rp0 50));rw[hw2]at hd;obtain⟨w3,hw3⟩:=nmE (w2.alloc (.cells rp0 50));rw[hw3]at hd;unfold rp0 at hw2 hw3;obtain⟨z0,z1,z2,z3,z4,z5⟩:=aa8 hd.n3;have hz:=aaa hd.n3;have h3:=h.below hd.bel;have hk:∀k,w.heap.size<=k->¬foot g A k:=fun k hk hf=>by have:=h.ar.foot_lt hf;omega
 have hO:=aj0 h3 p hp;obtain⟨r,hr⟩:=nmE (H.usableP p);rw[hr]at hO ⊢;obtain⟨rh,rk⟩:=r;dsimp only at hO;dsimp only;have HO:=hE0 hO;have HD:=hE0 hd;have HH:=hE0 h;have HK:=hE0 hk;have HW1:=hE0 hw1;have HW2:=hE0 hw2;have HW3:=hE0 hw3;have HE:=hE0 hE;have H00:=hE0 h0;clear h hd h3 hE hk hw1 hw2 hw3 h0 hO hr;go_enter Tryz.func20,Tryz.ntmps20
 go_wp2_with (first | (rw[HW1.out]) | (rw[HW2.out]) | (rw[HW3.out]) | fail)
 refine HO.out.mono ?_;rintro e w4 ⟨rfl,hb4⟩;have T4:PTurn g base cap A H w w4:=HH.out.stay (HD.out.bel.trans (hb4.mono HD.out.bel.size));have E4:ET w4:=HE.out.keep (T4.tch.block 0 HE.out.lt H00.out);have t34:Tch (foot g A) w3 w4:=Tch.of_below hb4;have m4:=(t34.block _ (aae HD.out.n4) (HK.out _ HD.out.l4)).trans HD.out.n4;have m5:=(t34.block _ (aae HD.out.n5) (HK.out _ HD.out.l5)).trans HD.out.n5;obtain⟨⟨y0,y1,y2,y3,y4,y5,y6,y7,y8⟩,f0,f1,f2,f3,f4,f5,f6,f7,f8⟩:=aas m5;have hy:=aaa m5;clear z0 z1 z2 z3 z4 z5 hz HO t34;obtain⟨w5,hw5⟩:=nmE (w4.setCell ⟨w2.heap.size,2,none⟩ (.int .u64 (rh:Int)));have n5:w5.heap[w2.heap.size]?=some (.cells #[.int .i64 0, .int .u64 0, .int .u64 (rh:Int), .slice none 0 0, .int .i64 0, .int .i64 0, .int .i64 0, .int .i64 0, .int .i64 0] 50 (0,0)):=by rw[<-hw5];exact heap_setCell_same w4 w2.heap.size 2 _ _ _ m5
 have t5:Tch (fun k=>k=w2.heap.size) w4 w5:=by rw[<-hw5];exact Tch.set (S:=fun k=>k=w2.heap.size) w4 ⟨w2.heap.size,2,none⟩ _ rfl
 have HW5:=hE0 hw5;clear hw5;have E5:ET w5:=E4.keep (t5.block 0 E4.lt (fun e=>by
  have e:0=w2.heap.size:=e;have h1:=HD.out.l5;have h2:=HE.out.lt;omega))
 have m5':w5.heap[w1.heap.size]?=some (.cells rp0 50 (0,0)):=(t5.block _ (aae m4) HD.out.ne).trans m4;have HNM:=hE0 (abJ E5 rk);have HT5:=hE0 t5;have HN5:=hE0 n5;have HM5:=hE0 m5';have HM4:=hE0 m4;have HM45:=hE0 m5;have HT4:=hE0 T4;clear E4 E5 m4 m5 m5' n5 t5 T4;go_wp2_with (first | (rw[HW5.out]) | fail)
 refine HNM.out.mono ?_;rintro e w6 ⟨rfl,hb6⟩;have n6:=(hb6.block _ (aae HN5.out)).trans HN5.out;have m6:=(hb6.block _ (aae HM5.out)).trans HM5.out;obtain⟨w7,hw7⟩:=nmE (w6.setCell ⟨w2.heap.size,0,none⟩ (.int .i64 rk));have n7:w7.heap[w2.heap.size]?=some (.cells #[.int .i64 rk, .int .u64 0, .int .u64 (rh:Int), .slice none 0 0, .int .i64 0, .int .i64 0, .int .i64 0, .int .i64 0, .int .i64 0] 50 (0,0)):=by rw[<-hw7];exact heap_setCell_same w6 w2.heap.size 0 _ _ _ n6
 have m7:w7.heap[w1.heap.size]?=some (.cells rp0 50 (0,0)):=by rw[<-hw7];exact(Below.heap_setCell w6 ⟨w2.heap.size,0,none⟩ _ w1.heap.size HD.out.ne).trans m6
 have t7:Tch (fun k=>k=w2.heap.size) w6 w7:=by rw[<-hw7];exact Tch.set (S:=fun k=>k=w2.heap.size) w6 ⟨w2.heap.size,0,none⟩ _ rfl
 have tf:Tch (fun k=>k=w1.heap.size\/k=w2.heap.size) w4 (anB w7 w1.heap.size (.int .i64 rk) (.int .u64 0) (.int .u64 (rh:Int)) (.slice none 0 0) (.int .i64 0) (.int .i64 0) (.int .i64 0) (.int .i64 0) (.int .i64 0)):=
  (((((Tch.refl (fun k=>k=w1.heap.size\/k=w2.heap.size) w4).trans HT5.out (fun _ _ e=> .inr e)).trans (Tch.of_below (S:=fun _=>False) hb6) (fun _ _ h=>h.elim)).trans t7 (fun _ _ e=> .inr e)).trans (acy w7 w1.heap.size (.int .i64 rk) (.int .u64 0) (.int .u64 (rh:Int)) (.slice none 0 0) (.int .i64 0) (.int .i64 0) (.int .i64 0) (.int .i64 0) (.int .i64 0)) (fun _ _ e=> .inl e))
 have TF:=hE0 tf;have MF:=hE0 (aeT m7 (.int .i64 rk) (.int .u64 0) (.int .u64 (rh:Int)) (.slice none 0 0) (.int .i64 0) (.int .i64 0) (.int .i64 0) (.int .i64 0) (.int .i64 0));clear y0 y1 y2 y3 y4 y5 y6 y7 y8 f0 f1 f2 f3 f4 f5 f6 f7 f8 hy;obtain⟨⟨y0,y1,y2,y3,y4,y5,y6,y7,y8⟩,f0,f1,f2,f3,f4,f5,f6,f7,f8⟩:=aas n6;have hy6:=aaa n6;have HW7:=hE0 hw7;obtain⟨⟨u0,u1,u2,u3,u4,u5,u6,u7,u8⟩,_⟩:=aas n7;have hy7:=aaa n7;obtain⟨⟨v0,v1,v2,v3,v4,v5,v6,v7,v8⟩,e0,e1,e2,e3,e4,e5,e6,e7,e8⟩:=aas m7;have hm7:=aaa m7;clear hb6 n6 m6 hw7 n7 m7 t7 tf HNM HT5 HN5 HM5;go_wp2_with (first | (rw[HW7.out]) | fail)
 (try simp only[Exit.inBlock,Exit.then])
 refine adv (g:=w1.heap.size) Tryz.results20 ?_ ?_ MF.out ?_
 · rfl
 · rfl
 · exact⟨⟨none,0,rfl,World.ownsRow_nil _ _ _ _⟩,HT4.out.ends HM4.out HM45.out HD.out.l4 HD.out.l5 TF.out⟩
theorem auo{w:World}{q g base cap c:Nat}{A:Option Addr}{bs:List UInt8}{H:Hp}(h:PH w q g base cap A c bs H) (hE:ET w) (h0:¬foot g A 0) (p n m a bl k:Nat) (B:Option Addr) (b:List UInt8) (hp:p<18446744073709551616) (ha:a<18446744073709551616) (hn:n<18446744073709551616):
 Calls Tryz.prog 20 #[.pointer (some ⟨q,0,none⟩),abj 6 p n m a B bl k] w fun e w'=>ada (H.doC 6 p n m a b).1 w e w'/\PTurn g base cap A (H.doC 6 p n m a b).2 w w'/\Below w.heap.size w w':=by
 rw[arN];unfold abj;have hd:=Do3.made w #[.int .i64 6, .int .u64 (p:Int), .int .u64 (n:Int), .int .u64 (m:Int), .int .u64 (a:Int), .slice B bl k];obtain⟨w1,hw1⟩:=nmE (w.alloc (.cells #[.int .i64 6, .int .u64 (p:Int), .int .u64 (n:Int), .int .u64 (m:Int), .int .u64 (a:Int), .slice B bl k] 43));rw[hw1]at hd;obtain⟨w2,hw2⟩:=nmE (w1.alloc (.cells rp0 50));rw[hw2]at hd;obtain⟨w3,hw3⟩:=nmE (w2.alloc (.cells rp0 50));rw[hw3]at hd;unfold rp0 at hw2 hw3;obtain⟨z0,z1,z2,z3,z4,z5⟩:=aa8 hd.n3;have hz:=aaa hd.n3;have h3:=h.below hd.bel;have hk:∀k,w.heap.size<=k->¬foot g A k:=fun k hk hf=>by have:=h.ar.foot_lt hf;omega
 have hO:=apV h3 p a n hp ha hn;obtain⟨r,hr⟩:=nmE (H.readP p a n);rw[hr]at hO ⊢;obtain⟨rb,rk⟩:=r;unfold PBytes at hO;dsimp only at hO;dsimp only;have hbs:=hd.bel.size;have HO:=hE0 hO;have HD:=hE0 hd;have HH:=hE0 h;have HK:=hE0 hk;have HW1:=hE0 hw1;have HW2:=hE0 hw2;have HW3:=hE0 hw3;have HE:=hE0 hE;have H00:=hE0 h0;clear h hd h3 hE hk hw1 hw2 hw3 h0 hO hr;go_enter Tryz.func20,Tryz.ntmps20
 go_wp2_with (first | (rw[HW1.out]) | (rw[HW2.out]) | (rw[HW3.out]) | fail)
 refine HO.out.mono ?_;rintro e w4 ⟨A',c',rfl,ho,hb4⟩;have BW4:=hE0 (HD.out.bel.trans (hb4.mono HD.out.bel.size));have T4:PTurn g base cap A H w w4:=HH.out.stay (HD.out.bel.trans (hb4.mono HD.out.bel.size));have E4:ET w4:=HE.out.keep (T4.tch.block 0 HE.out.lt H00.out);have t34:Tch (foot g A) w3 w4:=Tch.of_below hb4;have m4:=(t34.block _ (aae HD.out.n4) (HK.out _ HD.out.l4)).trans HD.out.n4;have m5:=(t34.block _ (aae HD.out.n5) (HK.out _ HD.out.l5)).trans HD.out.n5;obtain⟨⟨y0,y1,y2,y3,y4,y5,y6,y7,y8⟩,f0,f1,f2,f3,f4,f5,f6,f7,f8⟩:=aas m5;have hy:=aaa m5;clear z0 z1 z2 z3 z4 z5 hz HO t34;obtain⟨w5,hw5⟩:=nmE (w4.setCell ⟨w2.heap.size,3,none⟩ (.slice A' rb.length c'));have n5:w5.heap[w2.heap.size]?=some (.cells #[.int .i64 0, .int .u64 0, .int .u64 0, .slice A' rb.length c', .int .i64 0, .int .i64 0, .int .i64 0, .int .i64 0, .int .i64 0] 50 (0,0)):=by rw[<-hw5];exact heap_setCell_same w4 w2.heap.size 3 _ _ _ m5
 have t5:Tch (fun k=>k=w2.heap.size) w4 w5:=by rw[<-hw5];exact Tch.set (S:=fun k=>k=w2.heap.size) w4 ⟨w2.heap.size,3,none⟩ _ rfl
 have HW5:=hE0 hw5;clear hw5;have E5:ET w5:=E4.keep (t5.block 0 E4.lt (fun e=>by
  have e:0=w2.heap.size:=e;have h1:=HD.out.l5;have h2:=HE.out.lt;omega))
 have m5':w5.heap[w1.heap.size]?=some (.cells rp0 50 (0,0)):=(t5.block _ (aae m4) HD.out.ne).trans m4;have HNM:=hE0 (abJ E5 rk);have HT5:=hE0 t5;have HN5:=hE0 n5;have HM5:=hE0 m5';have HM4:=hE0 m4;have HM45:=hE0 m5;have HT4:=hE0 T4;clear E4 E5 m4 m5 m5' n5 t5 T4;go_wp2_with (first | (rw[HW5.out]) | fail)
 refine HNM.out.mono ?_;rintro e w6 ⟨rfl,hb6⟩;have n6:=(hb6.block _ (aae HN5.out)).trans HN5.out;have m6:=(hb6.block _ (aae HM5.out)).trans HM5.out;obtain⟨w7,hw7⟩:=nmE (w6.setCell ⟨w2.heap.size,0,none⟩ (.int .i64 rk));have n7:w7.heap[w2.heap.size]?=some (.cells #[.int .i64 rk, .int .u64 0, .int .u64 0, .slice A' rb.length c', .int .i64 0, .int .i64 0, .int .i64 0, .int .i64 0, .int .i64 0] 50 (0,0)):=by rw[<-hw7];exact heap_setCell_same w6 w2.heap.size 0 _ _ _ n6
 have m7:w7.heap[w1.heap.size]?=some (.cells rp0 50 (0,0)):=by rw[<-hw7];exact(Below.heap_setCell w6 ⟨w2.heap.size,0,none⟩ _ w1.heap.size HD.out.ne).trans m6
 have t7:Tch (fun k=>k=w2.heap.size) w6 w7:=by rw[<-hw7];exact Tch.set (S:=fun k=>k=w2.heap.size) w6 ⟨w2.heap.size,0,none⟩ _ rfl
 have tf:Tch (fun k=>k=w1.heap.size\/k=w2.heap.size) w4 (anB w7 w1.heap.size (.int .i64 rk) (.int .u64 0) (.int .u64 0) (.slice A' rb.length c') (.int .i64 0) (.int .i64 0) (.int .i64 0) (.int .i64 0) (.int .i64 0)):=
  (((((Tch.refl (fun k=>k=w1.heap.size\/k=w2.heap.size) w4).trans HT5.out (fun _ _ e=> .inr e)).trans (Tch.of_below (S:=fun _=>False) hb6) (fun _ _ h=>h.elim)).trans t7 (fun _ _ e=> .inr e)).trans (acy w7 w1.heap.size (.int .i64 rk) (.int .u64 0) (.int .u64 0) (.slice A' rb.length c') (.int .i64 0) (.int .i64 0) (.int .i64 0) (.int .i64 0) (.int .i64 0)) (fun _ _ e=> .inl e))
 have TF:=hE0 tf;have MF:=hE0 (aeT m7 (.int .i64 rk) (.int .u64 0) (.int .u64 0) (.slice A' rb.length c') (.int .i64 0) (.int .i64 0) (.int .i64 0) (.int .i64 0) (.int .i64 0));clear y0 y1 y2 y3 y4 y5 y6 y7 y8 f0 f1 f2 f3 f4 f5 f6 f7 f8 hy;obtain⟨⟨y0,y1,y2,y3,y4,y5,y6,y7,y8⟩,f0,f1,f2,f3,f4,f5,f6,f7,f8⟩:=aas n6;have hy6:=aaa n6;have HW7:=hE0 hw7;obtain⟨⟨u0,u1,u2,u3,u4,u5,u6,u7,u8⟩,_⟩:=aas n7;have hy7:=aaa n7;obtain⟨⟨v0,v1,v2,v3,v4,v5,v6,v7,v8⟩,e0,e1,e2,e3,e4,e5,e6,e7,e8⟩:=aas m7;have hm7:=aaa m7;clear hb6 n6 m6 hw7 n7 m7 t7 tf HNM HT5 HN5 HM5;go_wp2_with (first | (rw[HW7.out]) | fail)
 (try simp only[Exit.inBlock,Exit.then])
 refine adv (g:=w1.heap.size) Tryz.results20 ?_ ?_ MF.out ?_
 · rfl
 · rfl
 · exact⟨⟨A',c',rfl,aj3 (agG ho (fun j e=>TF.out.block j (ho.lt j e).2 (by
    have h1:=(ho.lt j e).1;have h2:=aae HD.out.n4;have h3:=aae HD.out.n5;rintro(rfl | rfl)<;>omega))) hbs⟩,HT4.out.ends HM4.out HM45.out HD.out.l4 HD.out.l5 TF.out,BW4.out.trans (TF.out.below (fun k hk=>by
    rcases hk with rfl | rfl
    · exact HD.out.l4
    · exact HD.out.l5) BW4.out.size)⟩
theorem avf{w:World}{q g base cap c:Nat}{A:Option Addr}{bs:List UInt8}{H:Hp}(h:PH w q g base cap A c bs H) (hE:ET w) (h0:¬foot g A 0) (p n m a bl k:Nat) (B:Option Addr) (b:List UInt8) (hp:p<18446744073709551616) (ha:a<18446744073709551616) (hbl:b.length=bl) (hr:Rd w w.heap.size B b.length b) (hb6:bl<=1000000):
 Calls Tryz.prog 20 #[.pointer (some ⟨q,0,none⟩),abj 7 p n m a B bl k] w fun e w'=>ada (H.doC 7 p n m a b).1 w e w'/\PTurn g base cap A (H.doC 7 p n m a b).2 w w':=by
 rw[arO];unfold abj;have hd:=Do3.made w #[.int .i64 7, .int .u64 (p:Int), .int .u64 (n:Int), .int .u64 (m:Int), .int .u64 (a:Int), .slice B bl k];obtain⟨w1,hw1⟩:=nmE (w.alloc (.cells #[.int .i64 7, .int .u64 (p:Int), .int .u64 (n:Int), .int .u64 (m:Int), .int .u64 (a:Int), .slice B bl k] 43));rw[hw1]at hd;obtain⟨w2,hw2⟩:=nmE (w1.alloc (.cells rp0 50));rw[hw2]at hd;obtain⟨w3,hw3⟩:=nmE (w2.alloc (.cells rp0 50));rw[hw3]at hd;unfold rp0 at hw2 hw3;obtain⟨z0,z1,z2,z3,z4,z5⟩:=aa8 hd.n3;have hz:=aaa hd.n3;have h3:=h.below hd.bel;have hk:∀k,w.heap.size<=k->¬foot g A k:=fun k hk hf=>by have:=h.ar.foot_lt hf;omega
 have hO:=anz h3 p a b B k ((hr.below hd.bel).more hd.bel.size) hp ha (by omega);rw[hbl]at hO;obtain⟨r,hr2⟩:=nmE (H.writeP p a b);rw[hr2]at hO ⊢;obtain⟨rk,H'⟩:=r;dsimp only at hO;dsimp only[Rp.err];have HO:=hE0 hO;have HD:=hE0 hd;have HH:=hE0 h;have HK:=hE0 hk;have HW1:=hE0 hw1;have HW2:=hE0 hw2;have HW3:=hE0 hw3;have HE:=hE0 hE;have H00:=hE0 h0;clear h hd h3 hE hk hw1 hw2 hw3 h0 hO hr hr2 hbl;go_enter Tryz.func20,Tryz.ntmps20
 go_wp2_with (first | (rw[HW1.out]) | (rw[HW2.out]) | (rw[HW3.out]) | fail)
 refine HO.out.mono ?_;rintro e w4 ⟨rfl,ht⟩;have T4:PTurn g base cap A H' w w4:=ht.after HD.out.bel;have E4:ET w4:=HE.out.keep (T4.tch.block 0 HE.out.lt H00.out);have t34:Tch (foot g A) w3 w4:=ht.tch;have m4:=(t34.block _ (aae HD.out.n4) (HK.out _ HD.out.l4)).trans HD.out.n4;have m5:=(t34.block _ (aae HD.out.n5) (HK.out _ HD.out.l5)).trans HD.out.n5;obtain⟨⟨y0,y1,y2,y3,y4,y5,y6,y7,y8⟩,f0,f1,f2,f3,f4,f5,f6,f7,f8⟩:=aas m5;have hy:=aaa m5;clear z0 z1 z2 z3 z4 z5 hz HO t34;have n5:w4.heap[w2.heap.size]?=some (.cells #[.int .i64 0, .int .u64 0, .int .u64 0, .slice none 0 0, .int .i64 0, .int .i64 0, .int .i64 0, .int .i64 0, .int .i64 0] 50 (0,0)):=m5;have t5:Tch (fun k=>k=w2.heap.size) w4 w4:=Tch.refl _ _;have E5:ET w4:=E4.keep (t5.block 0 E4.lt (fun e=>by
  have e:0=w2.heap.size:=e;have h1:=HD.out.l5;have h2:=HE.out.lt;omega))
 have m5':w4.heap[w1.heap.size]?=some (.cells rp0 50 (0,0)):=(t5.block _ (aae m4) HD.out.ne).trans m4;have HNM:=hE0 (abJ E5 rk);have HT5:=hE0 t5;have HN5:=hE0 n5;have HM5:=hE0 m5';have HM4:=hE0 m4;have HM45:=hE0 m5;have HT4:=hE0 T4;clear E4 E5 m4 m5 m5' n5 t5 T4;go_wp2_with fail
 refine HNM.out.mono ?_;rintro e w6 ⟨rfl,hb6⟩;have n6:=(hb6.block _ (aae HN5.out)).trans HN5.out;have m6:=(hb6.block _ (aae HM5.out)).trans HM5.out;obtain⟨w7,hw7⟩:=nmE (w6.setCell ⟨w2.heap.size,0,none⟩ (.int .i64 rk));have n7:w7.heap[w2.heap.size]?=some (.cells #[.int .i64 rk, .int .u64 0, .int .u64 0, .slice none 0 0, .int .i64 0, .int .i64 0, .int .i64 0, .int .i64 0, .int .i64 0] 50 (0,0)):=by rw[<-hw7];exact heap_setCell_same w6 w2.heap.size 0 _ _ _ n6
 have m7:w7.heap[w1.heap.size]?=some (.cells rp0 50 (0,0)):=by rw[<-hw7];exact(Below.heap_setCell w6 ⟨w2.heap.size,0,none⟩ _ w1.heap.size HD.out.ne).trans m6
 have t7:Tch (fun k=>k=w2.heap.size) w6 w7:=by rw[<-hw7];exact Tch.set (S:=fun k=>k=w2.heap.size) w6 ⟨w2.heap.size,0,none⟩ _ rfl
 have tf:Tch (fun k=>k=w1.heap.size\/k=w2.heap.size) w4 (anB w7 w1.heap.size (.int .i64 rk) (.int .u64 0) (.int .u64 0) (.slice none 0 0) (.int .i64 0) (.int .i64 0) (.int .i64 0) (.int .i64 0) (.int .i64 0)):=
  (((((Tch.refl (fun k=>k=w1.heap.size\/k=w2.heap.size) w4).trans HT5.out (fun _ _ e=> .inr e)).trans (Tch.of_below (S:=fun _=>False) hb6) (fun _ _ h=>h.elim)).trans t7 (fun _ _ e=> .inr e)).trans (acy w7 w1.heap.size (.int .i64 rk) (.int .u64 0) (.int .u64 0) (.slice none 0 0) (.int .i64 0) (.int .i64 0) (.int .i64 0) (.int .i64 0) (.int .i64 0)) (fun _ _ e=> .inl e))
 have TF:=hE0 tf;have MF:=hE0 (aeT m7 (.int .i64 rk) (.int .u64 0) (.int .u64 0) (.slice none 0 0) (.int .i64 0) (.int .i64 0) (.int .i64 0) (.int .i64 0) (.int .i64 0));clear y0 y1 y2 y3 y4 y5 y6 y7 y8 f0 f1 f2 f3 f4 f5 f6 f7 f8 hy;obtain⟨⟨y0,y1,y2,y3,y4,y5,y6,y7,y8⟩,f0,f1,f2,f3,f4,f5,f6,f7,f8⟩:=aas n6;have hy6:=aaa n6;have HW7:=hE0 hw7;obtain⟨⟨u0,u1,u2,u3,u4,u5,u6,u7,u8⟩,_⟩:=aas n7;have hy7:=aaa n7;obtain⟨⟨v0,v1,v2,v3,v4,v5,v6,v7,v8⟩,e0,e1,e2,e3,e4,e5,e6,e7,e8⟩:=aas m7;have hm7:=aaa m7;clear hb6 n6 m6 hw7 n7 m7 t7 tf HNM HT5 HN5 HM5;go_wp2_with (first | (rw[HW7.out]) | fail)
 (try simp only[Exit.inBlock,Exit.then])
 refine adv (g:=w1.heap.size) Tryz.results20 ?_ ?_ MF.out ?_
 · rfl
 · rfl
 · exact⟨⟨none,0,rfl,World.ownsRow_nil _ _ _ _⟩,HT4.out.ends HM4.out HM45.out HD.out.l4 HD.out.l5 TF.out⟩
theorem avg{w:World}{q g base cap c:Nat}{A:Option Addr}{bs:List UInt8}{H:Hp}(h:PH w q g base cap A c bs H) (hE:ET w) (h0:¬foot g A 0) (p n m a bl k:Nat) (B:Option Addr) (b:List UInt8):
 Calls Tryz.prog 20 #[.pointer (some ⟨q,0,none⟩),abj 8 p n m a B bl k] w fun e w'=>ada (H.doC 8 p n m a b).1 w e w'/\PTurn g base cap A (H.doC 8 p n m a b).2 w w':=by
 rw[att];unfold abj;have hd:=Do3.made w #[.int .i64 8, .int .u64 (p:Int), .int .u64 (n:Int), .int .u64 (m:Int), .int .u64 (a:Int), .slice B bl k];obtain⟨w1,hw1⟩:=nmE (w.alloc (.cells #[.int .i64 8, .int .u64 (p:Int), .int .u64 (n:Int), .int .u64 (m:Int), .int .u64 (a:Int), .slice B bl k] 43));rw[hw1]at hd;obtain⟨w2,hw2⟩:=nmE (w1.alloc (.cells rp0 50));rw[hw2]at hd;obtain⟨w3,hw3⟩:=nmE (w2.alloc (.cells rp0 50));rw[hw3]at hd;unfold rp0 at hw2 hw3;obtain⟨z0,z1,z2,z3,z4,z5⟩:=aa8 hd.n3;have hz:=aaa hd.n3;have h3:=h.below hd.bel;have hk:∀k,w.heap.size<=k->¬foot g A k:=fun k hk hf=>by have:=h.ar.foot_lt hf;omega
 have hO:=abK h3;obtain⟨r,hr⟩:=nmE H.stats;rw[hr]at hO ⊢;obtain⟨s0,s1,s2,s3,s4⟩:=r;dsimp only[stV]at hO;dsimp only;have HO:=hE0 hO;have HD:=hE0 hd;have HH:=hE0 h;have HK:=hE0 hk;have HW1:=hE0 hw1;have HW2:=hE0 hw2;have HW3:=hE0 hw3;have HE:=hE0 hE;have H00:=hE0 h0;clear h hd h3 hE hk hw1 hw2 hw3 h0 hO hr;go_enter Tryz.func20,Tryz.ntmps20
 go_wp2_with (first | (rw[HW1.out]) | (rw[HW2.out]) | (rw[HW3.out]) | fail)
 refine HO.out.mono ?_;rintro e w4 ⟨rfl,hb4⟩;have T4:PTurn g base cap A H w w4:=HH.out.stay (HD.out.bel.trans (hb4.mono HD.out.bel.size));have E4:ET w4:=HE.out.keep (T4.tch.block 0 HE.out.lt H00.out);have t34:Tch (foot g A) w3 w4:=Tch.of_below hb4;have m4:=(t34.block _ (aae HD.out.n4) (HK.out _ HD.out.l4)).trans HD.out.n4;have m5:=(t34.block _ (aae HD.out.n5) (HK.out _ HD.out.l5)).trans HD.out.n5;obtain⟨⟨y0,y1,y2,y3,y4,y5,y6,y7,y8⟩,f0,f1,f2,f3,f4,f5,f6,f7,f8⟩:=aas m5;have hy:=aaa m5;clear z0 z1 z2 z3 z4 z5 hz HO t34;obtain⟨w5,hw5⟩:=nmE (((((w4.setCell ⟨w2.heap.size,4,none⟩ (.int .i64 (s0:Int))).setCell ⟨w2.heap.size,5,none⟩ (.int .i64 (s1:Int))).setCell ⟨w2.heap.size,6,none⟩ (.int .i64 (s2:Int))).setCell ⟨w2.heap.size,7,none⟩ (.int .i64 (s3:Int))).setCell ⟨w2.heap.size,8,none⟩ (.int .i64 (s4:Int)));have n5:w5.heap[w2.heap.size]?=some (.cells #[.int .i64 0, .int .u64 0, .int .u64 0, .slice none 0 0, .int .i64 (s0:Int), .int .i64 (s1:Int), .int .i64 (s2:Int), .int .i64 (s3:Int), .int .i64 (s4:Int)] 50 (0,0)):=by rw[<-hw5];exact au8 m5 _ _ _ _ _
 have t5:Tch (fun k=>k=w2.heap.size) w4 w5:=by rw[<-hw5];exact aun _ _ _ _ _ _ _
 have HW5:=hE0 hw5;clear hw5;have E5:ET w5:=E4.keep (t5.block 0 E4.lt (fun e=>by
  have e:0=w2.heap.size:=e;have h1:=HD.out.l5;have h2:=HE.out.lt;omega))
 have m5':w5.heap[w1.heap.size]?=some (.cells rp0 50 (0,0)):=(t5.block _ (aae m4) HD.out.ne).trans m4;have HNM:=hE0 (agC w5);have HT5:=hE0 t5;have HN5:=hE0 n5;have HM5:=hE0 m5';have HM4:=hE0 m4;have HM45:=hE0 m5;have HT4:=hE0 T4;clear E4 E5 m4 m5 m5' n5 t5 T4;go_wp2_with (first | (rw[HW5.out]) | fail)
 refine HNM.out.mono ?_;rintro e w6 ⟨rfl,hb6⟩;have n6:=(hb6.block _ (aae HN5.out)).trans HN5.out;have m6:=(hb6.block _ (aae HM5.out)).trans HM5.out;obtain⟨w7,hw7⟩:=nmE (w6.setCell ⟨w2.heap.size,0,none⟩ (.int .i64 0));have n7:w7.heap[w2.heap.size]?=some (.cells #[.int .i64 0, .int .u64 0, .int .u64 0, .slice none 0 0, .int .i64 (s0:Int), .int .i64 (s1:Int), .int .i64 (s2:Int), .int .i64 (s3:Int), .int .i64 (s4:Int)] 50 (0,0)):=by rw[<-hw7];exact heap_setCell_same w6 w2.heap.size 0 _ _ _ n6
 have m7:w7.heap[w1.heap.size]?=some (.cells rp0 50 (0,0)):=by rw[<-hw7];exact(Below.heap_setCell w6 ⟨w2.heap.size,0,none⟩ _ w1.heap.size HD.out.ne).trans m6
 have t7:Tch (fun k=>k=w2.heap.size) w6 w7:=by rw[<-hw7];exact Tch.set (S:=fun k=>k=w2.heap.size) w6 ⟨w2.heap.size,0,none⟩ _ rfl
 have tf:Tch (fun k=>k=w1.heap.size\/k=w2.heap.size) w4 (anB w7 w1.heap.size (.int .i64 0) (.int .u64 0) (.int .u64 0) (.slice none 0 0) (.int .i64 (s0:Int)) (.int .i64 (s1:Int)) (.int .i64 (s2:Int)) (.int .i64 (s3:Int)) (.int .i64 (s4:Int))):=
  (((((Tch.refl (fun k=>k=w1.heap.size\/k=w2.heap.size) w4).trans HT5.out (fun _ _ e=> .inr e)).trans (Tch.of_below (S:=fun _=>False) hb6) (fun _ _ h=>h.elim)).trans t7 (fun _ _ e=> .inr e)).trans (acy w7 w1.heap.size (.int .i64 0) (.int .u64 0) (.int .u64 0) (.slice none 0 0) (.int .i64 (s0:Int)) (.int .i64 (s1:Int)) (.int .i64 (s2:Int)) (.int .i64 (s3:Int)) (.int .i64 (s4:Int))) (fun _ _ e=> .inl e))
 have TF:=hE0 tf;have MF:=hE0 (aeT m7 (.int .i64 0) (.int .u64 0) (.int .u64 0) (.slice none 0 0) (.int .i64 (s0:Int)) (.int .i64 (s1:Int)) (.int .i64 (s2:Int)) (.int .i64 (s3:Int)) (.int .i64 (s4:Int)));clear y0 y1 y2 y3 y4 y5 y6 y7 y8 f0 f1 f2 f3 f4 f5 f6 f7 f8 hy;obtain⟨⟨y0,y1,y2,y3,y4,y5,y6,y7,y8⟩,f0,f1,f2,f3,f4,f5,f6,f7,f8⟩:=aas n6;have hy6:=aaa n6;have HW7:=hE0 hw7;obtain⟨⟨u0,u1,u2,u3,u4,u5,u6,u7,u8⟩,_⟩:=aas n7;have hy7:=aaa n7;obtain⟨⟨v0,v1,v2,v3,v4,v5,v6,v7,v8⟩,e0,e1,e2,e3,e4,e5,e6,e7,e8⟩:=aas m7;have hm7:=aaa m7;clear hb6 n6 m6 hw7 n7 m7 t7 tf HNM HT5 HN5 HM5;go_wp2_with (first | (rw[HW7.out]) | fail)
 (try simp only[Exit.inBlock,Exit.then])
 refine adv (g:=w1.heap.size) Tryz.results20 ?_ ?_ MF.out ?_
 · rfl
 · rfl
 · exact⟨⟨none,0,rfl,World.ownsRow_nil _ _ _ _⟩,HT4.out.ends HM4.out HM45.out HD.out.l4 HD.out.l5 TF.out⟩
end Go.Proofs.YtncadccbepjekaaGreatDoor
