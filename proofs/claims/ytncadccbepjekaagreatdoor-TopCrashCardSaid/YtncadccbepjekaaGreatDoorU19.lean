/- Texts of mine, joined. -/
import Derived.Test.YtncadccbepjekaaGreatDoorU13
import Derived.Test.YtncadccbepjekaaGreatDoorU15
import Derived.Test.YtncadccbepjekaaGreatDoorU16
set_option maxRecDepth 100000
set_option maxHeartbeats 1000000
namespace Go.Proofs.YtncadccbepjekaaGreatDoor
open Go.RowKit
section
variable {w:World} {g base cap c:Nat} {A:Option Addr} {bs:List UInt8}
def asP (base cap:Nat) (bs:List UInt8) (w:World) (e:Ending) (w':World):Prop:=
 ∃g' A' c',e= .returned (.pointer (some ⟨g',0,none⟩))/\Ar w' 195 g' base cap A' c' bs/\Below w.heap.size w w'/\w.heap.size<=g'/\∀a,A'=some a->w.heap.size<=a.block
theorem akr (h:Ar w 195 g base cap A c bs) (hl:bs.length<=1000000):
 Calls Tryz.prog 98 #[.pointer (some ⟨g,0,none⟩)] w fun e w'=>asP base cap bs w e w':=by
 obtain⟨w0,hw0⟩:=nmE w.drew;have h0:Ar w0 195 g base cap A c bs:=by rw[<-hw0];exact h.drew
 have hz0:w0.heap.size=w.heap.size:=by rw[<-hw0];rfl
 have hb0:=adE hw0;have hcz:A=none->c=0:=fun e=>by subst e;exact h.none_.2
 have HC:=hE0 (abV A c w0.heap.size bs w0 h0.reads (Nat.le_refl _) hcz hl);have HW0:=hE0 hw0;have HB0:=hE0 hb0;have HZ0:=hE0 hz0;have H0:=hE0 h0;clear hw0 h0 hz0 hb0 hcz h;go_enter Tryz.func98,Tryz.ntmps98
 go_wp2_with fail
 refine aar w0.heap.size [([0,1,2,3,4,5,6,7,8,9,10,11],12)] [13] [14,15] (by kernel_rfl) (by kernel_rfl) (by kernel_rfl) (fun _ _ _ _ _ h=>h) ?_;rw[HW0.out];have t0:∀x:LaterB w0.heap.size w0,x.val.cell? ⟨g,0,none⟩=some (.int .u64 (base:Int)):=fun x=>(x.ext.cell (p:=⟨g,0,none⟩) H0.out.lt).trans H0.out.c0;have t1:∀x:LaterB w0.heap.size w0,x.val.cell? ⟨g,1,none⟩=some (.int .i64 (cap:Int)):=fun x=>(x.ext.cell (p:=⟨g,1,none⟩) H0.out.lt).trans H0.out.c1;have t2:∀x:LaterB w0.heap.size w0,x.val.cell? ⟨g,2,none⟩=some (.slice A bs.length c):=fun x=>(x.ext.cell (p:=⟨g,2,none⟩) H0.out.lt).trans H0.out.c2;refine tail_cons (l:= ?seg1) ?hseg1 ?_
 case hseg1=>simp only[pick,lE1,lE2,lE3];rfl
 repeat (go_big_quiet_step (fail))
 refine wpQuiet_nil ?_;clear t0 t1 t2;refine aau (vs:= #[.slice A bs.length c]) Tryz.call92 rfl rfl rfl (R:=fun r w'=>∃A' c',r= .slice A' bs.length c'/\w'.ownsRow w0.heap.size 5 1 (.slice A' bs.length c') bs.length (bs.map bv)) (HC.out.mono ?_) w0.heap.size (Nat.le_refl _) ?_
 · rintro e w' ⟨A',c',rfl,ho,hb⟩;exact⟨_,rfl,hb,A',c',rfl,ho⟩
 rintro r w1 hb1 ⟨A',c',rfl,ho⟩;refine aaO (l:= ?la2) (t:= ?tl2) ?hla2 ?htl2 ?_
 case hla2=>simp only[pick,lE1,lE2,lE3];rfl
 case htl2=>simp only[pick,lE1,lE2,lE3];rfl
 simp only[Act.put,lE4,lE5,lE6];repeat (go_big_quiet_step (fail))
 refine wpQuiet_nil ?_;have HO:=hE0 ho;have HB1:=hE0 hb1;clear ho hb1;go_wp2
 go_ret
 have hb2:Below w1.heap.size w1 (w1.alloc (.cells #[.int .u64 (base:Int), .int .i64 (cap:Int), .slice A' bs.length c'] 195)):=(Below.refl _ _).alloc (Nat.le_refl _) _;refine⟨w1.heap.size,A',c',rfl,⟨heap_alloc_new w1 _,?_⟩,?_,?_,?_⟩
 · obtain⟨h1,h2⟩:=acG HO.out hb2;refine⟨h1,h2.imp id fun⟨g',cap',cur,a,b,c⟩=>⟨g',cap',cur,a,Nat.zero_le _,c⟩⟩
 · refine HB0.out.trans ?_;rw[<-HZ0.out];exact HB1.out.trans (hb2.mono HB1.out.size)
 · rw[<-HZ0.out];exact HB1.out.size
 · intro a e;rw[<-HZ0.out];exact(HO.out.lt a.block (by rw[e];rfl)).1
end
theorem agq{n:Int}:∀{l:List Rk}{e:Int}{f:Bool}{d:List (List UInt8)},abh n e f l=true->datOk l d=true->(d.flatten.length:Int)+e<=n
 | [],e,f,d,h,h2=>by
  unfold abh at h;unfold datOk at h2;rw[beq_iff_eq]at h;have:d= []:=by simpa using h2
  subst this;simp;omega
 | x::r,e,f,d,h,h2=>by
  unfold abh at h;simp only[Bool.and_eq_true,beq_iff_eq,decide_eq_true_eq]at h;obtain⟨_,h3,_,_,h4⟩:=h;have h5:=(aab _).1 h3;unfold datOk at h2;split at h2
  · cases d with
    | nil=>cases h2
    | cons y d'=>
     simp only[Bool.and_eq_true,beq_iff_eq]at h2;have:=agq h4 h2.2;rw[List.flatten_cons,List.length_append];omega
  · have:=agq h4 h2;omega
theorem agr{n:Int}{l:List Rk}{d:List (List UInt8)}(h:adR n l d=true):d.flatten.length<=16384/\184<=n/\n<=16384:=by
 unfold adR at h;simp only[Bool.and_eq_true]at h;have h1:=(aaT n).1 h.1;have h2:=agq h.2.1 h.2.2;omega
section
variable {w:World} {g base cap c:Nat} {A:Option Addr} {bs:List UInt8}
theorem avK (h:Ar w 195 g base cap A c bs) (o:Int) (ho: -9223372036854775808<=o/\o<=9223372036854775807) (hc:plc o=false):
 Calls Tryz.prog 123 #[.pointer (some ⟨g,0,none⟩), .int .i64 o] w fun e w'=>e= .returned (.tuple #[bkV none,aat false 3])/\Below w.heap.size w w':=by
 obtain⟨w1,hw1⟩:=nmE (w.alloc (.cells #[.int .i64 0, .int .i64 0, .bool false] 112));have hb1:=abE hw1;have hn1:=anE hw1;have h1:=h.below hb1;have HC:=hE0 (abn w1 o ho false hc);have HW1:=hE0 hw1;have HB1:=hE0 hb1;have HN1:=hE0 hn1;clear hc hw1 hb1 hn1 h1 h;go_enter Tryz.func123,Tryz.ntmps123
 go_wp2_with fail
 rw[HW1.out]
 with_reducible refine HC.out.mono ?_
 rintro e w2 ⟨rfl,rfl⟩;obtain⟨⟨c0,c1,c2⟩,f0,f1,f2⟩:=aad HN1.out;go_wp2
 (try simp only[Exit.inBlock,Exit.then])
 refine abP (x:=aat false 3) Tryz.results123 ?_ ?_ ?_ (aaJ HN1.out _ _ _) ?_
 · rfl
 · rfl
 · rfl
 · exact⟨rfl,((HB1.out.setCell (Nat.le_refl _) _).setCell (Nat.le_refl _) _).setCell (Nat.le_refl _) _⟩
theorem avL (h:Ar w 195 g base cap A c bs) (hb:base<=4611686018427387904) (hl:bs.length<=16384) (o:Int) (ho: -9223372036854775808<=o/\o<=9223372036854775807) (hc:plc o=true) (hv:word? bs o=none):
 Calls Tryz.prog 123 #[.pointer (some ⟨g,0,none⟩), .int .i64 o] w fun e w'=>e= .returned (.tuple #[bkV none,aat false 3])/\Below w.heap.size w w':=by
 obtain⟨w1,hw1⟩:=nmE (w.alloc (.cells #[.int .i64 0, .int .i64 0, .bool false] 112));have hb1:=abE hw1;have hn1:=anE hw1;have h1:=h.below hb1;have HC:=hE0 (abn w1 o ho true hc);have HA:=hE0 (aay h1 o);have hwd:=abQ h1 hb hl o (by omega) _ hv;dsimp only[wdV]at hwd;have HW:=hE0 hwd;have HW1:=hE0 hw1;have HB1:=hE0 hb1;have HN1:=hE0 hn1;clear hc hv hwd hw1 hb1 hn1 h1 h;go_enter Tryz.func123,Tryz.ntmps123
 go_wp2_with fail
 rw[HW1.out]
 with_reducible refine HC.out.mono ?_
 rintro e w2 ⟨rfl,rfl⟩;go_wp2_with fail
 with_reducible refine HA.out.mono ?_
 rintro e w2 ⟨rfl,rfl⟩;go_wp2_with fail
 with_reducible refine HW.out.mono ?_
 rintro e w2 ⟨rfl,rfl⟩;obtain⟨⟨c0,c1,c2⟩,f0,f1,f2⟩:=aad HN1.out;go_wp2
 (try simp only[Exit.inBlock,Exit.then])
 refine abP (x:=aat false 3) Tryz.results123 ?_ ?_ ?_ (aaJ HN1.out _ _ _) ?_
 · rfl
 · rfl
 · rfl
 · exact⟨rfl,((HB1.out.setCell (Nat.le_refl _) _).setCell (Nat.le_refl _) _).setCell (Nat.le_refl _) _⟩
theorem avM (h:Ar w 195 g base cap A c bs) (hb:base<=4611686018427387904) (hl:bs.length<=16384) (o:Int) (ho: -9223372036854775808<=o/\o<=9223372036854775807) (hc:plc o=true) (v:Nat) (hvl:v<18446744073709551616) (hv:word? bs o=some v) (hu:adT v=none):
 Calls Tryz.prog 123 #[.pointer (some ⟨g,0,none⟩), .int .i64 o] w fun e w'=>e= .returned (.tuple #[bkV none,aat false 3])/\Below w.heap.size w w':=by
 obtain⟨w1,hw1⟩:=nmE (w.alloc (.cells #[.int .i64 0, .int .i64 0, .bool false] 112));have hb1:=abE hw1;have hn1:=anE hw1;have h1:=h.below hb1;have HC:=hE0 (abn w1 o ho true hc);have HA:=hE0 (aay h1 o);have hwd:=abQ h1 hb hl o (by omega) _ hv;dsimp only[wdV]at hwd;have HW:=hE0 hwd;have hup:=abm w1 v hvl;rw[hu]at hup;dsimp only[ao5]at hup;have HU:=hE0 hup;have HW1:=hE0 hw1;have HB1:=hE0 hb1;have HN1:=hE0 hn1;clear hc hv hwd hu hup hw1 hb1 hn1 h1 h;go_enter Tryz.func123,Tryz.ntmps123
 go_wp2_with fail
 rw[HW1.out]
 with_reducible refine HC.out.mono ?_
 rintro e w2 ⟨rfl,rfl⟩;go_wp2_with fail
 with_reducible refine HA.out.mono ?_
 rintro e w2 ⟨rfl,rfl⟩;go_wp2_with fail
 with_reducible refine HW.out.mono ?_
 rintro e w2 ⟨rfl,rfl⟩;go_wp2_with fail
 with_reducible refine HU.out.mono ?_
 rintro e w2 ⟨rfl,rfl⟩;obtain⟨⟨c0,c1,c2⟩,f0,f1,f2⟩:=aad HN1.out;go_wp2
 (try simp only[Exit.inBlock,Exit.then])
 refine abP (x:=aat false 3) Tryz.results123 ?_ ?_ ?_ (aaJ HN1.out _ _ _) ?_
 · rfl
 · rfl
 · rfl
 · exact⟨rfl,((HB1.out.setCell (Nat.le_refl _) _).setCell (Nat.le_refl _) _).setCell (Nat.le_refl _) _⟩
theorem ag4{P:Prop}(h:P:=by
 go_enter Tryz.func123,Tryz.ntmps123
 go_wp2_with fail
 rw[HW1.out]
 with_reducible refine HC.out.mono ?_
 rintro e w2 ⟨rfl,rfl⟩;go_wp2_with fail
 with_reducible refine HA.out.mono ?_
 rintro e w2 ⟨rfl,rfl⟩;go_wp2_with fail
 with_reducible refine HW.out.mono ?_
 rintro e w2 ⟨rfl,rfl⟩;go_wp2_with fail
 with_reducible refine HU.out.mono ?_
 rintro e w2 ⟨rfl,rfl⟩;go_wp2_with fail
 with_reducible refine HA2.out.mono ?_
 rintro e w2 ⟨rfl,rfl⟩;go_wp2_with fail
 with_reducible refine HW2.out.mono ?_
 rintro e w2 ⟨rfl,rfl⟩;obtain⟨⟨c0,c1,c2⟩,f0,f1,f2⟩:=aad HN1.out;go_wp2
 (try simp only[Exit.inBlock,Exit.then])
 refine abP (x:=aat false 3) Tryz.results123 ?_ ?_ ?_ (aaJ HN1.out _ _ _) ?_
 · rfl
 · rfl
 · rfl
 · exact⟨rfl,((HB1.out.setCell (Nat.le_refl _) _).setCell (Nat.le_refl _) _).setCell (Nat.le_refl _) _⟩
 ):P:=h
theorem avN (h:Ar w 195 g base cap A c bs) (hb:base<=4611686018427387904) (hl:bs.length<=16384) (o:Int) (ho: -9223372036854775808<=o/\o<=9223372036854775807) (hc:plc o=true) (v:Nat) (hvl:v<18446744073709551616) (hv:word? bs o=some v) (s:Nat) (u:Bool) (hu:adT v=some (s,u)) (hs:32<=s/\s<=16384) (hob:0<=o/\o<=16384) (hv2:word? bs (o+(s:Int)-8)=none):
 Calls Tryz.prog 123 #[.pointer (some ⟨g,0,none⟩), .int .i64 o] w fun e w'=>e= .returned (.tuple #[bkV none,aat false 3])/\Below w.heap.size w w':=by
 obtain⟨w1,hw1⟩:=nmE (w.alloc (.cells #[.int .i64 0, .int .i64 0, .bool false] 112));have hb1:=abE hw1;have hn1:=anE hw1;have h1:=h.below hb1;have HC:=hE0 (abn w1 o ho true hc);have HA:=hE0 (aay h1 o);have hwd:=abQ h1 hb hl o (by omega) _ hv;dsimp only[wdV]at hwd;have HW:=hE0 hwd;have hup:=abm w1 v hvl;rw[hu]at hup;dsimp only[ao5]at hup;have HU:=hE0 hup;have HA2:=hE0 (aay h1 (o+(s:Int)-8));have hwd2:=abQ h1 hb hl (o+(s:Int)-8) (by omega) _ hv2;dsimp only[wdV]at hwd2;have HW2:=hE0 hwd2;have HW1:=hE0 hw1;have HB1:=hE0 hb1;have HN1:=hE0 hn1;clear hc hv hwd hu hup hv2 hwd2 hw1 hb1 hn1 h1 h;exact ag4
theorem avO (h:Ar w 195 g base cap A c bs) (hb:base<=4611686018427387904) (hl:bs.length<=16384) (o:Int) (ho: -9223372036854775808<=o/\o<=9223372036854775807) (hc:plc o=true) (v:Nat) (hvl:v<18446744073709551616) (hv:word? bs o=some v) (s:Nat) (u:Bool) (hu:adT v=some (s,u)) (hs:32<=s/\s<=16384) (hob:0<=o/\o<=16384) (v2:Nat) (hv2:word? bs (o+(s:Int)-8)=some v2) (hne:v2≠v):
 Calls Tryz.prog 123 #[.pointer (some ⟨g,0,none⟩), .int .i64 o] w fun e w'=>e= .returned (.tuple #[bkV none,aat false 3])/\Below w.heap.size w w':=by
 obtain⟨w1,hw1⟩:=nmE (w.alloc (.cells #[.int .i64 0, .int .i64 0, .bool false] 112));have hb1:=abE hw1;have hn1:=anE hw1;have h1:=h.below hb1;have HC:=hE0 (abn w1 o ho true hc);have HA:=hE0 (aay h1 o);have hwd:=abQ h1 hb hl o (by omega) _ hv;dsimp only[wdV]at hwd;have HW:=hE0 hwd;have hup:=abm w1 v hvl;rw[hu]at hup;dsimp only[ao5]at hup;have HU:=hE0 hup;have HA2:=hE0 (aay h1 (o+(s:Int)-8));have hwd2:=abQ h1 hb hl (o+(s:Int)-8) (by omega) _ hv2;dsimp only[wdV]at hwd2;have HW2:=hE0 hwd2;have hq:((v2:Int) !=(v:Int))=true:=by rw[bne_iff_ne];omega
 have HW1:=hE0 hw1;have HB1:=hE0 hb1;have HN1:=hE0 hn1;clear hc hv hwd hu hup hv2 hwd2 hne hw1 hb1 hn1 h1 h;exact ag4
theorem avP (h:Ar w 195 g base cap A c bs) (hb:base<=4611686018427387904) (hl:bs.length<=16384) (o:Nat) (ho: -9223372036854775808<=(o:Int)/\(o:Int)<=9223372036854775807) (hc:plc (o:Int)=true) (v:Nat) (hvl:v<18446744073709551616) (hv:word? bs (o:Int)=some v) (s:Nat) (u:Bool) (hu:adT v=some (s,u)) (hs:32<=s/\s<=16384) (hob:0<=(o:Int)/\(o:Int)<=16384) (hv2:word? bs ((o:Int)+(s:Int)-8)=some v):
 Calls Tryz.prog 123 #[.pointer (some ⟨g,0,none⟩), .int .i64 (o:Int)] w fun e w'=>e= .returned (.tuple #[bkV (some ⟨o,s,u⟩),aat true 3])/\Below w.heap.size w w':=by
 obtain⟨w1,hw1⟩:=nmE (w.alloc (.cells #[.int .i64 0, .int .i64 0, .bool false] 112));have hb1:=abE hw1;have hn1:=anE hw1;have h1:=h.below hb1;have HC:=hE0 (abn w1 (o:Int) ho true hc);have HA:=hE0 (aay h1 (o:Int));have hwd:=abQ h1 hb hl (o:Int) (by omega) _ hv;dsimp only[wdV]at hwd;have HW:=hE0 hwd;have hup:=abm w1 v hvl;rw[hu]at hup;dsimp only[ao5]at hup;have HU:=hE0 hup;have HA2:=hE0 (aay h1 ((o:Int)+(s:Int)-8));have hwd2:=abQ h1 hb hl ((o:Int)+(s:Int)-8) (by omega) _ hv2;dsimp only[wdV]at hwd2;have HW2:=hE0 hwd2;have HW1:=hE0 hw1;have HB1:=hE0 hb1;have HN1:=hE0 hn1;clear hc hv hwd hu hup hv2 hwd2 hw1 hb1 hn1 h1 h;go_enter Tryz.func123,Tryz.ntmps123
 go_wp2_with fail
 rw[HW1.out]
 with_reducible refine HC.out.mono ?_
 rintro e w2 ⟨rfl,rfl⟩;go_wp2_with fail
 with_reducible refine HA.out.mono ?_
 rintro e w2 ⟨rfl,rfl⟩;go_wp2_with fail
 with_reducible refine HW.out.mono ?_
 rintro e w2 ⟨rfl,rfl⟩;go_wp2_with fail
 with_reducible refine HU.out.mono ?_
 rintro e w2 ⟨rfl,rfl⟩;go_wp2_with fail
 with_reducible refine HA2.out.mono ?_
 rintro e w2 ⟨rfl,rfl⟩;go_wp2_with fail
 with_reducible refine HW2.out.mono ?_
 rintro e w2 ⟨rfl,rfl⟩;obtain⟨⟨c0,c1,c2⟩,f0,f1,f2⟩:=aad HN1.out;go_wp2
 (try simp only[Exit.inBlock,Exit.then])
 refine abP (x:=aat true 3) Tryz.results123 ?_ ?_ ?_ (aaJ HN1.out _ _ _) ?_
 · rfl
 · rfl
 · rfl
 · exact⟨rfl,((HB1.out.setCell (Nat.le_refl _) _).setCell (Nat.le_refl _) _).setCell (Nat.le_refl _) _⟩
end
theorem alG:awc:=by
 intro w g base cap c A bs o x h hb hl ho hx;subst hx;unfold aaA
 cases hc:plc o with
 | false=>
  have e:aa6 bs o=none:=by
   unfold aa6;rw[if_pos];rw[Bool.eq_false_iff];intro h2;have:=(aa1 _ _ _).1 h2;rw[(agZ o).2 (by omega)]at hc
   cases hc
  rw[e];exact avK h o ho hc
 | true=>
  have hp:=(agZ o).1 hc;obtain⟨p,rfl⟩:∃p:Nat,o=(p:Int):=⟨o.toNat,by omega⟩;by_cases h8:p+8<=bs.length
  · have hcd:alb bs.length (p:Int) 8=true:=(aa1 _ _ _).2 (by omega);have hv:word? bs (p:Int)=some (aaf bs p):=by unfold word?;rw[if_pos (by omega)];rfl
    cases hu:adT (aaf bs p)with
    | none=>
     have e:aa6 bs (p:Int)=none:=by unfold aa6;rw[if_neg (by rw[hcd];simp),Int.toNat_natCast,hu]
     rw[e];exact avM h hb hl (p:Int) ho hc _ (aan _ _) hv hu
    | some su=>
     obtain⟨s,u⟩:=su;have hss:=(aab _).1 (ac8 hu).1
     cases hc2:alb bs.length (p:Int) (s:Int)with
     | false=>
      have e:aa6 bs (p:Int)=none:=by unfold aa6;rw[if_neg (by rw[hcd];simp),Int.toNat_natCast,hu];dsimp only;rw[if_pos hc2]
      rw[e];refine avN h hb hl (p:Int) ho hc _ (aan _ _) hv s u hu (by omega) (by omega) ?_;unfold word?;rw[if_neg];intro h2;rw[(aa1 _ _ _).2 (by omega)]at hc2
      cases hc2
     | true=>
      have hb2:=(aa1 _ _ _).1 hc2;have hv2:word? bs ((p:Int)+(s:Int)-8)=some (aaf bs (p+s-8)):=by
       unfold word?;rw[if_pos (by omega),show((p:Int)+(s:Int)-8).toNat=p+s-8 by omega]
      by_cases hw:aaf bs (p+s-8)=aaf bs p
      · have e:aa6 bs (p:Int)=some ⟨p,s,u⟩:=by unfold aa6;rw[if_neg (by rw[hcd];simp),Int.toNat_natCast,hu];dsimp only;rw[if_neg (by rw[hc2];simp),if_pos hw]
        rw[e];rw[hw]at hv2;exact avP h hb hl p ho hc _ (aan _ _) hv s u hu (by omega) (by omega) hv2
      · have e:aa6 bs (p:Int)=none:=by unfold aa6;rw[if_neg (by rw[hcd];simp),Int.toNat_natCast,hu];dsimp only;rw[if_neg (by rw[hc2];simp),if_neg hw]
        rw[e];exact avO h hb hl (p:Int) ho hc _ (aan _ _) hv s u hu (by omega) (by omega) _ hv2 hw
  · have e:aa6 bs (p:Int)=none:=by
     unfold aa6;rw[if_pos];rw[Bool.eq_false_iff];intro h2;have:=(aa1 _ _ _).1 h2;omega
    rw[e];exact avL h hb hl (p:Int) ho hc (by unfold word?;rw[if_neg (by omega)])
theorem ap1 (bs:List UInt8) (o:Int):abN bs o=(match word? bs (o-8)with
 | none=>none
 | some v=>match adT v with
  | none=>none
  | some (s,_)=>match aa6 bs (o-(s:Int))with
   | none=>none
   | some x=>if x.size=s then some x else none):=by
 by_cases h0:o<8\/(bs.length:Int)<o
 · have e:word? bs (o-8)=none:=by unfold word?;rw[if_neg (by omega)]
   rw[e];unfold abN;rw[if_pos (by omega)]
 · obtain⟨p,rfl⟩:∃p:Nat,o=(p:Int):=⟨o.toNat,by omega⟩;have e:word? bs ((p:Int)-8)=some (aaf bs (p-8)):=by
    unfold word?;rw[if_pos (by omega),show((p:Int)-8).toNat=p-8 by omega]
   rw[e];dsimp only;by_cases h1:(p:Int)<184
   · unfold abN;rw[if_pos (by omega)]
     cases hu:adT (aaf bs (p-8))with
     | none=>rfl
     | some su=>
      obtain⟨s,u⟩:=su;dsimp only
      cases hx:aa6 bs ((p:Int)-(s:Int))with
      | none=>rfl
      | some x=>
       have:=aaw hx;omega
   · unfold abN;rw[if_neg (by omega),Int.toNat_natCast]
     cases hu:adT (aaf bs (p-8))with
     | none=>rfl
     | some su=>
      obtain⟨s,u⟩:=su;dsimp only
      cases hx:aa6 bs ((p:Int)-(s:Int))with
      | none=>rfl
      | some x=>
       dsimp only;obtain⟨q1,q2,q3,q4,q5,q6,q7⟩:=aaw hx;by_cases hs:x.size=s
       · have e2:x.off+x.size-8=p-8:=by omega
         rw[e2]at q7;rw[<-q7,hu]at q6;injection q6 with q6;injection q6 with q6 q8;rw[if_pos ⟨hs,q8.symm⟩,if_pos hs]
       · rw[if_neg (fun h=>hs h.1),if_neg hs]
section
variable {w:World} {g base cap c:Nat} {A:Option Addr} {bs:List UInt8}
theorem atI (h:Ar w 195 g base cap A c bs) (hb:base<=4611686018427387904) (hl:bs.length<=16384) (o:Int) (ho: -9223372036854775808<=o/\o<=9223372036854775807) (hv:word? bs (o-8)=none):
 Calls Tryz.prog 270 #[.pointer (some ⟨g,0,none⟩), .int .i64 o] w fun e w'=>e= .returned (.tuple #[bkV none,aat false 3])/\Below w.heap.size w w':=by
 obtain⟨w1,hw1⟩:=nmE (w.alloc (.cells #[.int .i64 0, .int .i64 0, .bool false] 112));have hb1:=abE hw1;have hn1:=anE hw1;have h1:=h.below hb1;have HA:=hE0 (aay h1 o);have hs8:IntKind.u64.wrap ((adr base o:Int)-8)=(adr base (o-8):Int):=by rw[IntKind.wrap_u64];unfold adr;omega
 have HS8:=hE0 hs8;have hwd:=abQ h1 hb hl (o-8) (by omega) _ hv;dsimp only[wdV]at hwd;have HW:=hE0 hwd;have HW1:=hE0 hw1;have HB1:=hE0 hb1;have HN1:=hE0 hn1;clear hv hwd hs8 hw1 hb1 hn1 h1 h;go_enter Tryz.func270,Tryz.ntmps270
 go_wp2_with fail
 rw[HW1.out]
 with_reducible refine HA.out.mono ?_
 rintro e w2 ⟨rfl,rfl⟩;go_wp2_with fail
 rw[HS8.out]
 with_reducible refine HW.out.mono ?_
 rintro e w2 ⟨rfl,rfl⟩;have hlt:=aac HN1.out;obtain⟨⟨c0,c1,c2⟩,f0,f1,f2⟩:=aad HN1.out;go_wp2
 (try simp only[Exit.inBlock,Exit.then])
 refine abP (x:=aat false 3) (g:=w.heap.size) (o:=0) (s:=0) (b:=false) Tryz.results270 ?_ ?_ ?_ ?_ ?_
 · rfl
 · rfl
 · rfl
 · exact aaJ HN1.out _ _ _
 · exact⟨rfl,((HB1.out.setCell (Nat.le_refl _) _).setCell (Nat.le_refl _) _).setCell (Nat.le_refl _) _⟩
theorem atJ (h:Ar w 195 g base cap A c bs) (hb:base<=4611686018427387904) (hl:bs.length<=16384) (o:Int) (ho: -9223372036854775808<=o/\o<=9223372036854775807) (v:Nat) (hvl:v<18446744073709551616) (hv:word? bs (o-8)=some v) (hu:adT v=none):
 Calls Tryz.prog 270 #[.pointer (some ⟨g,0,none⟩), .int .i64 o] w fun e w'=>e= .returned (.tuple #[bkV none,aat false 3])/\Below w.heap.size w w':=by
 obtain⟨w1,hw1⟩:=nmE (w.alloc (.cells #[.int .i64 0, .int .i64 0, .bool false] 112));have hb1:=abE hw1;have hn1:=anE hw1;have h1:=h.below hb1;have HA:=hE0 (aay h1 o);have hs8:IntKind.u64.wrap ((adr base o:Int)-8)=(adr base (o-8):Int):=by rw[IntKind.wrap_u64];unfold adr;omega
 have HS8:=hE0 hs8;have hwd:=abQ h1 hb hl (o-8) (by omega) _ hv;dsimp only[wdV]at hwd;have HW:=hE0 hwd;have hup:=abm w1 v hvl;rw[hu]at hup;dsimp only[ao5]at hup;have HU:=hE0 hup;have HW1:=hE0 hw1;have HB1:=hE0 hb1;have HN1:=hE0 hn1;clear hv hwd hu hup hs8 hw1 hb1 hn1 h1 h;go_enter Tryz.func270,Tryz.ntmps270
 go_wp2_with fail
 rw[HW1.out]
 with_reducible refine HA.out.mono ?_
 rintro e w2 ⟨rfl,rfl⟩;go_wp2_with fail
 rw[HS8.out]
 with_reducible refine HW.out.mono ?_
 rintro e w2 ⟨rfl,rfl⟩;go_wp2_with fail
 with_reducible refine HU.out.mono ?_
 rintro e w2 ⟨rfl,rfl⟩;have hlt:=aac HN1.out;obtain⟨⟨c0,c1,c2⟩,f0,f1,f2⟩:=aad HN1.out;go_wp2
 (try simp only[Exit.inBlock,Exit.then])
 refine abP (x:=aat false 3) (g:=w.heap.size) (o:=0) (s:=0) (b:=false) Tryz.results270 ?_ ?_ ?_ ?_ ?_
 · rfl
 · rfl
 · rfl
 · exact aaJ HN1.out _ _ _
 · exact⟨rfl,((HB1.out.setCell (Nat.le_refl _) _).setCell (Nat.le_refl _) _).setCell (Nat.le_refl _) _⟩
theorem aij{P:Prop}(h:P:=by
 go_enter Tryz.func270,Tryz.ntmps270
 go_wp2_with fail
 rw[HW1.out]
 with_reducible refine HA.out.mono ?_
 rintro e w2 ⟨rfl,rfl⟩;go_wp2_with fail
 rw[HS8.out]
 with_reducible refine HW.out.mono ?_
 rintro e w2 ⟨rfl,rfl⟩;go_wp2_with fail
 with_reducible refine HU.out.mono ?_
 rintro e w2 ⟨rfl,rfl⟩;go_wp2_with fail
 with_reducible refine HG.out.mono ?_
 rintro e w2 ⟨rfl,hb2⟩;have hlt:=Nat.lt_of_lt_of_le (aac HN1.out) hb2.size;have hn2:=(hb2.block _ (aac HN1.out)).trans HN1.out;have hb02:Below w.heap.size w w2:=HB1.out.trans (hb2.mono HB1.out.size);obtain⟨⟨c0,c1,c2⟩,f0,f1,f2⟩:=aad hn2;have HN2:=hE0 hn2;have HB2:=hE0 hb02;clear hn2 hb02 hb2;go_wp2
 (try simp only[Exit.inBlock,Exit.then])
 refine abP (x:=aat false 3) (g:=w.heap.size) (o:=0) (s:=0) (b:=false) Tryz.results270 ?_ ?_ ?_ ?_ ?_
 · rfl
 · rfl
 · rfl
 · exact(((Below.refl _ _).alloc (Nat.le_refl _) _).block _ (by simp[World.setCell];omega)).trans (aaJ HN2.out _ _ _)
 · exact⟨rfl,(((HB2.out.setCell (Nat.le_refl _) _).setCell (Nat.le_refl _) _).setCell (Nat.le_refl _) _).alloc (by simp[World.setCell];omega) _⟩
 ):P:=h
theorem atK (h:Ar w 195 g base cap A c bs) (hb:base<=4611686018427387904) (hl:bs.length<=16384) (o:Int) (ho: -9223372036854775808<=o/\o<=9223372036854775807) (v:Nat) (hvl:v<18446744073709551616) (hv:word? bs (o-8)=some v) (s:Nat) (u:Bool) (hu:adT v=some (s,u)) (hs:32<=s/\s<=16384) (hob:0<=o/\o<=16384) (hx:aa6 bs (o-(s:Int))=none):
 Calls Tryz.prog 270 #[.pointer (some ⟨g,0,none⟩), .int .i64 o] w fun e w'=>e= .returned (.tuple #[bkV none,aat false 3])/\Below w.heap.size w w':=by
 obtain⟨w1,hw1⟩:=nmE (w.alloc (.cells #[.int .i64 0, .int .i64 0, .bool false] 112));have hb1:=abE hw1;have hn1:=anE hw1;have h1:=h.below hb1;have HA:=hE0 (aay h1 o);have hs8:IntKind.u64.wrap ((adr base o:Int)-8)=(adr base (o-8):Int):=by rw[IntKind.wrap_u64];unfold adr;omega
 have HS8:=hE0 hs8;have hwd:=abQ h1 hb hl (o-8) (by omega) _ hv;dsimp only[wdV]at hwd;have HW:=hE0 hwd;have hup:=abm w1 v hvl;rw[hu]at hup;dsimp only[ao5]at hup;have HU:=hE0 hup;have hg:=alG w1 g base cap c A bs (o-(s:Int)) _ h1 hb hl (by omega) hx;dsimp only[aaA,bkV,Bk.val,Option.isSome,aat]at hg;have HG:=hE0 hg;have HW1:=hE0 hw1;have HB1:=hE0 hb1;have HN1:=hE0 hn1;clear hv hwd hu hup hx hg hs8 hw1 hb1 hn1 h1 h;exact aij
theorem atL (h:Ar w 195 g base cap A c bs) (hb:base<=4611686018427387904) (hl:bs.length<=16384) (o:Int) (ho: -9223372036854775808<=o/\o<=9223372036854775807) (v:Nat) (hvl:v<18446744073709551616) (hv:word? bs (o-8)=some v) (s:Nat) (u:Bool) (hu:adT v=some (s,u)) (hs:32<=s/\s<=16384) (hob:0<=o/\o<=16384) (xo xs:Nat) (xu:Bool) (hx:aa6 bs (o-(s:Int))=some ⟨xo,xs,xu⟩) (hne:xs≠s):
 Calls Tryz.prog 270 #[.pointer (some ⟨g,0,none⟩), .int .i64 o] w fun e w'=>e= .returned (.tuple #[bkV none,aat false 3])/\Below w.heap.size w w':=by
 obtain⟨w1,hw1⟩:=nmE (w.alloc (.cells #[.int .i64 0, .int .i64 0, .bool false] 112));have hb1:=abE hw1;have hn1:=anE hw1;have h1:=h.below hb1;have HA:=hE0 (aay h1 o);have hs8:IntKind.u64.wrap ((adr base o:Int)-8)=(adr base (o-8):Int):=by rw[IntKind.wrap_u64];unfold adr;omega
 have HS8:=hE0 hs8;have hwd:=abQ h1 hb hl (o-8) (by omega) _ hv;dsimp only[wdV]at hwd;have HW:=hE0 hwd;have hup:=abm w1 v hvl;rw[hu]at hup;dsimp only[ao5]at hup;have HU:=hE0 hup;have hg:=alG w1 g base cap c A bs (o-(s:Int)) _ h1 hb hl (by omega) hx;dsimp only[aaA,bkV,Bk.val,Option.isSome,aat]at hg;have HG:=hE0 hg;have hq:((xs:Int) !=(s:Int))=true:=by rw[bne_iff_ne];omega
 have HW1:=hE0 hw1;have HB1:=hE0 hb1;have HN1:=hE0 hn1;clear hv hwd hu hup hx hg hne hs8 hw1 hb1 hn1 h1 h;exact aij
theorem atM (h:Ar w 195 g base cap A c bs) (hb:base<=4611686018427387904) (hl:bs.length<=16384) (o:Int) (ho: -9223372036854775808<=o/\o<=9223372036854775807) (v:Nat) (hvl:v<18446744073709551616) (hv:word? bs (o-8)=some v) (s:Nat) (u:Bool) (hu:adT v=some (s,u)) (hs:32<=s/\s<=16384) (hob:0<=o/\o<=16384) (xo:Nat) (xu:Bool) (hx:aa6 bs (o-(s:Int))=some ⟨xo,s,xu⟩):
 Calls Tryz.prog 270 #[.pointer (some ⟨g,0,none⟩), .int .i64 o] w fun e w'=>e= .returned (.tuple #[bkV (some ⟨xo,s,xu⟩),aat true 3])/\Below w.heap.size w w':=by
 obtain⟨w1,hw1⟩:=nmE (w.alloc (.cells #[.int .i64 0, .int .i64 0, .bool false] 112));have hb1:=abE hw1;have hn1:=anE hw1;have h1:=h.below hb1;have HA:=hE0 (aay h1 o);have hs8:IntKind.u64.wrap ((adr base o:Int)-8)=(adr base (o-8):Int):=by rw[IntKind.wrap_u64];unfold adr;omega
 have HS8:=hE0 hs8;have hwd:=abQ h1 hb hl (o-8) (by omega) _ hv;dsimp only[wdV]at hwd;have HW:=hE0 hwd;have hup:=abm w1 v hvl;rw[hu]at hup;dsimp only[ao5]at hup;have HU:=hE0 hup;have hg:=alG w1 g base cap c A bs (o-(s:Int)) _ h1 hb hl (by omega) hx;dsimp only[aaA,bkV,Bk.val,Option.isSome,aat]at hg;have HG:=hE0 hg;have HW1:=hE0 hw1;have HB1:=hE0 hb1;have HN1:=hE0 hn1;clear hv hwd hu hup hx hg hs8 hw1 hb1 hn1 h1 h;go_enter Tryz.func270,Tryz.ntmps270
 go_wp2_with fail
 rw[HW1.out]
 with_reducible refine HA.out.mono ?_
 rintro e w2 ⟨rfl,rfl⟩;go_wp2_with fail
 rw[HS8.out]
 with_reducible refine HW.out.mono ?_
 rintro e w2 ⟨rfl,rfl⟩;go_wp2_with fail
 with_reducible refine HU.out.mono ?_
 rintro e w2 ⟨rfl,rfl⟩;go_wp2_with fail
 with_reducible refine HG.out.mono ?_
 rintro e w2 ⟨rfl,hb2⟩;have hlt:=Nat.lt_of_lt_of_le (aac HN1.out) hb2.size;have hn2:=(hb2.block _ (aac HN1.out)).trans HN1.out;have hb02:Below w.heap.size w w2:=HB1.out.trans (hb2.mono HB1.out.size);obtain⟨⟨c0,c1,c2⟩,f0,f1,f2⟩:=aad hn2;have HN2:=hE0 hn2;have HB2:=hE0 hb02;clear hn2 hb02 hb2;go_wp2
 (try simp only[Exit.inBlock,Exit.then])
 refine abP (x:=aat true 3) (g:=w.heap.size) (o:=(xo:Int)) (s:=(s:Int)) (b:=xu) Tryz.results270 ?_ ?_ ?_ ?_ ?_
 · rfl
 · rfl
 · rfl
 · exact(((Below.refl _ _).alloc (Nat.le_refl _) _).block _ (by simp[World.setCell];omega)).trans (aaJ HN2.out _ _ _)
 · exact⟨rfl,(((HB2.out.setCell (Nat.le_refl _) _).setCell (Nat.le_refl _) _).setCell (Nat.le_refl _) _).alloc (by simp[World.setCell];omega) _⟩
end
theorem ap2:auW:=by
 intro w g base cap c A bs o x h hb hl ho hx;subst hx;unfold aaA;rw[ap1]
 cases hv:word? bs (o-8)with
 | none=>exact atI h hb hl o ho hv
 | some v=>
  have h8:0<=o-8/\o-8+8<=bs.length:=by
   unfold word? at hv;split at hv
   · assumption
   · cases hv
  have hvl:v<18446744073709551616:=by
   have hvi:some (aaf bs (o-8).toNat)=some v:=by rw[<-hv];unfold word?;rw[if_pos h8]
   rw[<-Option.some.inj hvi];exact aan _ _
  dsimp only
  cases hu:adT v with
  | none=>exact atJ h hb hl o ho v hvl hv hu
  | some su=>
   obtain⟨s,u⟩:=su;have hss:=(aab _).1 (ac8 hu).1;dsimp only
   cases hx:aa6 bs (o-(s:Int))with
   | none=>exact atK h hb hl o ho v hvl hv s u hu (by omega) (by omega) hx
   | some x=>
    obtain⟨xo,xs,xu⟩:=x;dsimp only;by_cases hs:xs=s
    · subst hs;rw[if_pos rfl];exact atM h hb hl o ho v hvl hv xs u hu (by omega) (by omega) xo xu hx
    · rw[if_neg hs];exact atL h hb hl o ho v hvl hv s u hu (by omega) (by omega) xo xs xu hx hs
section
variable {bs:List UInt8} {H:Hp}
theorem ap3{i j:Nat}(hp:(aam H.blks (i-1)).used=true) (hj:j<i):(H.give i).blks[j]?=H.blks[j]?:=by
 have e1:∀k,k<i->((H.use i false).wipe i).blks[k]?=H.blks[k]?:=fun k hk=>by
  show(H.blks.set i _)[k]?=_;exact List.getElem?_set_ne (by omega)
 have l1:((H.use i false).wipe i).blks.length=H.blks.length:=List.length_set ..;unfold Hp.give;obtain⟨H1,hH1⟩:=nmE ((H.use i false).wipe i);rw[hH1]at e1 l1 ⊢;have e2:∀k,k<i->(H1.giveB i).blks[k]?=H.blks[k]?:=fun k hk=>by
  rw[<-e1 k hk];unfold Hp.giveB;split
  · rename_i hn;have hlt:i+1<H1.blks.length:=by
     unfold acJ at hn;rw[Bool.and_eq_true,decide_eq_true_eq]at hn;exact hn.1
    rw[acN (H1.out (i+1)) (i:=i) hlt];rw[List.getElem?_append_left (by rw[List.length_take];show k<min i H1.blks.length;omega)];exact List.getElem?_take_of_lt hk
  · rfl
 have hprev:aiM (H1.giveB i).blks i=false:=by
  unfold aiM;have h1:=e2 (i-1) (by omega);have h2:aam (H1.giveB i).blks (i-1)=aam H.blks (i-1):=by
   unfold aam;rw[List.getD_eq_getElem?_getD,List.getD_eq_getElem?_getD,h1]
  rw[h2,hp,Bool.not_true,Bool.and_false]
 have e3:((H1.giveB i).giveC i).blks=(H1.giveB i).blks:=by
  unfold Hp.giveC;rw[hprev,if_neg (by decide)];rfl
 rw[e3];exact e2 j hj
theorem alH{i s:Nat}(hi:i<H.blks.length) (hle:s<=(aam H.blks i).size):∃x∈(H.cut i s).blks,x.off=(aam H.blks i).off/\x.used=true/\s<=x.size/\x.size<s+32/\x.size<=(aam H.blks i).size:=by
 unfold Hp.cut;split
 · rename_i hlt;refine⟨{aam H.blks i with used:=true},?_,rfl,rfl,hle,hlt,Nat.le_refl _⟩;exact List.mem_of_getElem? (i:=i) (List.getElem?_set_self hi)
 · rename_i hge;obtain⟨y,hy⟩:∃y:Bk,(⟨(aam H.blks i).off+s,(aam H.blks i).size-s,true⟩:Bk)=y:=⟨_,rfl⟩;rw[hy];have hb:=ae8 (s:=s) H hi y;have hln:=alq (s:=s) H hi y;obtain⟨H2,hH2⟩:=nmE (((H.use i true).size i s).put (i+1) y);rw[hH2]at hb hln ⊢;have hat:H2.blks[i]?=some {aam H.blks i with used:=true,size:=s}:=by
    rw[hb,List.getElem?_append_right (by rw[List.length_take];omega),List.length_take,show i-min i H.blks.length=0 by omega];rfl
   have hk:=ap3 (H:=H2) (i:=i+1) (j:=i) (by rw[show i+1-1=i by omega,aa9 hat]) (by omega);refine⟨_,List.mem_of_getElem? (hk.trans hat),rfl,rfl,Nat.le_refl _,by show s<s+32;omega,hle⟩
theorem Rt.what (h:Rt bs H){s o:Nat}(hs:aaB (s:Int)=true) (hx:(H.take s).1=some o):
 ∃x∈(H.take s).2.blks,x.off=o/\x.used=true/\s<=x.size/\x.size<s+32/\∀y∈H.blks,y.used=true->y.off+y.size<=x.off\/x.off+x.size<=y.off:=by
 have ht:abA 184 H.blks (Go.Proofs.YtncadccbepjekaaGreatDoor.lenB H.blks):=by rw[h.lenE];exact(aaj h.walk).2.1
 cases hf:H.find s with
 | some i=>
  obtain⟨h1,h2,h3⟩:=h.found hs hf;have e:H.take s=(some (aam H.blks i).off,(H.out i).cut i s):=by unfold Hp.take;rw[hf]
  rw[e]at hx ⊢;injection hx with hx;obtain⟨x,k1,k2,k3,k4,k5,k6⟩:=alH (H:=H.out i) (i:=i) (s:=s) h1 h2;have hb:aam (H.out i).blks i=aam H.blks i:=rfl;rw[hb]at k2 k6;refine⟨x,k1,by omega,k3,k4,k5,fun y hy hu=> ?_⟩;rcases aaG _ _ _ ht y hy _ (List.mem_of_getElem? (aas h1))with h' | h' | h'
  · rw[h',h3]at hu;cases hu
  · exact .inl (by omega)
  · exact .inr (by omega)
 | none=>
  by_cases hr:H.cap<Go.Proofs.YtncadccbepjekaaGreatDoor.lenB H.blks+s-acp H.blks
  · have e:H.take s=(none,H):=by unfold Hp.take;rw[hf];dsimp only;rw[if_pos hr]
    rw[e]at hx
    cases hx
  · by_cases htl:0<acp H.blks
    · have e:H.take s=(some (aam H.blks (H.blks.length-1)).off,((H.out (H.blks.length-1)).size (H.blks.length-1) s).use (H.blks.length-1) true):=by unfold Hp.take;rw[hf];dsimp only;rw[if_neg hr,if_pos htl]
      have hn:0<H.blks.length:=by
       rcases Nat.eq_zero_or_pos H.blks.length with h0 | h0
       · unfold acp at htl;rw[if_pos h0]at htl;omega
       · exact h0
      have hu0:(aam H.blks (H.blks.length-1)).used=false:=by
       cases hu:(aam H.blks (H.blks.length-1)).used with
       | false=>rfl
       | true=>unfold acp at htl;rw[if_neg (by omega),if_pos hu]at htl;omega
      obtain⟨k,hk⟩:=nmE (H.blks.length-1);rw[hk]at e hu0;have hkl:k<H.blks.length:=by omega
      rw[e]at hx ⊢;injection hx with hx;have ha:=aiN ht (aas hkl);have hlast:(aam H.blks k).off+(aam H.blks k).size=Go.Proofs.YtncadccbepjekaaGreatDoor.lenB H.blks:=by
       have h4:=ha.2.2.2;rw[List.drop_of_length_le (by omega)]at h4;exact h4
      have hget:(((H.out k).size k s).use k true).blks[k]?=some ⟨(aam H.blks k).off,s,true⟩:=by
       show((H.blks.set k _).set k _)[k]?=_;rw[List.getElem?_set_self (by rw[List.length_set];exact hkl)];have e2:aam ((H.out k).size k s).blks k={aam H.blks k with size:=s}:=by
        show aam (H.blks.set k _) k=_;rw[acA _ _ _ _ hkl,if_pos rfl];rfl
       rw[e2]
      refine⟨_,List.mem_of_getElem? hget,hx,rfl,Nat.le_refl _,by show s<s+32;omega,fun y hy hu=> .inl ?_⟩;have hm:=(aak _ _ _ ht).2 y hy;have hys:=(aab _).1 hm.2.2.1;show y.off+y.size<=(aam H.blks k).off;rcases aaG _ _ _ ht y hy _ (List.mem_of_getElem? (aas hkl))with h' | h' | h'
      · rw[h',hu0]at hu;cases hu
      · exact h'
      · omega
    · have e:H.take s=(some (Go.Proofs.YtncadccbepjekaaGreatDoor.lenB H.blks),H.put H.blks.length ⟨Go.Proofs.YtncadccbepjekaaGreatDoor.lenB H.blks,s,true⟩):=by unfold Hp.take;rw[hf];dsimp only;rw[if_neg hr,if_neg htl]
      rw[e]at hx ⊢;injection hx with hx;refine⟨⟨Go.Proofs.YtncadccbepjekaaGreatDoor.lenB H.blks,s,true⟩,?_,hx,rfl,Nat.le_refl _,by show s<s+32;omega,fun y hy hu=> .inl ((aak _ _ _ ht).2 y hy).2.1⟩;show _∈H.blks.take _++_::H.blks.drop _;simp
end
theorem aes{l:List Bk}{k:Nat}{v x:Bk}(hx:x∈l) (hne:x≠aam l k):x∈l.set k v:=by
 obtain⟨j,hj⟩:=List.mem_iff_getElem?.1 hx;have hjk:k≠j:=fun e=>by
  subst e;exact hne (aa9 hj).symm
 exact List.mem_of_getElem? ((List.getElem?_set_ne hjk).trans hj)
section
variable {H:Hp} {i s:Nat} {x:Bk}
theorem amW (hi:i+1<H.blks.length) (h1:(aam H.blks i).used=false) (h2:(aam H.blks (i+1)).used=false) (hx:x∈H.blks) (hu:x.used=true):x∈(H.join i).blks:=by
 obtain⟨j,hj⟩:=List.mem_iff_getElem?.1 hx;have e1:j≠i:=fun e=>by subst e;rw[aa9 hj,hu]at h1;cases h1
 have e2:j≠i+1:=fun e=>by subst e;rw[aa9 hj,hu]at h2;cases h2
 rw[acN H hi];rcases Nat.lt_or_ge j i with h | h
 · exact List.mem_append_left _ (List.mem_of_getElem? ((List.getElem?_take_of_lt h).trans hj))
 · refine List.mem_append_right _ (List.mem_cons_of_mem _ ?_);refine List.mem_of_getElem? (i:=j-(i+2)) ?_;rw[List.getElem?_drop,show i+2+(j-(i+2))=j by omega];exact hj
theorem ap4 (h:acJ H.blks i=true):(aam H.blks (i+1)).used=false:=by
 unfold acJ at h;rw[Bool.and_eq_true]at h;simpa using h.2
theorem aks (h:aiM H.blks i=true):0<i/\(aam H.blks (i-1)).used=false:=by
 unfold aiM at h;rw[Bool.and_eq_true,decide_eq_true_eq]at h;exact⟨h.1,by simpa using h.2⟩
theorem amX (hi:i<H.blks.length) (hx:x∈H.blks) (hu:x.used=true) (hne:x≠aam H.blks i):x∈(H.give i).blks:=by
 have m1:x∈((H.use i false).wipe i).blks:=aes (v:={aam H.blks i with used:=false}) hx hne;have f1:aam ((H.use i false).wipe i).blks i={aam H.blks i with used:=false}:=by
  show aam (H.blks.set i _) i=_;rw[acA _ _ _ _ hi,if_pos rfl]
 have l1:i<((H.use i false).wipe i).blks.length:=by show i<(H.blks.set i _).length;rw[List.length_set];exact hi
 unfold Hp.give;obtain⟨H1,hH1⟩:=nmE ((H.use i false).wipe i);rw[hH1]at m1 f1 l1 ⊢;have f1u:(aam H1.blks i).used=false:=by rw[f1]
 have m2:x∈(H1.giveB i).blks:=by
  unfold Hp.giveB;split
  · rename_i hn;exact amW (H:=H1.out (i+1)) (afA hn) f1u (ap4 hn) m1 hu
  · exact m1
 have l2:=amJ (H:=H1) l1;have f2:(aam (H1.giveB i).blks i).used=false:=by
  unfold Hp.giveB;split
  · rename_i hn;rw[(aiW (H1.out (i+1)) (i:=i) (afA hn)).2.1];exact f1u
  · exact f1u
 unfold Hp.giveC;split
 · rename_i hp;obtain⟨hp1,hp2⟩:=aks hp;have e:i-1+1=i:=by omega
   exact amW (H:=(H1.giveB i).out (i-1)) (i:=i-1) (by show i-1+1<(H1.giveB i).blks.length;omega) hp2 (by rw[e];exact f2) m2 hu
 · exact m2
theorem atN (ht:abA 184 H.blks (lenB H.blks)) (hi:i<H.blks.length) (hs:aaB (s:Int)=true) (hx:x∈H.blks) (hu:x.used=true) (hne:x≠aam H.blks i):x∈(H.cut i s).blks:=by
 unfold Hp.cut;split
 · exact aes (v:={aam H.blks i with used:=true}) hx hne
 · rename_i hge;obtain⟨y,hy⟩:∃y:Bk,(⟨(aam H.blks i).off+s,(aam H.blks i).size-s,true⟩:Bk)=y:=⟨_,rfl⟩;rw[hy];have hb:=ae8 (s:=s) H hi y;have hln:=alq (s:=s) H hi y;obtain⟨H2,hH2⟩:=nmE (((H.use i true).size i s).put (i+1) y);rw[hH2]at hb hln ⊢;have hss:=(aab _).1 hs;have hx2:x∈H2.blks:=by
    rw[hb];obtain⟨j,hj⟩:=List.mem_iff_getElem?.1 hx;have e1:j≠i:=fun e=>by subst e;exact hne (aa9 hj).symm
    rcases Nat.lt_or_ge j i with h | h
    · exact List.mem_append_left _ (List.mem_of_getElem? ((List.getElem?_take_of_lt h).trans hj))
    · refine List.mem_append_right _ (List.mem_cons_of_mem _ (List.mem_cons_of_mem _ ?_));refine List.mem_of_getElem? (i:=j-(i+1)) ?_;rw[List.getElem?_drop,show i+1+(j-(i+1))=j by omega];exact hj
   have hat:aam H2.blks (i+1)=y:=aa9 (by
    rw[hb,List.getElem?_append_right (by rw[List.length_take];omega),List.length_take,show i+1-min i H.blks.length=1 by omega];rfl)
   refine amX (H:=H2) (by omega) hx2 hu (fun e=> ?_);rw[hat,<-hy]at e;have hxs:=(aab _).1 ((aak _ _ _ ht).2 x hx).2.2.1;have e2:x.off=(aam H.blks i).off+s:=by rw[e]
   rcases aaG _ _ _ ht x hx _ (List.mem_of_getElem? (aas hi))with h | h | h
   · exact hne h
   · omega
   · omega
theorem ai4 (ht:abA 184 H.blks (lenB H.blks)) (hs:aaB (s:Int)=true) (hfr:∀i,H.find s=some i->i<H.blks.length/\(aam H.blks i).used=false) (hx:x∈H.blks) (hu:x.used=true):x∈(H.take s).2.blks:=by
 unfold Hp.take;split
 · rename_i i hf;obtain⟨h1,h2⟩:=hfr i hf;exact atN (H:=H.out i) ht h1 hs hx hu (fun e=>by
    have e:x=aam H.blks i:=e;rw[e,h2]at hu;cases hu)
 · split
   · exact hx
   · split
     · rename_i htl;have hn:0<H.blks.length:=List.length_pos_of_mem hx;have hu0:(aam H.blks (H.blks.length-1)).used=false:=by
        cases hu':(aam H.blks (H.blks.length-1)).used with
        | false=>rfl
        | true=>unfold acp at htl;rw[if_neg (by omega),if_pos hu']at htl;omega
       obtain⟨k,hk⟩:=nmE (H.blks.length-1);rw[hk]at hu0 ⊢;have hne:x≠aam H.blks k:=fun e=>by rw[e,hu0]at hu;cases hu
       have m1:x∈((H.out k).size k s).blks:=aes (v:={aam H.blks k with size:=s}) hx hne;refine aes (l:=((H.out k).size k s).blks) (k:=k) (v:={aam ((H.out k).size k s).blks k with used:=true}) m1 (fun e=> ?_);have e2:aam ((H.out k).size k s).blks k={aam H.blks k with size:=s}:=by
        show aam (H.blks.set k _) k=_;rw[acA _ _ _ _ (by omega),if_pos rfl];rfl
       rw[e2]at e;rw[e]at hu;have hu:(aam H.blks k).used=true:=hu;rw[hu0]at hu
       cases hu
     · show x∈H.blks.take _++_::H.blks.drop _;rw[List.take_length];exact List.mem_append_left _ hx
end
section
variable {bs:List UInt8} {H:Hp} {s:Nat}
theorem Rt.moves (h:Rt bs H) (hs:aaB (s:Int)=true){o:Int}:∀i q,aaY H.blks o=some i->(H.take s).1=some q->∃iq io,atB (q:Int) (H.take s).2.blks=some iq/\atB o (H.take s).2.blks=some io:=fun i q hu hq=>by
 have ht:abA 184 H.blks (Go.Proofs.YtncadccbepjekaaGreatDoor.lenB H.blks):=by rw[h.lenE];exact(aaj h.walk).2.1
 obtain⟨x,hx,hxo,_⟩:=h.what hs hq;obtain⟨iq,hiq⟩:=afv hx;have hib:i<H.blks.length/\((aam H.blks i).off:Int)=o/\(aam H.blks i).used=true:=by
  unfold aaY at hu;split at hu
  · cases hu
  · rename_i j hj;split at hu
    · rename_i hus;injection hu with hu;subst hu;exact⟨(afQ hj).1,(afQ hj).2,hus⟩
    · cases hu
 obtain⟨io,hio⟩:=afv (ai4 ht hs (fun j hj=>by obtain⟨a,_,c⟩:=h.found hs hj;exact⟨a,c⟩) (List.mem_of_getElem? (aas hib.1)) hib.2.2);rw[hxo]at hiq;rw[hib.2.1]at hio;exact⟨iq,io,hiq,hio⟩
end
theorem au0{α:Type}(l:List α) (i j:Nat):(l.take i++l.drop (i+1))[j]?=if j<i then l[j]? else l[j+1]?:=by
 rcases Nat.lt_or_ge j i with h | h
 · rw[if_pos h];rcases Nat.lt_or_ge j l.length with h2 | h2
   · rw[List.getElem?_append_left (by rw[List.length_take];omega),List.getElem?_take_of_lt h]
   · rw[List.getElem?_append_right (by rw[List.length_take];omega),List.getElem?_drop,List.getElem?_eq_none (by omega),List.getElem?_eq_none (by omega)]
 · rw[if_neg (by omega)];rw[List.getElem?_append_right (by rw[List.length_take];omega),List.length_take,List.getElem?_drop];rcases Nat.lt_or_ge l.length i with h2 | h2
   · rw[List.getElem?_eq_none (by omega),List.getElem?_eq_none (by omega)]
   · congr 1;omega
theorem asQ{α:Type}(l:List α) (i j:Nat) (y:α) (hi:i<=l.length):(l.take i++y::l.drop i)[j]?=if j<i then l[j]? else if j=i then some y else l[j-1]?:=by
 rcases Nat.lt_or_ge j i with h | h
 · rw[if_pos h,List.getElem?_append_left (by rw[List.length_take];omega),List.getElem?_take_of_lt h]
 · rw[if_neg (by omega),List.getElem?_append_right (by rw[List.length_take];omega),List.length_take];by_cases e:j=i
   · rw[if_pos e,show j-min i l.length=0 by omega];rfl
   · rw[if_neg e,show j-min i l.length=(j-1-i)+1 by omega,List.getElem?_cons_succ,List.getElem?_drop];congr 1;omega
def Hp.At (H:Hp) (j:Nat) (x:Bk) (d:Dt):Prop:=H.blks[j]?=some x/\H.ds[j]?=some d
section
variable {H:Hp} {i j k s:Nat} {x:Bk} {d:Dt}
theorem ap5 (h:(H.drop k).At j x d):∃j',j'≠k/\H.At j' x d/\(j<k->j'=j)/\(k<=j->j'=j+1):=by
 obtain⟨h1,h2⟩:=h;have h1:(H.blks.take k++H.blks.drop (k+1))[j]?=some x:=h1;have h2:(H.ds.take k++H.ds.drop (k+1))[j]?=some d:=h2;rw[au0]at h1 h2;split at h1
 · rename_i hj;rw[if_pos hj]at h2;exact⟨j,by omega,⟨h1,h2⟩,fun _=>rfl,fun h=>by omega⟩
 · rename_i hj;rw[if_neg hj]at h2;exact⟨j+1,by omega,⟨h1,h2⟩,fun h=>by omega,fun _=>rfl⟩
theorem asR{y:Bk}{l:List Bk}(h1:(l.set i y)[j]?=some x):(j=i/\x=y/\i<l.length)\/(j≠i/\l[j]?=some x):=by
 rw[List.getElem?_set]at h1;split at h1
 · rename_i e;split at h1
   · rename_i hi;injection h1 with h1;exact .inl ⟨e.symm,h1.symm,hi⟩
   · cases h1
 · rename_i e;exact .inr ⟨fun e'=>e e'.symm,h1⟩
theorem ag5 (h:(H.size i s).At j x d):∃x0,H.At j x0 d/\x0.off=x.off/\x0.used=x.used/\(j≠i->x0=x):=by
 obtain⟨h1,h2⟩:=h;rcases asR h1 with⟨rfl,rfl,hi⟩ | ⟨hj,h1⟩
 · exact⟨aam H.blks j,⟨aas hi,h2⟩,rfl,rfl,fun e=>absurd rfl e⟩
 · exact⟨x,⟨h1,h2⟩,rfl,rfl,fun _=>rfl⟩
theorem amY{u:Bool}(h:(H.use i u).At j x d):(j=i/\x={aam H.blks i with used:=u}/\i<H.blks.length/\H.ds[i]?=some d)\/(j≠i/\H.At j x d):=by
 obtain⟨h1,h2⟩:=h;rcases asR h1 with⟨rfl,h3,h4⟩ | ⟨hj,h1⟩
 · exact .inl ⟨rfl,h3,h4,h2⟩
 · exact .inr ⟨hj,h1,h2⟩
theorem ap6 (h:(H.wipe i).At j x d) (hj:j≠i):H.At j x d:=by
 obtain⟨h1,h2⟩:=h;have h2:(H.ds.set i acI)[j]?=some d:=h2;rw[List.getElem?_set_ne (fun e=>hj e.symm)]at h2;exact⟨h1,h2⟩
theorem ap7 (h:(H.join i).At j x d):(∃x0,H.At i x0 d/\x0.off=x.off/\x0.used=x.used)\/∃j',j'≠i/\j'≠i+1/\H.At j' x d:=by
 unfold Hp.join at h;obtain⟨j',hj,h,_⟩:=ap5 h;obtain⟨x0,h1,h2,h3,h4⟩:=ag5 h;by_cases e:j'=i
 · subst e;exact .inl ⟨x0,h1,h2,h3⟩
 · rw[h4 e]at h1;exact .inr ⟨j',e,hj,h1⟩
theorem alI (h:H.blks[j]?=some x) (hu:(aam H.blks j).used=false):x.used=false:=by rw[<-aa9 h];exact hu
theorem alJ (hi:i<H.blks.length) (h:(H.give i).At j x d) (hu:x.used=true):∃j',j'≠i/\H.At j' x d:=by
 unfold Hp.give at h;have f0:aam ((H.use i false).wipe i).blks i={aam H.blks i with used:=false}:=by
  show aam (H.blks.set i _) i=_;rw[acA _ _ _ _ hi,if_pos rfl]
 have fin:∀j',((H.use i false).wipe i).At j' x d->∃j',j'≠i/\H.At j' x d:=fun j' hh=>by
  by_cases e:j'=i
  · subst e;have:=alI hh.1 (by rw[f0]);rw[hu]at this;cases this
  · have hw:=ap6 hh e;rcases amY hw with⟨e',_⟩ | ⟨_,hw⟩
    · exact absurd e' e
    · exact⟨j',e,hw⟩
 obtain⟨H1,hH1⟩:=nmE ((H.use i false).wipe i);have hi1:i<H1.blks.length:=by rw[<-hH1];show i<(H.blks.set i _).length;rw[List.length_set];exact hi
 rw[hH1]at h f0 fin;have f1:(aam H1.blks i).used=false:=by rw[f0]
 have mid:∀j',(H1.giveB i).At j' x d->∃j',j'≠i/\H.At j' x d:=fun j' hh=>by
  unfold Hp.giveB at hh;split at hh
  · rcases ap7 (H:=H1.out (i+1)) hh with⟨x0,h1,h2,h3⟩ | ⟨j2,_,_,h1⟩
    · have:x0.used=false:=alI (H:=H1) h1.1 f1;rw[h3,hu]at this;cases this
    · exact fin j2 ⟨h1.1,h1.2⟩
  · exact fin j' hh
 obtain⟨H2,hH2⟩:=nmE (H1.giveB i);rw[hH2]at h mid;unfold Hp.giveC at h;split at h
 · rename_i hp;have hp:=(aks hp).2;rcases ap7 (H:=H2.out (i-1)) (i:=i-1) ⟨h.1,h.2⟩with⟨x0,h1,h2,h3⟩ | ⟨j2,_,_,h1⟩
   · have:x0.used=false:=alI (H:=H2) h1.1 hp;rw[h3,hu]at this;cases this
   · exact mid j2 ⟨h1.1,h1.2⟩
 · exact mid j ⟨h.1,h.2⟩
theorem ap8 (hd:H.Dl) (hi:i<H.blks.length) (h:(H.cut i s).At j x d) (hu:x.used=true):(∃x0,H.At i x0 d/\x0.off=x.off)\/∃j',j'≠i/\H.At j' x d:=by
 unfold Hp.cut at h;split at h
 · rcases amY h with⟨rfl,rfl,h3,h4⟩ | ⟨hj,h⟩
   · exact .inl ⟨aam H.blks j,⟨aas h3,h4⟩,rfl⟩
   · exact .inr ⟨j,hj,h⟩
 · have hlen:((H.use i true).size i s).blks.length=H.blks.length:=by
    show((H.blks.set i _).set i _).length=_;rw[List.length_set,List.length_set]
   have hlp:i+1<(((H.use i true).size i s).put (i+1) ⟨(aam H.blks i).off+s,(aam H.blks i).size-s,true⟩).blks.length:=by
    show i+1<(((H.use i true).size i s).blks.take (i+1)++_::((H.use i true).size i s).blks.drop (i+1)).length;simp only[List.length_append,List.length_take,List.length_cons,List.length_drop];omega
   obtain⟨j1,hj1,h1⟩:=alJ hlp h hu;obtain⟨a,b⟩:=h1;have a:(((H.use i true).size i s).blks.take (i+1)++_::((H.use i true).size i s).blks.drop (i+1))[j1]?=some x:=a;have b:(H.ds.take (i+1)++acI::H.ds.drop (i+1))[j1]?=some d:=b;have hd:H.ds.length=H.blks.length:=hd;rw[asQ _ _ _ _ (by omega)]at a b;have key:∀j2,((H.use i true).size i s).blks[j2]?=some x->H.ds[j2]?=some d->(∃x0,H.At i x0 d/\x0.off=x.off)\/∃j',j'≠i/\H.At j' x d:=fun j2 a b=>by
    obtain⟨x0,c1,c2,c3,c4⟩:=ag5 (H:=H.use i true) (i:=i) (s:=s) (j:=j2) ⟨a,b⟩;rcases amY c1 with⟨rfl,rfl,h3,h4⟩ | ⟨hj,c1⟩
    · exact .inl ⟨aam H.blks j2,⟨aas h3,h4⟩,c2⟩
    · rw[c4 hj]at c1;exact .inr ⟨j2,hj,c1⟩
   by_cases e:j1<i+1
   · rw[if_pos e]at a b;exact key j1 a b
   · rw[if_neg e,if_neg hj1]at a b;exact key _ a b
theorem alK (hd:H.Dl) (hfr:∀i,H.find s=some i->i<H.blks.length/\(aam H.blks i).used=false) (h:(H.take s).2.At j x d) (hu:x.used=true):(H.take s).1=some x.off\/∃j',H.At j' x d:=by
 unfold Hp.take at h ⊢;split at h
 · rename_i i hf;rcases ap8 (H:=H.out i) hd (hfr i hf).1 h hu with⟨x0,h1,h2⟩ | ⟨j',_,h1⟩
   · left;rw[<-h2,aa9 (show H.blks[i]?=some x0 from h1.1)]
   · exact .inr ⟨j',h1.1,h1.2⟩
 · rename_i hf;split at h
   · exact .inr ⟨j,h⟩
   · rename_i hcp;rw[if_neg hcp];split at h
     · rename_i htl;rw[if_pos htl];rcases amY h with⟨rfl,rfl,h3,h4⟩ | ⟨hj,h⟩
       · left;have h3:H.blks.length-1<H.blks.length:=by
          have h3:H.blks.length-1<(H.blks.set _ _).length:=h3;rw[List.length_set]at h3;exact h3
         show some (aam H.blks (H.blks.length-1)).off=some (aam (H.blks.set (H.blks.length-1) {aam H.blks (H.blks.length-1)with size:=s}) (H.blks.length-1)).off;rw[acA _ _ _ _ h3,if_pos rfl]
       · obtain⟨x0,c1,c2,c3,c4⟩:=ag5 (H:=H.out (H.blks.length-1)) h;rw[c4 hj]at c1;exact .inr ⟨j,c1.1,c1.2⟩
     · rename_i htl;rw[if_neg htl];obtain⟨a,b⟩:=h;have a:(H.blks.take H.blks.length++_::H.blks.drop H.blks.length)[j]?=some x:=a;have b:(H.ds.take H.blks.length++acI::H.ds.drop H.blks.length)[j]?=some d:=b;have hd:H.ds.length=H.blks.length:=hd;rw[asQ _ _ _ _ (by omega)]at a b;by_cases e:j<H.blks.length
       · rw[if_pos e]at a b;exact .inr ⟨j,a,b⟩
       · rw[if_neg e]at a b;by_cases e2:j=H.blks.length
         · rw[if_pos e2]at a;injection a with a;left;rw[<-a]
         · rw[if_neg e2]at a b;exact .inr ⟨_,a,b⟩
end
end Go.Proofs.YtncadccbepjekaaGreatDoor
