/- Texts of mine, joined. -/
import Derived.Test.YtncadccbepjekaaGreatDoorU35
set_option maxRecDepth 100000
set_option maxHeartbeats 4000000
namespace Go.Proofs.YtncadccbepjekaaGreatDoor
open Go.RowKit
def stV (s:St5):Value:= .agg #[.int .i64 (s.used:Int), .int .i64 (s.free:Int), .int .i64 (s.bytes:Int), .int .i64 (s.len:Int), .int .i64 (s.cap:Int)]
def aqI (a b c d e:Nat):Array Value:= #[.int .i64 (a:Int), .int .i64 (b:Int), .int .i64 (c:Int), .int .i64 (d:Int), .int .i64 (e:Int)]
theorem aom (l:List Bk) (x:Bk):abt (l++ [x])=if x.used=true then ((abt l).1+1,(abt l).2.1,(abt l).2.2+(x.size-16)) else ((abt l).1,(abt l).2.1+1,(abt l).2.2):=by
 induction l with
 | nil=>simp[abt]
 | cons y r ih=>
  rw[List.cons_append];unfold abt;rw[ih];by_cases hx:x.used=true<;>by_cases hy:y.used=true<;>simp[hx,hy]<;>omega
theorem ani (l:List Bk):(abt l).1<=l.length/\(abt l).2.1<=l.length/\(abt l).2.2<=abc l:=by
 induction l with
 | nil=>simp[abt,abc]
 | cons y r ih=>
  unfold abt;rw[List.length_cons];simp only[abc];split<;>dsimp only<;>omega
theorem afZ (l:List Bk) (j:Nat):abc (l.take j)<=abc l:=by
 have:=ae2 (l.take j) (l.drop j);rw[List.take_append_drop]at this;omega
theorem adL{w:World}{g:Nat}{t:TypeId}{a b c d e:Value}(h:w.heap[g]?=some (.cells #[a,b,c,d,e] t (0,0))):
 (w.cell? ⟨g,0,none⟩=some a/\w.cell? ⟨g,1,none⟩=some b/\w.cell? ⟨g,2,none⟩=some c/\w.cell? ⟨g,3,none⟩=some d/\w.cell? ⟨g,4,none⟩=some e)/\
 (w.frozen? ⟨g,0,none⟩=false/\w.frozen? ⟨g,1,none⟩=false/\w.frozen? ⟨g,2,none⟩=false/\w.frozen? ⟨g,3,none⟩=false/\w.frozen? ⟨g,4,none⟩=false):=by
 refine⟨⟨?_,?_,?_,?_,?_⟩,frozen_of_row w g 0 _ _ h,frozen_of_row w g 1 _ _ h,frozen_of_row w g 2 _ _ h,frozen_of_row w g 3 _ _ h,frozen_of_row w g 4 _ _ h⟩
 · rw[cell_of_row w g 0 _ _ (0,0) h];rfl
 · rw[cell_of_row w g 1 _ _ (0,0) h];rfl
 · rw[cell_of_row w g 2 _ _ (0,0) h];rfl
 · rw[cell_of_row w g 3 _ _ (0,0) h];rfl
 · rw[cell_of_row w g 4 _ _ (0,0) h];rfl
theorem aqJ{w:World}{g:Nat}{t:TypeId}{a b c d e:Value}(h:w.heap[g]?=some (.cells #[a,b,c,d,e] t (0,0))) (x0 x1 x2 x3 x4:Value):
 (((((w.setCell ⟨g,0,none⟩ x0).setCell ⟨g,1,none⟩ x1).setCell ⟨g,2,none⟩ x2).setCell ⟨g,3,none⟩ x3).setCell ⟨g,4,none⟩ x4).heap[g]?=some (.cells #[x0,x1,x2,x3,x4] t (0,0)):=by
 have h1:=heap_setCell_same w g 0 _ _ x0 h;have h2:=heap_setCell_same _ g 1 _ _ x1 h1;have h3:=heap_setCell_same _ g 2 _ _ x2 h2;have h4:=heap_setCell_same _ g 3 _ _ x3 h3;have h5:=heap_setCell_same _ g 4 _ _ x4 h4;rw[h5];rfl
theorem ahq (ρ:Operand->Value) (o:Oper) (ho:o.op= .alloc 48) (w:World):
 (execOp ρ o).run Tryz.prog w= .ok (.value (.pointer (some ⟨w.heap.size,0,none⟩))) (w.alloc (.cells #[.int .i64 0, .int .i64 0, .int .i64 0, .int .i64 0, .int .i64 0] 48)):=by
 unfold execOp;simp only[ho];simp[go_sem]
theorem aue{fn:Func}{R:Ending->World->Prop}{a:Act}{w:World}{p:Tmp}{g:Nat}{x0 x1 x2 x3 x4:Int}(hres:fn.results= #[.cell p 48]) (hp:a.tmps.getD p undef= .pointer (some ⟨g,0,none⟩)) (hd:a.defers= [])
 (hg:w.heap[g]?=some (.cells #[.int .i64 x0, .int .i64 x1, .int .i64 x2, .int .i64 x3, .int .i64 x4] 48 (0,0))) (hR:R (.returned (.agg #[.int .i64 x0, .int .i64 x1, .int .i64 x2, .int .i64 x3, .int .i64 x4])) w):bodyPost Tryz.prog fn R .ret a w:=by
 refine bodyPost_ret (v:= .agg #[.int .i64 x0, .int .i64 x1, .int .i64 x2, .int .i64 x3, .int .i64 x4]) ?_ hd hR;exact results_cell_row hres _ _ g _ _ _ _ hp hg rfl rfl rfl
section
variable {w w':World} {q g base cap c:Nat} {A:Option Addr} {bs out:List UInt8} {H H':Hp}
theorem aeR (h:PH w q g base cap A c bs H):
 Calls Tryz.prog 52 #[.pointer (some ⟨q,0,none⟩)] w fun e w'=>e= .returned (stV H.stats)/\Below w.heap.size w w':=by
 have hl:=h.len;have hst:H.stats=⟨(abt H.blks).1,(abt H.blks).2.1,(abt H.blks).2.2,bs.length,cap⟩:=by unfold Hp.stats;rw[h.rd.rt.lenE,h.cp]
 rw[hst];have hsum:184+abc H.blks=bs.length:=h.rd.rt.lenE;have hbd:=(h.rd.rt.bound (by rw[h.cp];exact h.c16)).2;have hwk:=h.rd.rt.walk;have hc16:=h.c16;have hb62:=h.b62;have hn512:=((h.rd.rt.ok (by rw[h.cp];exact h.c16) h.rd.dl)).n;obtain⟨l,hl0⟩:=nmE H.blks;rw[hl0]at hsum hbd hwk hn512 ⊢;obtain⟨n,hn⟩:=nmE bs.length;rw[hn]at hl hsum hbd ⊢;obtain⟨z1,hz1⟩:=nmE ((abt l).1);obtain⟨z2,hz2⟩:=nmE ((abt l).2.1);obtain⟨z3,hz3⟩:=nmE ((abt l).2.2);rw[hz1,hz2,hz3];have HZ:=hE0 (show(abt l).1=z1/\(abt l).2.1=z2/\(abt l).2.2=z3 from⟨hz1,hz2,hz3⟩);clear hz1 hz2 hz3;obtain⟨w1,hw1⟩:=nmE (w.alloc (.cells #[.int .i64 0, .int .i64 0, .int .i64 0, .int .i64 0, .int .i64 0] 48));obtain⟨wd,hwd⟩:=nmE w1.drew;have hbd1:Below w.heap.size w wd:=by rw[<-hwd,<-hw1];exact((Below.refl _ _).alloc (Nat.le_refl _) _).drew
 have n1:wd.heap[w.heap.size]?=some (.cells #[.int .i64 0, .int .i64 0, .int .i64 0, .int .i64 0, .int .i64 0] 48 (0,0)):=by rw[<-hwd,<-hw1];exact heap_alloc_new w _
 have h1:=h.below hbd1;have k0:=h1.c0;have hlq:=h1.lt;have hLN:=abL h1.ar;have hCP:=ak7 h1.ar;rw[hn]at hLN;have HLN:=hE0 hLN;have HNL:=hE0 hn;have HCP:=hE0 hCP;have HBD:=hE0 hbd;have HB1:=hE0 hbd1;have HN1:=hE0 n1;have HW1:=hE0 hw1;have HWD:=hE0 hwd;have H1:=hE0 h1;have HWK:=hE0 hwk;clear h hst hbd hw1 hwd hbd1 n1 h1 hLN hCP hn hwk hl0;go_enter Tryz.func52,Tryz.ntmps52
 go_wp2_with (first | (rw[HW1.out]) | fail)
 refine Code.wp_mono (Q:=fun ex a' w'=>ex= .normal/\∃p,wd.heap.size<=p/\Below wd.heap.size wd w'/\w'.heap[p]?=some (.cells (aqI 0 0 0 n cap) 48 (0,0))/\a'={tmps:= #[.pointer (some ⟨q,0,none⟩),undef, .pointer (some ⟨w.heap.size,0,none⟩), .pointer (some ⟨p,0,none⟩),undef,undef,undef,undef, .pointer (some ⟨q,0,none⟩), .pointer (some ⟨q,0,none⟩), .pointer (some ⟨q,0,none⟩), .pointer (some ⟨g,0,none⟩), .int .i64 (n:Int), .pointer (some ⟨q,0,none⟩), .pointer (some ⟨q,0,none⟩), .pointer (some ⟨q,0,none⟩), .pointer (some ⟨g,0,none⟩), .int .i64 (cap:Int), .agg #[.int .i64 0, .int .i64 0, .int .i64 0, .int .i64 (n:Int), .int .i64 (cap:Int)],undef,undef,undef,undef,undef,undef,undef,undef,undef,undef,undef,undef,undef,undef,undef,undef,undef,undef,undef,undef,undef,undef,undef,undef,undef,undef,undef,undef,undef,undef,undef,undef,undef],defers:= []}) ?cont ?reg
 case reg=>
  refine ac4 wd.heap.size (.two [0,1,2,3,5,6,7,8] 4 (.two [] 9 (.one [10] 11 (.fin [])) 11 (.one [] 9 (.fin [10]))) 11 (.one [] 4 (.one [] 9 (.fin [10])))) [12] (by kernel_rfl) (by kernel_rfl) (by kernel_rfl) (fun _ _ _ _ _ h=>absurd h.1 (by nofun)) ?_;rw[HWD.out];have q0:=tfE k0 hlq;refine aeU (l:= ?seg1) ?hseg1 ?_
  case hseg1=>simp only[pick,lE1,lE2,lE3];rfl
  repeat (go_big_quiet_step (fail))
  refine wpQuiet_nil ?_;clear q0 k0;refine⟨?wayA,?wayC⟩
  case wayA=>
   refine aau (vs:= #[.pointer (some ⟨g,0,none⟩)]) Tryz.call97 rfl rfl rfl (R:=fun r w'=>r= .int .i64 (n:Int)/\w'=wd) (HLN.out.mono ?_) wd.heap.size (Nat.le_refl _) ?_
   · rintro e w' ⟨rfl,rfl⟩;exact⟨_,rfl,Below.refl _ _,rfl,rfl⟩
   rintro r w2 _ ⟨rfl,rfl⟩;refine aeU (l:= []) rfl (wpQuiet_nil ?_);simp only[Act.put,lE4,lE5,lE6];refine⟨?wayB,?wayD⟩
   case wayB=>
    refine aau (vs:= #[.pointer (some ⟨g,0,none⟩)]) Tryz.call57 rfl rfl rfl (R:=fun r w'=>r= .int .i64 (cap:Int)/\w'=w2) (HCP.out.mono ?_) w2.heap.size (Nat.le_refl _) ?_
    · rintro e w' ⟨rfl,rfl⟩;exact⟨_,rfl,Below.refl _ _,rfl,rfl⟩
    rintro r w3 _ ⟨rfl,rfl⟩;refine aeT (l:= ?seg2) ?hseg2 ?_
    case hseg2=>simp only[pick,lE1,lE2,lE3];rfl
    simp only[Act.put,lE4,lE5,lE6];repeat (go_big_quiet_step (fail))
    refine wpQuiet_nil ?_;refine ab3 (some 3) rfl rfl rfl (ahq _ _ rfl w3) ((Below.refl _ _).alloc (Nat.le_refl _) _) ⟨w3.heap.size,Nat.le_refl _,?_⟩;simp only[Act.put,lE4,lE5,lE6];refine aeV (l:= []) (t:= ?tl2) rfl ?htl2 (wpQuiet_nil ?_)
    case htl2=>simp only[pick,lE1,lE2,lE3];rfl
    go_wp2
    exact⟨w3.heap.size,Nat.le_refl _,(Below.refl _ _).alloc (Nat.le_refl _) _,heap_alloc_new w3 _,rfl⟩
   case wayD=>
    refine ab3 (some 3) rfl rfl rfl (ahq _ _ rfl w2) ((Below.refl _ _).alloc (Nat.le_refl _) _) ⟨w2.heap.size,Nat.le_refl _,?_⟩;simp only[Act.put,lE4,lE5,lE6];obtain⟨w3,hw3⟩:=nmE (w2.alloc (.cells #[.int .i64 0, .int .i64 0, .int .i64 0, .int .i64 0, .int .i64 0] 48));have hb3:=abE hw3;have n3:=anE hw3;rw[hw3];have hC3:=ak7 (H1.out.below hb3).ar;refine aeT (l:= []) rfl (wpQuiet_nil ?_);refine aau (vs:= #[.pointer (some ⟨g,0,none⟩)]) Tryz.call57 rfl rfl rfl (R:=fun r w'=>r= .int .i64 (cap:Int)/\w'=w3) (hC3.mono ?_) w2.heap.size (Nat.le_refl _) ?_
    · rintro e w' ⟨rfl,rfl⟩;exact⟨_,rfl,Below.refl _ _,rfl,rfl⟩
    rintro r w4 _ ⟨rfl,rfl⟩;refine aeV (l:= ?la3) (t:= ?tl3) ?hla3 ?htl3 ?_
    case hla3=>simp only[pick,lE1,lE2,lE3];rfl
    case htl3=>simp only[pick,lE1,lE2,lE3];rfl
    simp only[Act.put,lE4,lE5,lE6];repeat (go_big_quiet_step (fail))
    refine wpQuiet_nil ?_;obtain⟨⟨c0,c1,c2,c3,c4⟩,f0,f1,f2,f3,f4⟩:=adL n3;have hlt3:=aae n3;have HB3:=hE0 hb3;have HN3:=hE0 n3;clear hw3 hb3 n3 hC3;go_wp2
    exact⟨w2.heap.size,Nat.le_refl _,((((HB3.out.setCell (Nat.le_refl _) _).setCell (Nat.le_refl _) _).setCell (Nat.le_refl _) _).setCell (Nat.le_refl _) _).setCell (Nat.le_refl _) _,aqJ HN3.out _ _ _ _ _,rfl⟩
  case wayC=>
   refine ab3 (some 3) rfl rfl rfl (ahq _ _ rfl wd) ((Below.refl _ _).alloc (Nat.le_refl _) _) ⟨wd.heap.size,Nat.le_refl _,?_⟩;simp only[Act.put,lE4,lE5,lE6];obtain⟨w3,hw3⟩:=nmE (wd.alloc (.cells #[.int .i64 0, .int .i64 0, .int .i64 0, .int .i64 0, .int .i64 0] 48));have hb3:=abE hw3;have n3:=anE hw3;rw[hw3];have hC3:=ak7 (H1.out.below hb3).ar;have hL3:=abL (H1.out.below hb3).ar;rw[HNL.out]at hL3;refine aeT (l:= []) rfl (wpQuiet_nil ?_);refine aau (vs:= #[.pointer (some ⟨g,0,none⟩)]) Tryz.call97 rfl rfl rfl (R:=fun r w'=>r= .int .i64 (n:Int)/\w'=w3) (hL3.mono ?_) wd.heap.size (Nat.le_refl _) ?_
   · rintro e w' ⟨rfl,rfl⟩;exact⟨_,rfl,Below.refl _ _,rfl,rfl⟩
   rintro r w4 _ ⟨rfl,rfl⟩;refine aeT (l:= []) rfl (wpQuiet_nil ?_);simp only[Act.put,lE4,lE5,lE6];refine aau (vs:= #[.pointer (some ⟨g,0,none⟩)]) Tryz.call57 rfl rfl rfl (R:=fun r w'=>r= .int .i64 (cap:Int)/\w'=w4) (hC3.mono ?_) wd.heap.size (Nat.le_refl _) ?_
   · rintro e w' ⟨rfl,rfl⟩;exact⟨_,rfl,Below.refl _ _,rfl,rfl⟩
   rintro r w5 _ ⟨rfl,rfl⟩;refine aeV (l:= ?la4) (t:= ?tl4) ?hla4 ?htl4 ?_
   case hla4=>simp only[pick,lE1,lE2,lE3];rfl
   case htl4=>simp only[pick,lE1,lE2,lE3];rfl
   simp only[Act.put,lE4,lE5,lE6];repeat (go_big_quiet_step (fail))
   refine wpQuiet_nil ?_;obtain⟨⟨c0,c1,c2,c3,c4⟩,f0,f1,f2,f3,f4⟩:=adL n3;have hlt3:=aae n3;have HB3:=hE0 hb3;have HN3:=hE0 n3;clear hw3 hb3 n3 hC3 hL3;go_wp2
   exact⟨wd.heap.size,Nat.le_refl _,((((HB3.out.setCell (Nat.le_refl _) _).setCell (Nat.le_refl _) _).setCell (Nat.le_refl _) _).setCell (Nat.le_refl _) _).setCell (Nat.le_refl _) _,aqJ HN3.out _ _ _ _ _,rfl⟩
 case cont=>
  rintro ex a' w2 ⟨rfl,p,hp,hb2,n2,rfl⟩;have hb02:=HB1.out.trans (hb2.mono HB1.out.size);have h2:=H1.out.below hb2;have k2:=h2.c0;have hlq2:=h2.lt;have hW:=alR w2 g base cap c A bs _ h2.ar hb62 (by rw[HNL.out];exact hl) HWK.out;dsimp only[ac0,Option.isSome,Option.getD,aat]at hW;have HW:=hE0 hW;have HB2:=hE0 hb02;have HN2:=hE0 n2;have HNR:=hE0 ((hb2.block w.heap.size (aae HN1.out)).trans HN1.out);have HPW:=hE0 (show p≠w.heap.size from fun e=>by have:=aae HN1.out;omega);have HPG:=hE0 (show w.heap.size<=p from Nat.le_trans HB1.out.size hp);have hpl2:=aae n2;clear h2 hW hb02 n2 hb2 hp HB1 HN1 HLN HCP H1 HW1 HWD hlq k0;go_wp2_with fail
  refine HW.out.mono ?_;rintro e w3 ⟨A3,c3,rfl,ho3,hb3⟩;have hcl:l.length<=c3/\c3<=9223372036854775807:=by
   rcases ho3.2 with⟨h',h0⟩ | ⟨_,_,_,h',_,_,h1,h2,_⟩
   · injection h' with _ _ e;rw[h0,e];omega
   · injection h' with _ _ e;unfold maxLen at h2;omega
  have HRB:Hid (∀a,A3=some a->w2.heap.size<=a.block):=fun a e=>by subst e;exact(ho3.lt a.block rfl).1
  have HR:=hE0 (BkRd.of_own ho3);have HN3:=hE0 ((hb3.block p hpl2).trans HN2.out);have HNR3:=hE0 ((hb3.block w.heap.size (aae HNR.out)).trans HNR.out);have HB3:=hE0 (HB2.out.trans (hb3.mono HB2.out.size));have hpl3:=Nat.lt_of_lt_of_le hpl2 hb3.size;clear ho3 hb3 HW HN2 HNR HB2 k2;go_wp2
  go_loopw [29] (fun t wr=>∃j:Nat,t= .int .i64 (j:Int)/\j<=l.length/\Tch (fun k=>k=p) w3 wr/\wr.heap[p]?=some (.cells (aqI (abt (l.take j)).1 (abt (l.take j)).2.1 (abt (l.take j)).2.2 n cap) 48 (0,0))) (fun t _=>l.length-(intOf t).toNat)
  case atStart=>exact⟨0,rfl,Nat.zero_le _,Tch.refl _ _,by rw[List.take_zero];exact HN3.out⟩
  case round=>
   obtain⟨j,rfl,hj,ht,hr⟩:=hrel;have hle:=ani (l.take j);have hsb:=afZ l j;have hlt0:(l.take j).length<=512:=by rw[List.length_take];omega
   have nR:=(ht.block w.heap.size (aae HNR3.out) (Ne.symm HPW.out)).trans HNR3.out;have hfin:Below w.heap.size w wr:=HB3.out.trans (ht.below (fun k hk=>by rw[hk];exact HPG.out) HB3.out.size);by_cases hlt:j<l.length
   · obtain⟨x,hx⟩:∃x,l[j]?=some x:=⟨l[j],List.getElem?_eq_getElem hlt⟩;have htk:l.take (j+1)=l.take j++ [x]:=by
      rw[List.take_add_one,hx];rfl
     have hsn:=aom (l.take j) x;rw[<-htk]at hsn;have hsz:=HBD.out x (List.mem_of_getElem? hx);have hle2:=ani (l.take (j+1));have hsb2:=afZ l (j+1);obtain⟨b2,q2,rfl,hbb,hcl2⟩:=HR.out (by omega);have hb2p:¬(fun k=>k=p) b2:=fun e=>by
      have e:b2=p:=e;have:=HRB.out _ rfl;dsimp only at this;omega
     obtain⟨p0,p1,p2⟩:=hcl2 j x hx;have r0:=ht.cell p0 hb2p;have r1:=ht.cell p1 hb2p;have r2:=ht.cell p2 hb2p;obtain⟨xo,xs,xu⟩:=x;dsimp only at p0 p1 p2 r0 r1 r2 hsz hsn;obtain⟨s1,hs1⟩:=nmE ((abt (l.take j)).1);obtain⟨s2,hs2⟩:=nmE ((abt (l.take j)).2.1);obtain⟨s3,hs3⟩:=nmE ((abt (l.take j)).2.2);rw[hs1,hs2,hs3]at hr hle hsn;have hS:Hid (s1<=512/\s2<=512/\s3<=16384):=(show _ from⟨by omega,by omega,by omega⟩);obtain⟨hs1',hs2',hs3'⟩:=hS.out;obtain⟨w4,hw4⟩:=nmE (wr.alloc (.cells #[.int .i64 (xo:Int), .int .i64 (xs:Int), .bool xu] 112));have hb4:=abE hw4;have n4:=anE hw4;have r4:=(hb4.block p (aae hr)).trans hr;have T4:=hE0 (ht.trans (Tch.of_below (S:=fun k=>k=p) hb4) (fun _ _ h=>h));obtain⟨⟨d0,d1,d2⟩,_⟩:=aad n4;have hlt4:=aac n4;have hltp:=aac r4;obtain⟨⟨v0,v1,v2,v3,v4⟩,f0,f1,f2,f3,f4⟩:=adL r4;have HW4:=hE0 hw4;have HR4:=hE0 r4;have HN4:=hE0 n4;have HPN:=hE0 (show wr.heap.size≠p from fun e=>by have:=aae hr;omega)
     cases xu with
     | true=>
      rw[if_pos rfl]at hsn;have HUS:=hE0 (fun W=>abS W (xo:Int) xs true (by omega) (by omega));obtain⟨L,hL⟩:=nmE (xs-16);rw[hL]at HUS hsn;have hL14:L<=16384:=by omega
      obtain⟨s5,hs5⟩:=nmE (s1+1);obtain⟨s6,hs6⟩:=nmE (s3+L);have e5:(s1:Int)+1=(s5:Int):=by omega
      have e6:(s3:Int)+(L:Int)=(s6:Int):=by omega
      rw[hs5,hs6]at hsn;have HSN:=hE0 hsn;have hs5':s5<=513:=by omega
      have hs6':s6<=32768:=by omega
      obtain⟨w5,hw5⟩:=nmE (w4.setCell ⟨p,0,none⟩ (.int .i64 (s5:Int)));obtain⟨we,hwe⟩:=nmE w5.drew;have r5:we.heap[p]?=some (.cells (aqI s5 s2 s3 n cap) 48 (0,0)):=by
       rw[<-hwe,<-hw5];exact heap_setCell_same w4 p 0 _ _ (.int .i64 (s5:Int)) r4
      have n5:we.heap[wr.heap.size]?=some (.cells #[.int .i64 (xo:Int), .int .i64 (xs:Int), .bool true] 112 (0,0)):=by
       rw[<-hwe,<-hw5];exact(Below.heap_setCell w4 ⟨p,0,none⟩ _ wr.heap.size HPN.out).trans n4
      have T5:Tch (fun k=>k=p) w3 we:=by
       rw[<-hwe,<-hw5];exact(T4.out.trans (Tch.set (S:=fun k=>k=p) w4 ⟨p,0,none⟩ _ rfl) (fun _ _ h=>h)).drew
      have HW5:=hE0 hw5;have HWE:=hE0 hwe;have HR5:=hE0 r5;have HT5:=hE0 T5;have hlt5:=aac n5;have hltp5:=aac r5;obtain⟨⟨e0,e1,e2⟩,_⟩:=aad n5;obtain⟨⟨u0,u1,u2,u3,u4⟩,_⟩:=adL r5;clear hx htk hsn hsz hcl2 p0 p1 p2 ht hr hs1 hs2 hs3 hle hsb hlt0 hle2 hsb2 nR hfin hw4 hb4 n4 r4 hL hS hw5 hwe r5 n5 T5 T4 HR4 HN4 hs5 hs6;go_wp2_with (first | (rw[HW4.out]) | (rw[HW5.out]) | fail)
      refine aar we.heap.size [([0,1,2],3)] [4,5,6] [7] (by kernel_rfl) (by kernel_rfl) (by kernel_rfl) (fun _ _ _ _ _ h=>h) ?_;rw[HWE.out];have q0:=tfE u2 hltp5;have q1:=tfE e0 hlt5;have q2:=tfE e1 hlt5;have q3:=tfE e2 hlt5;refine tail_cons (l:= ?seg5) ?hseg5 ?_
      case hseg5=>simp only[pick,lE1,lE2,lE3];rfl
      repeat (go_big_quiet_step (fail))
      refine wpQuiet_nil ?_;clear q0 q1 q2 q3 u0 u1 u2 u3 u4 e0 e1 e2 v0 v1 v2 v3 v4 f0 f1 f2 f3 f4 d0 d1 d2 hlt4 hltp;refine aau (vs:= #[.agg #[.int .i64 (xo:Int), .int .i64 (xs:Int), .bool true]]) Tryz.call110 rfl rfl rfl (R:=fun r w'=>r= .int .u64 (L:Int)/\Below we.heap.size we w') ((HUS.out we).mono ?_) we.heap.size (Nat.le_refl _) ?_
      · rintro e w' ⟨rfl,hb⟩;exact⟨_,rfl,hb,rfl,hb⟩
      rintro r w6 _ ⟨rfl,hb6⟩;have r6:=(hb6.block p hltp5).trans HR5.out;obtain⟨⟨u0,u1,u2,u3,u4⟩,f0,f1,f2,f3,f4⟩:=adL r6;have hlt6:=aac r6;have HFN:Hid (Tch (fun k=>k=p) w3 (w6.setCell ⟨p,2,none⟩ (.int .i64 (s6:Int)))/\(w6.setCell ⟨p,2,none⟩ (.int .i64 (s6:Int))).heap[p]?=some (.cells (aqI s5 s2 s6 n cap) 48 (0,0))):=
       ⟨(HT5.out.trans (Tch.of_below (S:=fun k=>k=p) hb6) (fun _ _ h=>h)).trans (Tch.set (S:=fun k=>k=p) w6 ⟨p,2,none⟩ _ rfl) (fun _ _ h=>h),heap_setCell_same w6 p 2 _ _ (.int .i64 (s6:Int)) r6⟩
      clear hb6 r6;refine aaO (l:= ?la6) (t:= ?tl6) ?hla6 ?htl6 ?_
      case hla6=>simp only[pick,lE1,lE2,lE3];rfl
      case htl6=>simp only[pick,lE1,lE2,lE3];rfl
      simp only[Act.put,lE4,lE5,lE6];repeat (go_big_quiet_step (fail))
      refine wpQuiet_nil ?_;go_wp2
      go_roundw
      case rel=>exact⟨j+1,by go_num,by omega,HFN.out.1,by rw[HSN.out];exact HFN.out.2⟩
      case measure=>simp only[intOf];omega
     | false=>
      rw[if_neg (by decide)]at hsn;obtain⟨s5,hs5⟩:=nmE (s2+1);have e5:(s2:Int)+1=(s5:Int):=by omega
      rw[hs5]at hsn;have HSN:=hE0 hsn;have hs5':s5<=513:=by omega
      have HFN:Hid (Tch (fun k=>k=p) w3 (w4.setCell ⟨p,1,none⟩ (.int .i64 (s5:Int)))/\(w4.setCell ⟨p,1,none⟩ (.int .i64 (s5:Int))).heap[p]?=some (.cells (aqI s1 s5 s3 n cap) 48 (0,0))):=
       ⟨T4.out.trans (Tch.set (S:=fun k=>k=p) w4 ⟨p,1,none⟩ _ rfl) (fun _ _ h=>h),heap_setCell_same w4 p 1 _ _ (.int .i64 (s5:Int)) r4⟩
      clear hx htk hsn hsz hcl2 p0 p1 p2 ht hr hs1 hs2 hs3 hle hsb hlt0 hle2 hsb2 nR hfin hw4 hb4 n4 r4 hS hs5 T4 HR4 HN4;go_wp2_with (first | (rw[HW4.out]) | fail)
      go_roundw
      case rel=>exact⟨j+1,by go_num,by omega,HFN.out.1,by rw[HSN.out];exact HFN.out.2⟩
      case measure=>simp only[intOf];omega
   · have htl:l.take j=l:=List.take_of_length_le (by omega);rw[htl,HZ.out.1,HZ.out.2.1,HZ.out.2.2]at hr;obtain⟨⟨v0,v1,v2,v3,v4⟩,_⟩:=adL hr;obtain⟨⟨c0,c1,c2,c3',c4⟩,f0,f1,f2,f3,f4⟩:=adL nR;have hltr:=aac nR;have hltp:=aac hr;have NR:=hE0 nR;have HF:=hE0 hfin;clear hr hle hsb hlt0 ht nR hfin htl;go_wp2
     (try simp only[Exit.inBlock,Exit.then])
     refine aue (g:=w.heap.size) (x0:=(z1:Int)) (x1:=(z2:Int)) (x2:=(z3:Int)) (x3:=(n:Int)) (x4:=(cap:Int)) Tryz.results52 ?_ ?_ (aqJ NR.out _ _ _ _ _) ?_
     · rfl
     · rfl
     · exact⟨rfl,((((HF.out.setCell (Nat.le_refl _) _).setCell (Nat.le_refl _) _).setCell (Nat.le_refl _) _).setCell (Nat.le_refl _) _).setCell (Nat.le_refl _) _⟩
end
end Go.Proofs.YtncadccbepjekaaGreatDoor
