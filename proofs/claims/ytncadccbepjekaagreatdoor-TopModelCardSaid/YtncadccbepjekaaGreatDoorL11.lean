/- Texts of mine, joined. -/
import Derived.Deep.QuietTactic
import Derived.BigQuiet
import Derived.Deep.Cut
import Derived.Test.YtncadccbepjekaaGreatDoorL10
set_option maxRecDepth 100000
set_option maxHeartbeats 8000000
namespace Go.Proofs.YtncadccbepjekaaGreatDoor
open Go.RowKit
theorem ahk{w:World}{g:Nat}{t:TypeId}{y0 y1:Value}(h:w.heap[g]?=some (.cells #[y0,y1] t (0,0))):(w.cell? ⟨g,0,none⟩=some y0/\w.cell? ⟨g,1,none⟩=some y1)/\(w.frozen? ⟨g,0,none⟩=false/\w.frozen? ⟨g,1,none⟩=false)/\g<w.heap.size:=
 ⟨⟨by rw[cell_of_row w g 0 _ _ (0,0) h];rfl,by rw[cell_of_row w g 1 _ _ (0,0) h];rfl⟩,⟨frozen_of_row w g 0 _ _ h,frozen_of_row w g 1 _ _ h⟩,aaa h⟩
theorem aqZ (w:World) (t:TypeId) (y0 y1:Value):∃w',Hid (w.alloc (.cells #[y0,y1] t)=w')/\Hid (w'.heap[w.heap.size]?=some (.cells #[y0,y1] t (0,0)))/\Hid (Below w.heap.size w w'):=
 ⟨_,hE0 rfl,hE0 (heap_alloc_new w _),hE0 ((Below.refl _ _).alloc (Nat.le_refl _) _)⟩
theorem auK{w:World}{g:Nat}{t:TypeId}{y0 y1:Value}(h:Hid (w.heap[g]?=some (.cells #[y0,y1] t (0,0)))) (x0 x1:Value):∃w',Hid (((w.setCell ⟨g,0,none⟩ x0).setCell ⟨g,1,none⟩ x1)=w')/\Hid (w'.heap[g]?=some (.cells #[x0,x1] t (0,0)))/\Hid (∀B v,B<=g->Below B v w->Below B v w')/\(w.cell? ⟨g,0,none⟩=some y0/\w.cell? ⟨g,1,none⟩=some y1)/\(w.frozen? ⟨g,0,none⟩=false/\w.frozen? ⟨g,1,none⟩=false)/\g<w.heap.size:=by
 have h0:=h.out;have h1:(_:Option Obj)=some (.cells #[x0,y1] t (0,0)):=heap_setCell_same _ g 0 _ _ x0 h0;have h2:(_:Option Obj)=some (.cells #[x0,x1] t (0,0)):=heap_setCell_same _ g 1 _ _ x1 h1;exact⟨_,hE0 rfl,hE0 h2,hE0 (fun B v hB hv=>(Below.setCell (Below.setCell hv (p:=⟨g,0,none⟩) hB _) (p:=⟨g,1,none⟩) hB _)),ahk h0⟩
theorem aa4{w:World}{g:Nat}{t:TypeId}{y0 y1 y2 y3 y4 y5:Value}(h:w.heap[g]?=some (.cells #[y0,y1,y2,y3,y4,y5] t (0,0))):(w.cell? ⟨g,0,none⟩=some y0/\w.cell? ⟨g,1,none⟩=some y1/\w.cell? ⟨g,2,none⟩=some y2/\w.cell? ⟨g,3,none⟩=some y3/\w.cell? ⟨g,4,none⟩=some y4/\w.cell? ⟨g,5,none⟩=some y5)/\(w.frozen? ⟨g,0,none⟩=false/\w.frozen? ⟨g,1,none⟩=false/\w.frozen? ⟨g,2,none⟩=false/\w.frozen? ⟨g,3,none⟩=false/\w.frozen? ⟨g,4,none⟩=false/\w.frozen? ⟨g,5,none⟩=false)/\g<w.heap.size:=
 ⟨⟨by rw[cell_of_row w g 0 _ _ (0,0) h];rfl,by rw[cell_of_row w g 1 _ _ (0,0) h];rfl,by rw[cell_of_row w g 2 _ _ (0,0) h];rfl,by rw[cell_of_row w g 3 _ _ (0,0) h];rfl,by rw[cell_of_row w g 4 _ _ (0,0) h];rfl,by rw[cell_of_row w g 5 _ _ (0,0) h];rfl⟩,⟨frozen_of_row w g 0 _ _ h,frozen_of_row w g 1 _ _ h,frozen_of_row w g 2 _ _ h,frozen_of_row w g 3 _ _ h,frozen_of_row w g 4 _ _ h,frozen_of_row w g 5 _ _ h⟩,aaa h⟩
theorem acz (w:World) (t:TypeId) (y0 y1 y2 y3 y4 y5:Value):∃w',Hid (w.alloc (.cells #[y0,y1,y2,y3,y4,y5] t)=w')/\Hid (w'.heap[w.heap.size]?=some (.cells #[y0,y1,y2,y3,y4,y5] t (0,0)))/\Hid (Below w.heap.size w w'):=
 ⟨_,hE0 rfl,hE0 (heap_alloc_new w _),hE0 ((Below.refl _ _).alloc (Nat.le_refl _) _)⟩
theorem aaT{w:World}{g:Nat}{t:TypeId}{y0 y1 y2 y3 y4 y5 y6 y7 y8:Value}(h:w.heap[g]?=some (.cells #[y0,y1,y2,y3,y4,y5,y6,y7,y8] t (0,0))):(w.cell? ⟨g,0,none⟩=some y0/\w.cell? ⟨g,1,none⟩=some y1/\w.cell? ⟨g,2,none⟩=some y2/\w.cell? ⟨g,3,none⟩=some y3/\w.cell? ⟨g,4,none⟩=some y4/\w.cell? ⟨g,5,none⟩=some y5/\w.cell? ⟨g,6,none⟩=some y6/\w.cell? ⟨g,7,none⟩=some y7/\w.cell? ⟨g,8,none⟩=some y8)/\(w.frozen? ⟨g,0,none⟩=false/\w.frozen? ⟨g,1,none⟩=false/\w.frozen? ⟨g,2,none⟩=false/\w.frozen? ⟨g,3,none⟩=false/\w.frozen? ⟨g,4,none⟩=false/\w.frozen? ⟨g,5,none⟩=false/\w.frozen? ⟨g,6,none⟩=false/\w.frozen? ⟨g,7,none⟩=false/\w.frozen? ⟨g,8,none⟩=false)/\g<w.heap.size:=
 ⟨⟨by rw[cell_of_row w g 0 _ _ (0,0) h];rfl,by rw[cell_of_row w g 1 _ _ (0,0) h];rfl,by rw[cell_of_row w g 2 _ _ (0,0) h];rfl,by rw[cell_of_row w g 3 _ _ (0,0) h];rfl,by rw[cell_of_row w g 4 _ _ (0,0) h];rfl,by rw[cell_of_row w g 5 _ _ (0,0) h];rfl,by rw[cell_of_row w g 6 _ _ (0,0) h];rfl,by rw[cell_of_row w g 7 _ _ (0,0) h];rfl,by rw[cell_of_row w g 8 _ _ (0,0) h];rfl⟩,⟨frozen_of_row w g 0 _ _ h,frozen_of_row w g 1 _ _ h,frozen_of_row w g 2 _ _ h,frozen_of_row w g 3 _ _ h,frozen_of_row w g 4 _ _ h,frozen_of_row w g 5 _ _ h,frozen_of_row w g 6 _ _ h,frozen_of_row w g 7 _ _ h,frozen_of_row w g 8 _ _ h⟩,aaa h⟩
theorem abx (w:World) (t:TypeId) (y0 y1 y2 y3 y4 y5 y6 y7 y8:Value):∃w',Hid (w.alloc (.cells #[y0,y1,y2,y3,y4,y5,y6,y7,y8] t)=w')/\Hid (w'.heap[w.heap.size]?=some (.cells #[y0,y1,y2,y3,y4,y5,y6,y7,y8] t (0,0)))/\Hid (Below w.heap.size w w'):=
 ⟨_,hE0 rfl,hE0 (heap_alloc_new w _),hE0 ((Below.refl _ _).alloc (Nat.le_refl _) _)⟩
theorem awm{w:World}{g:Nat}{t:TypeId}{y0 y1 y2 y3 y4 y5 y6 y7 y8:Value}(h:Hid (w.heap[g]?=some (.cells #[y0,y1,y2,y3,y4,y5,y6,y7,y8] t (0,0)))) (x0 x1 x2 x3 x4 x5 x6 x7 x8:Value):∃w',Hid ((((((((((w.setCell ⟨g,0,none⟩ x0).setCell ⟨g,1,none⟩ x1).setCell ⟨g,2,none⟩ x2).setCell ⟨g,3,none⟩ x3).setCell ⟨g,4,none⟩ x4).setCell ⟨g,5,none⟩ x5).setCell ⟨g,6,none⟩ x6).setCell ⟨g,7,none⟩ x7).setCell ⟨g,8,none⟩ x8)=w')/\Hid (w'.heap[g]?=some (.cells #[x0,x1,x2,x3,x4,x5,x6,x7,x8] t (0,0)))/\Hid (∀B v,B<=g->Below B v w->Below B v w')/\(w.cell? ⟨g,0,none⟩=some y0/\w.cell? ⟨g,1,none⟩=some y1/\w.cell? ⟨g,2,none⟩=some y2/\w.cell? ⟨g,3,none⟩=some y3/\w.cell? ⟨g,4,none⟩=some y4/\w.cell? ⟨g,5,none⟩=some y5/\w.cell? ⟨g,6,none⟩=some y6/\w.cell? ⟨g,7,none⟩=some y7/\w.cell? ⟨g,8,none⟩=some y8)/\(w.frozen? ⟨g,0,none⟩=false/\w.frozen? ⟨g,1,none⟩=false/\w.frozen? ⟨g,2,none⟩=false/\w.frozen? ⟨g,3,none⟩=false/\w.frozen? ⟨g,4,none⟩=false/\w.frozen? ⟨g,5,none⟩=false/\w.frozen? ⟨g,6,none⟩=false/\w.frozen? ⟨g,7,none⟩=false/\w.frozen? ⟨g,8,none⟩=false)/\g<w.heap.size:=by
 have h0:=h.out;have h1:(_:Option Obj)=some (.cells #[x0,y1,y2,y3,y4,y5,y6,y7,y8] t (0,0)):=heap_setCell_same _ g 0 _ _ x0 h0;have h2:(_:Option Obj)=some (.cells #[x0,x1,y2,y3,y4,y5,y6,y7,y8] t (0,0)):=heap_setCell_same _ g 1 _ _ x1 h1;have h3:(_:Option Obj)=some (.cells #[x0,x1,x2,y3,y4,y5,y6,y7,y8] t (0,0)):=heap_setCell_same _ g 2 _ _ x2 h2;have h4:(_:Option Obj)=some (.cells #[x0,x1,x2,x3,y4,y5,y6,y7,y8] t (0,0)):=heap_setCell_same _ g 3 _ _ x3 h3;have h5:(_:Option Obj)=some (.cells #[x0,x1,x2,x3,x4,y5,y6,y7,y8] t (0,0)):=heap_setCell_same _ g 4 _ _ x4 h4;have h6:(_:Option Obj)=some (.cells #[x0,x1,x2,x3,x4,x5,y6,y7,y8] t (0,0)):=heap_setCell_same _ g 5 _ _ x5 h5;have h7:(_:Option Obj)=some (.cells #[x0,x1,x2,x3,x4,x5,x6,y7,y8] t (0,0)):=heap_setCell_same _ g 6 _ _ x6 h6;have h8:(_:Option Obj)=some (.cells #[x0,x1,x2,x3,x4,x5,x6,x7,y8] t (0,0)):=heap_setCell_same _ g 7 _ _ x7 h7;have h9:(_:Option Obj)=some (.cells #[x0,x1,x2,x3,x4,x5,x6,x7,x8] t (0,0)):=heap_setCell_same _ g 8 _ _ x8 h8;exact⟨_,hE0 rfl,hE0 h9,hE0 (fun B v hB hv=>(Below.setCell (Below.setCell (Below.setCell (Below.setCell (Below.setCell (Below.setCell (Below.setCell (Below.setCell (Below.setCell hv (p:=⟨g,0,none⟩) hB _) (p:=⟨g,1,none⟩) hB _) (p:=⟨g,2,none⟩) hB _) (p:=⟨g,3,none⟩) hB _) (p:=⟨g,4,none⟩) hB _) (p:=⟨g,5,none⟩) hB _) (p:=⟨g,6,none⟩) hB _) (p:=⟨g,7,none⟩) hB _) (p:=⟨g,8,none⟩) hB _)),aaT h0⟩
theorem afD:∀(l:List Hq) (i:Nat),abc (l.take i)=(abc l).take (i*2)
 | [],i=>by simp[abc]
 | x::r,0=>by simp[abc]
 | x::r,i+1=>by
  have e:(i+1)*2=i*2+1+1:=by omega
  rw[e];simp[abc,afD r i]
theorem afE:∀(l:List Hq) (i:Nat),abc (l.drop i)=(abc l).drop (i*2)
 | [],i=>by simp[abc]
 | x::r,0=>by simp
 | x::r,i+1=>by
  have e:(i+1)*2=i*2+1+1:=by omega
  rw[e];simp[abc,afE r i]
theorem adK:(Tryz.prog.info? 114).map (fun i=>(i.zero,i.size,i.bytes))=some (some (.agg #[.int .u64 0, .slice none 0 0]),2,32):=by kernel_rfl
theorem aiq (w:World):(Instr.buildSlice 110 0 #[]).run Tryz.prog w= .ok (.slice (some ⟨w.heap.size,0,none⟩) 0 0) (w.alloc (.cells #[] 114)):=by
 simp[go_sem]
section
variable {B:Nat} {w:World} {A:Option Addr} {c:Nat} {l:List Hq}
theorem Hs.nn (h:Hs B w A c l) (hn:0<l.length):∃g,A=some ⟨g,0,none⟩/\g<w.heap.size/\l.length<=c/\c<=maxLen:=by
 obtain⟨h1,h2,_⟩:=h.cap;rcases h.own.2 with⟨_,h0⟩ | ⟨g,cap,cur,hv,hg,hh,hnc,_⟩
 · omega
 · injection hv with e1 _ e3;exact⟨g,e1,aae hh,h1,h2⟩
theorem Hs.less{B':Nat}(h:Hs B w A c l) (hb:B'<=B):Hs B' w A c l:=⟨ar6 h.own hb,h.row⟩
theorem afF (h:Hs B w A c l) (hl:l.length<=1000) (p:Nat):
 Calls Tryz.prog 170 #[.slice A l.length c, .int .u64 (p:Int)] w fun e w'=>w=w'/\((e= .returned (.int .i64 (-1))/\∀x∈l,x.p≠p)\/∃(i:Nat) (x:Hq),e= .returned (.int .i64 (i:Int))/\l[i]?=some x/\x.p=p):=by
 obtain⟨n,hn⟩:=nmE l.length;have HN:=hE0 hn;have HS:=hE0 h;rw[hn]at hl ⊢;clear h hn;go_enter Tryz.func170,Tryz.ntmps170
 go_wp2
 go_loopw [5] (fun i wr=>∃j:Nat,i= .int .i64 (j:Int)/\j<=n/\(∀k x,k<j->l[k]?=some x->x.p≠p)/\w=wr) (fun i _=>n-(intOf i).toNat)
 case atStart=>exact⟨0,rfl,Nat.zero_le _,fun i x hi=>absurd hi (Nat.not_lt_zero _),rfl⟩
 case round=>
  obtain⟨j,rfl,hj,hs,rfl⟩:=hrel;by_cases hlt:j<n
  · obtain⟨x,hx⟩:∃x,l[j]?=some x:=⟨l[j]'(by rw[HN.out];exact hlt),List.getElem?_eq_getElem _⟩;obtain⟨g,rfl,_,_,_,c0,_⟩:=HS.out.at_ hx;have HX:=hE0 hx;have HP:=hE0 hs;clear hx hs;obtain⟨xp,hxp⟩:=nmE x.p;rw[hxp]at c0;by_cases he:xp=p
    · have g1:((xp:Int)==(p:Int))=true:=by rw[beq_iff_eq];omega
      have HR:=hE0 (hxp.trans he);clear hxp he;go_wp2_with fail
      go_ret
      exact⟨rfl, .inr ⟨j,x,rfl,HX.out,HR.out⟩⟩
    · have g1:((xp:Int)==(p:Int))=false:=by rw[beq_eq_false_iff_ne];omega
      have HR:Hid (x.p≠p):=by
       intro e;exact he (by omega)
      clear hxp he;go_wp2_with fail
      go_roundw
      case rel=>
       refine⟨j+1,by go_num,by omega,fun k y hk hy=> ?_,by first | rfl | trivial⟩;by_cases e:k=j
       · subst e;rw[HX.out]at hy;injection hy with hy;rw[<-hy];exact HR.out
       · exact HP.out k y (by omega) hy
      case measure=>simp[intOf];omega
  · have HP:=hE0 hs;obtain rfl:j=n:=by omega
    clear hs;go_wp2_with fail
    go_ret
    refine⟨rfl, .inl ⟨rfl,fun x hx=> ?_⟩⟩;obtain⟨k,hk⟩:=List.mem_iff_getElem?.1 hx;have:=aau hk;rw[HN.out]at this;exact HP.out k x this hk
theorem adF (h:Hs B w A c l) (i:Nat) (hi:i<l.length) (hl:l.length<=1000):
 Calls Tryz.prog 172 #[.slice A l.length c, .int .i64 (i:Int)] w fun e w'=>∃A' c',e= .returned (.slice A' (l.take i++l.drop (i+1)).length c')/\Hs w.heap.size w' A' c' (l.take i++l.drop (i+1))/\Below w.heap.size w w':=by
 obtain⟨g,rfl,hg,hnc,hcm⟩:=h.nn (by omega);obtain⟨n,hn⟩:=nmE l.length;have HN:=hE0 hn;have hown:=h.own;have HR:Hid (∀W,Below w.heap.size w W->∀x∈l.take i++l.drop (i+1),QRd W x.A x.b):=fun W hW x hx=>by
  refine(h.row x ?_).below hW;rcases List.mem_append.1 hx with hx | hx
  · exact List.mem_of_mem_take hx
  · exact List.mem_of_mem_drop hx
 rw[hn]at hi hl hnc hown ⊢;obtain⟨wd,hwd⟩:=nmE w.drew;have hbd:=adE hwd;have hsz:w.heap.size=wd.heap.size:=by rw[<-hwd];rfl
 have HBD:=hE0 hbd;have HSZ:=hE0 hsz;have hgd:g<wd.heap.size:=by omega
 have HWD:=hE0 hwd;have K1:=hE0 (aaw hown hbd);unfold maxLen at hcm;clear h hn hown hwd hbd hsz hg;by_cases hc1:c=i+1
 · have hin:(i:Int)+1<=(n:Int):=by omega
   obtain rfl:n=i+1:=by omega
   subst hc1;go_enter Tryz.func172,Tryz.ntmps172
   go_wp2_with fail
   refine aaD wd.heap.size (.one [1,2,3,5,6,7,8] 0 (.one [] 4 (.one [] 9 (.fin [10])))) [] (by kernel_rfl) (by kernel_rfl) (by kernel_rfl) (fun _ _ _ _ _ h=>h) ?_;rw[HWD.out];refine aax (l:= ?sega) ?hsega ?_
   case hsega=>simp only[pick,lE1,lE2,lE3];rfl
   repeat (go_big_quiet_step (fail))
   refine wpQuiet_nil ?_;obtain⟨x1,hx1⟩:=nmE (wd.alloc (.cells #[] 114));have bx1:=abE hx1;have ownx1:x1.ownsRow wd.heap.size 114 2 (.slice (some ⟨wd.heap.size,0,none⟩) 0 0) 0 []:=by rw[<-hx1];exact World.ownsRow_lit wd _ 0 (Nat.le_refl _) (by unfold maxLen;omega) rfl
   refine aas (some 5) (w1:=x1) (v:= .slice (some ⟨wd.heap.size,0,none⟩) 0 0) rfl rfl rfl (by rw[<-hx1];exact aaQ rfl rfl (aiq wd)) bx1 ⟨wd.heap.size,Nat.le_refl _,?_⟩;simp only[Act.put,lE4,lE5,lE6];refine aax (l:= []) rfl ?_;refine wpQuiet_nil ?_;have s1:=((agb K1.out 0 i (by omega) ⟨g,0,none⟩ (.inr (by rw[Nat.zero_mul]))).cap (c':=i+1)).below bx1 (fun a e=>by cases e;exact hgd);refine ab3 (some 9) (.tmp 5) (.tmp 8) 110 114 rfl rfl rfl rfl Tryz.underlying110 (.agg #[.int .u64 0, .slice none 0 0]) 2 32 adK rfl (by decide) wd.heap.size (.slice (some ⟨wd.heap.size,0,none⟩) 0 0) 0 [] rfl ownx1 (Nat.le_refl _) bx1.size (some ⟨g,0,none⟩) i (i+1) _ rfl ?la1 s1 ?oa1 (by omega) (by omega) ?_
   case la1=>have:=K1.out.1;rw[List.length_take,List.length_drop];omega
   case oa1=>exact fun u hu=>(aeg l) u (List.mem_of_mem_drop (List.mem_of_mem_take hu))
   intro y1 z1 owny1 bz1 _;have bz2:=bx1.trans bz1;refine⟨wd.heap.size,Nat.le_refl _,?_⟩;simp only[Act.put,lE4,lE5,lE6];refine aax (l:= []) rfl ?_;refine wpQuiet_nil ?_;have s2:=((agb K1.out (i+1) 0 (by omega) ⟨g,0,none⟩ (.inl rfl)).cap (c':=0)).below bz2 (fun a e=>by cases e;exact hgd);refine ab3 (some 14) (.tmp 9) (.tmp 13) 110 114 rfl rfl rfl rfl Tryz.underlying110 (.agg #[.int .u64 0, .slice none 0 0]) 2 32 adK rfl (by decide) wd.heap.size y1 (0+i) _ rfl owny1 (Nat.le_refl _) bz2.size (some ⟨g,0,none⟩) 0 (0) _ rfl ?la2 s2 ?oa2 (by omega) (by omega) ?_
   case la2=>have:=K1.out.1;rw[List.length_take,List.length_drop];omega
   case oa2=>exact fun u hu=>(aeg l) u (List.mem_of_mem_drop (List.mem_of_mem_take hu))
   intro u1 v1 ownu1 bv1 _;have bv2:=bz2.trans bv1;rw[Nat.zero_add]at ownu1;refine⟨wd.heap.size,Nat.le_refl _,?_⟩;simp only[Act.put,lE4,lE5,lE6];obtain⟨uA,uc,rfl⟩:=adY ownu1;have e1:i+0=(l.take i++l.drop (i+1)).length:=by have:=HN.out;rw[List.length_append,List.length_take,List.length_drop];omega
   have hrow:v1.ownsRow wd.heap.size 114 2 (.slice uA (l.take i++l.drop (i+1)).length uc) (l.take i++l.drop (i+1)).length (abc (l.take i++l.drop (i+1))):=by
    rw[<-e1,aef,afD,afE];have e:=ownu1;rw[Nat.zero_mul,List.drop_zero,List.nil_append,List.take_zero]at e;rw[List.drop_eq_nil_of_le (by have:=K1.out.1;omega)];exact e
   have HB:=hE0 (HBD.out.trans (by rw[HSZ.out];exact bv2));have HF:Hid (Hs w.heap.size v1 uA uc (l.take i++l.drop (i+1))):=⟨by rw[HSZ.out];exact hrow,HR.out v1 HB.out⟩;have HE1:=hE0 e1;clear e1 s1 s2 owny1 ownx1 ownu1 bx1 bz1 bv1 hx1 hrow bz2 bv2;refine aaW (l:= ?laa) (t:= []) ?hlaa rfl ?_
   case hlaa=>simp only[pick,lE1,lE2,lE3];rfl
   repeat (go_big_quiet_step (fail))
   refine wpQuiet_nil ?_;go_wp2_with fail
   go_ret
   exact⟨uA,uc,by rw[<-HE1.out];rfl,HF.out,HB.out⟩
 · have hin:(i:Int)+1<=(n:Int):=by omega
   have hcn:((c:Int)==(i:Int)+1)=false:=by rw[beq_eq_false_iff_ne];omega
   go_enter Tryz.func172,Tryz.ntmps172
   go_wp2_with fail
   refine aaD wd.heap.size (.one [1,2,3,5,6,7,8] 0 (.one [] 4 (.one [] 9 (.fin [10])))) [] (by kernel_rfl) (by kernel_rfl) (by kernel_rfl) (fun _ _ _ _ _ h=>h) ?_;rw[HWD.out];refine aax (l:= ?segb) ?hsegb ?_
   case hsegb=>simp only[pick,lE1,lE2,lE3];rfl
   repeat (go_big_quiet_step (fail))
   refine wpQuiet_nil ?_;obtain⟨x1,hx1⟩:=nmE (wd.alloc (.cells #[] 114));have bx1:=abE hx1;have ownx1:x1.ownsRow wd.heap.size 114 2 (.slice (some ⟨wd.heap.size,0,none⟩) 0 0) 0 []:=by rw[<-hx1];exact World.ownsRow_lit wd _ 0 (Nat.le_refl _) (by unfold maxLen;omega) rfl
   refine aas (some 5) (w1:=x1) (v:= .slice (some ⟨wd.heap.size,0,none⟩) 0 0) rfl rfl rfl (by rw[<-hx1];exact aaQ rfl rfl (aiq wd)) bx1 ⟨wd.heap.size,Nat.le_refl _,?_⟩;simp only[Act.put,lE4,lE5,lE6];refine aax (l:= []) rfl ?_;refine wpQuiet_nil ?_;have s1:=((agb K1.out 0 i (by omega) ⟨g,0,none⟩ (.inr (by rw[Nat.zero_mul]))).cap (c':=c)).below bx1 (fun a e=>by cases e;exact hgd);refine ab3 (some 9) (.tmp 5) (.tmp 8) 110 114 rfl rfl rfl rfl Tryz.underlying110 (.agg #[.int .u64 0, .slice none 0 0]) 2 32 adK rfl (by decide) wd.heap.size (.slice (some ⟨wd.heap.size,0,none⟩) 0 0) 0 [] rfl ownx1 (Nat.le_refl _) bx1.size (some ⟨g,0,none⟩) i (c) _ rfl ?lb1 s1 ?ob1 (by omega) (by omega) ?_
   case lb1=>have:=K1.out.1;rw[List.length_take,List.length_drop];omega
   case ob1=>exact fun u hu=>(aeg l) u (List.mem_of_mem_drop (List.mem_of_mem_take hu))
   intro y1 z1 owny1 bz1 _;have bz2:=bx1.trans bz1;refine⟨wd.heap.size,Nat.le_refl _,?_⟩;simp only[Act.put,lE4,lE5,lE6];refine aax (l:= []) rfl ?_;refine wpQuiet_nil ?_;have s2:=((agb K1.out (i+1) (n-(i+1)) (by omega) ⟨g,(i+1)*2,none⟩ (.inr rfl)).cap (c':=c-(i+1))).below bz2 (fun a e=>by cases e;exact hgd);refine ab3 (some 14) (.tmp 9) (.tmp 13) 110 114 rfl rfl rfl rfl Tryz.underlying110 (.agg #[.int .u64 0, .slice none 0 0]) 2 32 adK rfl (by decide) wd.heap.size y1 (0+i) _ rfl owny1 (Nat.le_refl _) bz2.size (some ⟨g,(i+1)*2,none⟩) (n-(i+1)) ((c-(i+1))) _ rfl ?lb2 s2 ?ob2 (by omega) (by omega) ?_
   case lb2=>have:=K1.out.1;rw[List.length_take,List.length_drop];omega
   case ob2=>exact fun u hu=>(aeg l) u (List.mem_of_mem_drop (List.mem_of_mem_take hu))
   intro u1 v1 ownu1 bv1 _;have bv2:=bz2.trans bv1;rw[Nat.zero_add]at ownu1;refine⟨wd.heap.size,Nat.le_refl _,?_⟩;simp only[Act.put,lE4,lE5,lE6];obtain⟨uA,uc,rfl⟩:=adY ownu1;have e1:i+(n-(i+1))=(l.take i++l.drop (i+1)).length:=by have:=HN.out;rw[List.length_append,List.length_take,List.length_drop];omega
   have hrow:v1.ownsRow wd.heap.size 114 2 (.slice uA (l.take i++l.drop (i+1)).length uc) (l.take i++l.drop (i+1)).length (abc (l.take i++l.drop (i+1))):=by
    rw[<-e1,aef,afD,afE];have e:=ownu1;rw[Nat.zero_mul,List.drop_zero,List.nil_append,List.take_of_length_le (i:=(n-(i+1))*2) (by have:=K1.out.1;rw[List.length_drop];omega)]at e;exact e
   have HB:=hE0 (HBD.out.trans (by rw[HSZ.out];exact bv2));have HF:Hid (Hs w.heap.size v1 uA uc (l.take i++l.drop (i+1))):=⟨by rw[HSZ.out];exact hrow,HR.out v1 HB.out⟩;have HE1:=hE0 e1;clear e1 s1 s2 owny1 ownx1 ownu1 bx1 bz1 bv1 hx1 hrow bz2 bv2;refine aaW (l:= ?lab) (t:= []) ?hlab rfl ?_
   case hlab=>simp only[pick,lE1,lE2,lE3];rfl
   repeat (go_big_quiet_step (fail))
   refine wpQuiet_nil ?_;go_wp2_with fail
   go_ret
   exact⟨uA,uc,by rw[<-HE1.out];rfl,HF.out,HB.out⟩
end
def ana (A:Option Addr) (k:Nat):Prop:=∃a,A=some a/\a.block=k
def MdT (B:Nat) (A:Option Addr) (L:List (Nat × List UInt8)) (w:World) (e:Ending) (w':World):Prop:=
 ∃A' c' l',e= .returned (.tuple #[.slice A' l'.length c', .int .i64 1])/\Hs B w' A' c' l'/\l'.map Hq.two=L/\Tch (ana A) w w'
def Lm (l:List Hq):Prop:=∀x∈l,x.p<=16384/\x.b.length<=16384
section
variable {B:Nat} {w:World} {A:Option Addr} {c:Nat} {l:List Hq}
theorem anb (h:Hs B w A c l) (hl:l.length<=1000) (p:Nat):
 Calls Tryz.prog 170 #[.slice A l.length c, .int .u64 (p:Int)] w fun e w'=>w=w'/\∃r:Int,e= .returned (.int .i64 r):=by
 refine(afF h hl p).mono ?_;rintro e w' ⟨h1,⟨h2,_⟩ | ⟨i,x,h2,_⟩⟩
 · exact⟨h1,_,h2⟩
 · exact⟨h1,_,h2⟩
theorem aux (h:Hs B w A c l) (hl:l.length<=1000) (p:Nat) (hn:∀x∈l,x.p≠p):
 Calls Tryz.prog 170 #[.slice A l.length c, .int .u64 (p:Int)] w fun e w'=>w=w'/\e= .returned (.int .i64 (-1)):=by
 refine(afF h hl p).mono ?_;rintro e w' ⟨h1,⟨h2,_⟩ | ⟨i,x,_,h3,h4⟩⟩
 · exact⟨h1,h2⟩
 · exact absurd h4 (hn x (List.mem_of_getElem? h3))
theorem afS (h:Hs B w A c l) (hl:l.length<=1000){i:Nat}{x:Hq}(hx:l[i]?=some x) (hu:(l.map Hq.p).Nodup):
 Calls Tryz.prog 170 #[.slice A l.length c, .int .u64 (x.p:Int)] w fun e w'=>w=w'/\e= .returned (.int .i64 (i:Int)):=by
 refine(afF h hl x.p).mono ?_;rintro e w' ⟨h1,⟨_,h2⟩ | ⟨j,y,h2,h3,h4⟩⟩
 · exact absurd rfl (h2 x (List.mem_of_getElem? hx))
 · have hpw:=List.pairwise_iff_getElem.1 hu;have l1:=aau hx;have l2:=aau h3;have e1:l[i]=x:=by rw[List.getElem?_eq_getElem l1]at hx;exact Option.some.inj hx
   have e2:l[j]=y:=by rw[List.getElem?_eq_getElem l2]at h3;exact Option.some.inj h3
   have hij:j=i:=by
    rcases Nat.lt_trichotomy i j with h | h | h
    · exact absurd (by rw[List.getElem_map,List.getElem_map,e1,e2];exact h4.symm) (hpw i j (by rw[List.length_map];exact l1) (by rw[List.length_map];exact l2) h)
    · exact h.symm
    · exact absurd (by rw[List.getElem_map,List.getElem_map,e1,e2];exact h4) (hpw j i (by rw[List.length_map];exact l2) (by rw[List.length_map];exact l1) h)
   subst hij;exact⟨h1,h2⟩
theorem afk (h:Hs B w A c l) (hl:l.length<=1000) (hlm:Lm l) (p n cap:Nat) (hp:p%16=0) (hpc:p+n<=cap) (hc:cap<=16384) (hap:∀x∈l,x.p+x.b.length<=p\/p+n<=x.p):
 Calls Tryz.prog 171 #[.slice A l.length c, .int .u64 (p:Int), .int .i64 (n:Int), .int .i64 (cap:Int)] w fun e w'=>e= .returned (.bool true)/\Below w.heap.size w w':=by
 obtain⟨k,hk⟩:=nmE l.length;have HN:=hE0 hk;have HS:=hE0 h;have HM:Hid (∀x∈l,x.p<=16384/\x.b.length<=16384):=hlm;have HAP:Hid (∀x∈l,x.p+x.b.length<=p\/p+n<=x.p):=hap;have g1:((p:Int)%16 !=0)=false:=by rw[bne_eq_false_iff_eq];omega
 have g1n:(p%16 !=0)=false:=by rw[hp];rfl
 have g2:decide ((cap:Int)<(p:Int))=false:=decide_eq_false (by omega);have g2n:decide (cap<p)=false:=decide_eq_false (by omega);have g3:decide ((cap:Int)<(p:Int)+(n:Int))=false:=decide_eq_false (by omega);have g3n:decide (cap<p+n)=false:=decide_eq_false (by omega);rw[hk]at hl ⊢;clear h hk hlm hap hp;go_enter Tryz.func171,Tryz.ntmps171
 go_wp2_with fail
 clear g1 g1n g2 g2n g3 g3n;go_loopw [9] (fun i wr=>∃j:Nat,i= .int .i64 (j:Int)/\j<=k/\Below w.heap.size w wr) (fun i _=>k-(intOf i).toNat)
 case atStart=>exact⟨0,rfl,Nat.zero_le _,Below.refl _ _⟩
 case round=>
  obtain⟨j,rfl,hj,hb⟩:=hrel;have HB:=hE0 hb;clear hb;by_cases hlt:j<k
  · obtain⟨x,hx⟩:∃x,l[j]?=some x:=⟨l[j]'(by rw[HN.out];exact hlt),List.getElem?_eq_getElem _⟩;obtain⟨g,rfl,_,hg,_,c0,c1⟩:=(HS.out.below HB.out).at_ hx;obtain⟨m1,m2⟩:=HM.out x (List.mem_of_getElem? hx);have hap:=HAP.out x (List.mem_of_getElem? hx);obtain⟨xp,hxp⟩:=nmE x.p;obtain⟨xn,hxn⟩:=nmE x.b.length;rw[hxp]at c0 m1 hap;rw[hxn]at c1 m2 hap;clear hx hxp hxn;by_cases h1:xp<p+n
    · have e1:decide ((xp:Int)<(p:Int)+(n:Int))=true:=decide_eq_true (by omega);have e1n:decide (xp<p+n)=true:=decide_eq_true h1;have e2:decide ((p:Int)<(xp:Int)+(xn:Int))=false:=decide_eq_false (by omega);have e2n:decide (p<xp+xn)=false:=decide_eq_false (by omega);go_wp2_with fail
      go_quiet (fail)
      go_wp2
      go_roundw
      case rel=>exact⟨j+1,by go_num,by omega,HB.out.trans ((abN _ _).mono HB.out.size)⟩
      case measure=>simp only[intOf];omega
    · have e1:decide ((xp:Int)<(p:Int)+(n:Int))=false:=decide_eq_false (by omega);have e1n:decide (xp<p+n)=false:=decide_eq_false h1;go_wp2_with fail
      go_quiet (fail)
      go_wp2
      go_roundw
      case rel=>exact⟨j+1,by go_num,by omega,HB.out.trans ((abN _ _).mono HB.out.size)⟩
      case measure=>simp only[intOf];omega
  · go_wp2_with fail
    go_ret
    exact⟨rfl,HB.out⟩
theorem ahl (h:Hs B w A c l) (hl:l.length<=1000) (qv:Value) (capv:Value) (xh cn cm ca:Nat) (xA:Option Addr) (bl xc:Nat) (rh rn:Nat) (rA:Option Addr) (rbl rc s0 s1 s2 s3 s4:Nat) (op:Nat) (h3:3<=op) (h7:op<=7) (hno:∀x∈l,x.p≠xh):
 Calls Tryz.prog 107 #[qv, .slice A l.length c, .agg #[.int .i64 (op:Int), .int .u64 (xh:Int), .int .u64 (cn:Int), .int .u64 (cm:Int), .int .u64 (ca:Int), .slice xA bl xc], .agg #[.int .i64 (4), .int .u64 (rh:Int), .int .u64 (rn:Int), .slice rA rbl rc, .int .i64 (s0:Int), .int .i64 (s1:Int), .int .i64 (s2:Int), .int .i64 (s3:Int), .int .i64 (s4:Int)],capv] w fun e w'=>MdT B A (l.map Hq.two) w e w':=by
 have g1:decide ((3:Int)<=(op:Int))=true:=decide_eq_true (by omega);have g1n:decide (3<=op)=true:=decide_eq_true h3;have g2:decide ((op:Int)<=(7:Int))=true:=decide_eq_true (by omega);have g2n:decide (op<=7)=true:=decide_eq_true h7;obtain⟨w1,ha1,n1,b1⟩:=acz w 43 (.int .i64 (op:Int)) (.int .u64 (xh:Int)) (.int .u64 (cn:Int)) (.int .u64 (cm:Int)) (.int .u64 (ca:Int)) (.slice xA bl xc);obtain⟨w2,ha2,n2,b2⟩:=abx w1 50 (.int .i64 (4)) (.int .u64 (rh:Int)) (.int .u64 (rn:Int)) (.slice rA rbl rc) (.int .i64 (s0:Int)) (.int .i64 (s1:Int)) (.int .i64 (s2:Int)) (.int .i64 (s3:Int)) (.int .i64 (s4:Int));have HB2:=hE0 (b1.out.trans (b2.out.mono b1.out.size));have m1:=hE0 ((b2.out.block _ (aaa n1.out)).trans n1.out);have HS2:=hE0 (h.below HB2.out);obtain⟨⟨c0,c1,c2,c3,c4,c5⟩,_,hlc⟩:=aa4 m1.out;obtain⟨⟨r0,r1,r2,r3,_⟩,_,hlr⟩:=aaT n2.out;have HF:=hE0 (aux HS2.out hl xh hno);obtain⟨n,hn⟩:=nmE l.length;have HN:=hE0 hn;rw[hn]at HF hl ⊢;clear h hn;go_enter Tryz.func107,Tryz.ntmps107
 go_wp2_with (first | (rw[ha1.out]) | (rw[ha2.out]) | fail)
 refine HF.out.mono ?_;rintro e w' ⟨rfl,rfl⟩;go_wp2_with fail
 go_ret2
 exact⟨A,c,l,by rw[HN.out];rfl,HS2.out,rfl,Tch.of_below HB2.out⟩
theorem aet{P:Prop}(h:P:=by
 have HB2:=hE0 (b1.out.trans (b2.out.mono b1.out.size));have m1:=hE0 ((b2.out.block _ (aaa n1.out)).trans n1.out);have HS2:=hE0 (h.below HB2.out);obtain⟨⟨c0,c1,c2,c3,c4,c5⟩,_,hlc⟩:=aa4 m1.out;obtain⟨⟨r0,r1,r2,r3,_⟩,_,hlr⟩:=aaT n2.out;have HF:=hE0 (anb HS2.out hl xh);obtain⟨n,hn⟩:=nmE l.length;have HN:=hE0 hn;rw[hn]at HF hl ⊢;clear h hn;go_enter Tryz.func107,Tryz.ntmps107
 go_wp2_with (first | (rw[ha1.out]) | (rw[ha2.out]) | fail)
 refine HF.out.mono ?_;rintro e w' ⟨rfl,r,rfl⟩;go_wp2_with fail
 go_ret2
 exact⟨A,c,l,by rw[HN.out];rfl,HS2.out,rfl,Tch.of_below HB2.out⟩
 ):P:=h
theorem aq0 (h:Hs B w A c l) (hl:l.length<=1000) (qv:Value) (capv:Value) (xh cn cm ca:Nat) (xA:Option Addr) (bl xc:Nat) (rh rn:Nat) (rA:Option Addr) (rbl rc s0 s1 s2 s3 s4:Nat):
 Calls Tryz.prog 107 #[qv, .slice A l.length c, .agg #[.int .i64 (1), .int .u64 (xh:Int), .int .u64 (cn:Int), .int .u64 (cm:Int), .int .u64 (ca:Int), .slice xA bl xc], .agg #[.int .i64 (5), .int .u64 (rh:Int), .int .u64 (rn:Int), .slice rA rbl rc, .int .i64 (s0:Int), .int .i64 (s1:Int), .int .i64 (s2:Int), .int .i64 (s3:Int), .int .i64 (s4:Int)],capv] w fun e w'=>MdT B A (l.map Hq.two) w e w':=by
 obtain⟨w1,ha1,n1,b1⟩:=acz w 43 (.int .i64 (1)) (.int .u64 (xh:Int)) (.int .u64 (cn:Int)) (.int .u64 (cm:Int)) (.int .u64 (ca:Int)) (.slice xA bl xc);obtain⟨w2,ha2,n2,b2⟩:=abx w1 50 (.int .i64 (5)) (.int .u64 (rh:Int)) (.int .u64 (rn:Int)) (.slice rA rbl rc) (.int .i64 (s0:Int)) (.int .i64 (s1:Int)) (.int .i64 (s2:Int)) (.int .i64 (s3:Int)) (.int .i64 (s4:Int));exact aet
theorem akU (h:Hs B w A c l) (hl:l.length<=1000) (qv:Value) (capv:Value) (xh cn cm ca:Nat) (xA:Option Addr) (bl xc:Nat) (rh rn:Nat) (rA:Option Addr) (rbl rc s0 s1 s2 s3 s4:Nat):
 Calls Tryz.prog 107 #[qv, .slice A l.length c, .agg #[.int .i64 (2), .int .u64 (xh:Int), .int .u64 (cn:Int), .int .u64 (cm:Int), .int .u64 (ca:Int), .slice xA bl xc], .agg #[.int .i64 (5), .int .u64 (rh:Int), .int .u64 (rn:Int), .slice rA rbl rc, .int .i64 (s0:Int), .int .i64 (s1:Int), .int .i64 (s2:Int), .int .i64 (s3:Int), .int .i64 (s4:Int)],capv] w fun e w'=>MdT B A (l.map Hq.two) w e w':=by
 obtain⟨w1,ha1,n1,b1⟩:=acz w 43 (.int .i64 (2)) (.int .u64 (xh:Int)) (.int .u64 (cn:Int)) (.int .u64 (cm:Int)) (.int .u64 (ca:Int)) (.slice xA bl xc);obtain⟨w2,ha2,n2,b2⟩:=abx w1 50 (.int .i64 (5)) (.int .u64 (rh:Int)) (.int .u64 (rn:Int)) (.slice rA rbl rc) (.int .i64 (s0:Int)) (.int .i64 (s1:Int)) (.int .i64 (s2:Int)) (.int .i64 (s3:Int)) (.int .i64 (s4:Int));exact aet
theorem aq1 (h:Hs B w A c l) (hl:l.length<=1000) (qv:Value) (capv:Value) (xh cn cm ca:Nat) (xA:Option Addr) (bl xc:Nat) (rh rn:Nat) (rA:Option Addr) (rbl rc s0 s1 s2 s3 s4:Nat) (code:Int):
 Calls Tryz.prog 107 #[qv, .slice A l.length c, .agg #[.int .i64 (0), .int .u64 (xh:Int), .int .u64 (cn:Int), .int .u64 (cm:Int), .int .u64 (ca:Int), .slice xA bl xc], .agg #[.int .i64 (code), .int .u64 (rh:Int), .int .u64 (rn:Int), .slice rA rbl rc, .int .i64 (s0:Int), .int .i64 (s1:Int), .int .i64 (s2:Int), .int .i64 (s3:Int), .int .i64 (s4:Int)],capv] w fun e w'=>MdT B A (l.map Hq.two) w e w':=by
 obtain⟨w1,ha1,n1,b1⟩:=acz w 43 (.int .i64 (0)) (.int .u64 (xh:Int)) (.int .u64 (cn:Int)) (.int .u64 (cm:Int)) (.int .u64 (ca:Int)) (.slice xA bl xc);obtain⟨w2,ha2,n2,b2⟩:=abx w1 50 (.int .i64 (code)) (.int .u64 (rh:Int)) (.int .u64 (rn:Int)) (.slice rA rbl rc) (.int .i64 (s0:Int)) (.int .i64 (s1:Int)) (.int .i64 (s2:Int)) (.int .i64 (s3:Int)) (.int .i64 (s4:Int));exact aet
theorem aq2 (h:Hs B w A c l) (hl:l.length<=1000) (qv:Value) (capv:Value) (xh cn cm ca:Nat) (xA:Option Addr) (bl xc:Nat) (rh rn:Nat) (rA:Option Addr) (rbl rc s0 s1 s2 s3 s4:Nat) (code:Int):
 Calls Tryz.prog 107 #[qv, .slice A l.length c, .agg #[.int .i64 (8), .int .u64 (xh:Int), .int .u64 (cn:Int), .int .u64 (cm:Int), .int .u64 (ca:Int), .slice xA bl xc], .agg #[.int .i64 (code), .int .u64 (rh:Int), .int .u64 (rn:Int), .slice rA rbl rc, .int .i64 (s0:Int), .int .i64 (s1:Int), .int .i64 (s2:Int), .int .i64 (s3:Int), .int .i64 (s4:Int)],capv] w fun e w'=>MdT B A (l.map Hq.two) w e w':=by
 obtain⟨w1,ha1,n1,b1⟩:=acz w 43 (.int .i64 (8)) (.int .u64 (xh:Int)) (.int .u64 (cn:Int)) (.int .u64 (cm:Int)) (.int .u64 (ca:Int)) (.slice xA bl xc);obtain⟨w2,ha2,n2,b2⟩:=abx w1 50 (.int .i64 (code)) (.int .u64 (rh:Int)) (.int .u64 (rn:Int)) (.slice rA rbl rc) (.int .i64 (s0:Int)) (.int .i64 (s1:Int)) (.int .i64 (s2:Int)) (.int .i64 (s3:Int)) (.int .i64 (s4:Int));exact aet
theorem aoq (h:Hs B w A c l) (hl:l.length<=1000) (qv:Value) (capv:Value) (xh cn cm ca:Nat) (xA:Option Addr) (bl xc:Nat) (rh rn:Nat) (rA:Option Addr) (rbl rc s0 s1 s2 s3 s4:Nat){i:Nat}{x:Hq}(hx:l[i]?=some x) (hu:(l.map Hq.p).Nodup) (hxh:x.p=xh):
 Calls Tryz.prog 107 #[qv, .slice A l.length c, .agg #[.int .i64 (4), .int .u64 (xh:Int), .int .u64 (cn:Int), .int .u64 (cm:Int), .int .u64 (ca:Int), .slice xA bl xc], .agg #[.int .i64 (5), .int .u64 (rh:Int), .int .u64 (rn:Int), .slice rA rbl rc, .int .i64 (s0:Int), .int .i64 (s1:Int), .int .i64 (s2:Int), .int .i64 (s3:Int), .int .i64 (s4:Int)],capv] w fun e w'=>MdT B A (l.map Hq.two) w e w':=by
 obtain⟨w1,ha1,n1,b1⟩:=acz w 43 (.int .i64 (4)) (.int .u64 (xh:Int)) (.int .u64 (cn:Int)) (.int .u64 (cm:Int)) (.int .u64 (ca:Int)) (.slice xA bl xc);obtain⟨w2,ha2,n2,b2⟩:=abx w1 50 (.int .i64 (5)) (.int .u64 (rh:Int)) (.int .u64 (rn:Int)) (.slice rA rbl rc) (.int .i64 (s0:Int)) (.int .i64 (s1:Int)) (.int .i64 (s2:Int)) (.int .i64 (s3:Int)) (.int .i64 (s4:Int));have HB2:=hE0 (b1.out.trans (b2.out.mono b1.out.size));have m1:=hE0 ((b2.out.block _ (aaa n1.out)).trans n1.out);have HS2:=hE0 (h.below HB2.out);obtain⟨⟨c0,c1,c2,c3,c4,c5⟩,_,hlc⟩:=aa4 m1.out;obtain⟨⟨r0,r1,r2,r3,_⟩,_,hlr⟩:=aaT n2.out;have HF:=hE0 (by have:=afS HS2.out hl hx hu;rw[hxh]at this;exact this);obtain⟨n,hn⟩:=nmE l.length;have HN:=hE0 hn;rw[hn]at HF hl ⊢;clear h hn;go_enter Tryz.func107,Tryz.ntmps107
 go_wp2_with (first | (rw[ha1.out]) | (rw[ha2.out]) | fail)
 refine HF.out.mono ?_;rintro e w' ⟨rfl,rfl⟩;go_wp2_with fail
 go_ret2
 exact⟨A,c,l,by rw[HN.out];rfl,HS2.out,rfl,Tch.of_below HB2.out⟩
theorem auy (hBw:B<=w.heap.size) (h:Hs B w A c l) (hl:l.length<=1000) (qv:Value) (capv:Value) (xh cn cm ca:Nat) (xA:Option Addr) (bl xc:Nat) (rh rn:Nat) (rA:Option Addr) (rbl rc s0 s1 s2 s3 s4:Nat){i:Nat}{x:Hq}(hx:l[i]?=some x) (hu:(l.map Hq.p).Nodup) (hxh:x.p=xh):
 Calls Tryz.prog 107 #[qv, .slice A l.length c, .agg #[.int .i64 (3), .int .u64 (xh:Int), .int .u64 (cn:Int), .int .u64 (cm:Int), .int .u64 (ca:Int), .slice xA bl xc], .agg #[.int .i64 (0), .int .u64 (rh:Int), .int .u64 (rn:Int), .slice rA rbl rc, .int .i64 (s0:Int), .int .i64 (s1:Int), .int .i64 (s2:Int), .int .i64 (s3:Int), .int .i64 (s4:Int)],capv] w fun e w'=>MdT B A ((l.take i++l.drop (i+1)).map Hq.two) w e w':=by
 have HBW:Hid (B<=w.heap.size):=hBw;have HX:=hE0 hx;obtain⟨w1,ha1,n1,b1⟩:=acz w 43 (.int .i64 (3)) (.int .u64 (xh:Int)) (.int .u64 (cn:Int)) (.int .u64 (cm:Int)) (.int .u64 (ca:Int)) (.slice xA bl xc);obtain⟨w2,ha2,n2,b2⟩:=abx w1 50 (.int .i64 (0)) (.int .u64 (rh:Int)) (.int .u64 (rn:Int)) (.slice rA rbl rc) (.int .i64 (s0:Int)) (.int .i64 (s1:Int)) (.int .i64 (s2:Int)) (.int .i64 (s3:Int)) (.int .i64 (s4:Int));have HB2:=hE0 (b1.out.trans (b2.out.mono b1.out.size));have m1:=hE0 ((b2.out.block _ (aaa n1.out)).trans n1.out);have HS2:=hE0 (h.below HB2.out);obtain⟨⟨c0,c1,c2,c3,c4,c5⟩,_,hlc⟩:=aa4 m1.out;obtain⟨⟨r0,r1,r2,r3,_⟩,_,hlr⟩:=aaT n2.out;have HF:=hE0 (by have:=afS HS2.out hl hx hu;rw[hxh]at this;exact this);obtain⟨n,hn⟩:=nmE l.length;have HN:=hE0 hn;rw[hn]at HF hl ⊢;clear h hn;go_enter Tryz.func107,Tryz.ntmps107
 go_wp2_with (first | (rw[ha1.out]) | (rw[ha2.out]) | fail)
 refine HF.out.mono ?_;rintro e w' ⟨rfl,rfl⟩;have HW:=hE0 (adF HS2.out i (aau HX.out) (by rw[HN.out];exact hl));rw[HN.out]at HW;obtain⟨L,hL⟩:=nmE (l.take i++l.drop (i+1));rw[hL]at HW;have HLQ:=hE0 hL;clear HF hL;go_wp2_with fail
 refine HW.out.mono ?_;rintro e w3 ⟨A',c',rfl,h3,b3⟩;have H3:=hE0 h3;have HB3:=hE0 (HB2.out.trans (b3.mono HB2.out.size));clear h3 b3 HW;go_wp2_with fail
 go_ret2
 exact⟨A',c',L,rfl,H3.out.less (Nat.le_trans HBW.out HB2.out.size),by rw[<-HLQ.out],Tch.of_below HB3.out⟩
theorem avz (h:Hs B w A c l) (hl:l.length<=1000) (qv:Value) (capv:Value) (xh cn cm ca:Nat) (xA:Option Addr) (bl xc:Nat) (rh rn:Nat) (rA:Option Addr) (rbl rc s0 s1 s2 s3 s4:Nat){i:Nat}{x:Hq}(hx:l[i]?=some x) (hu:(l.map Hq.p).Nodup) (hxh:x.p=xh) (hxn:x.b.length=rn) (hrn:rn<=16384):
 Calls Tryz.prog 107 #[qv, .slice A l.length c, .agg #[.int .i64 (5), .int .u64 (xh:Int), .int .u64 (cn:Int), .int .u64 (cm:Int), .int .u64 (ca:Int), .slice xA bl xc], .agg #[.int .i64 (0), .int .u64 (rh:Int), .int .u64 (rn:Int), .slice rA rbl rc, .int .i64 (s0:Int), .int .i64 (s1:Int), .int .i64 (s2:Int), .int .i64 (s3:Int), .int .i64 (s4:Int)],capv] w fun e w'=>MdT B A (l.map Hq.two) w e w':=by
 have HX:=hE0 hx;have HXN:=hE0 hxn;clear hxn;obtain⟨w1,ha1,n1,b1⟩:=acz w 43 (.int .i64 (5)) (.int .u64 (xh:Int)) (.int .u64 (cn:Int)) (.int .u64 (cm:Int)) (.int .u64 (ca:Int)) (.slice xA bl xc);obtain⟨w2,ha2,n2,b2⟩:=abx w1 50 (.int .i64 (0)) (.int .u64 (rh:Int)) (.int .u64 (rn:Int)) (.slice rA rbl rc) (.int .i64 (s0:Int)) (.int .i64 (s1:Int)) (.int .i64 (s2:Int)) (.int .i64 (s3:Int)) (.int .i64 (s4:Int));have HB2:=hE0 (b1.out.trans (b2.out.mono b1.out.size));have m1:=hE0 ((b2.out.block _ (aaa n1.out)).trans n1.out);have HS2:=hE0 (h.below HB2.out);obtain⟨⟨c0,c1,c2,c3,c4,c5⟩,_,hlc⟩:=aa4 m1.out;obtain⟨⟨r0,r1,r2,r3,_⟩,_,hlr⟩:=aaT n2.out;have HF:=hE0 (by have:=afS HS2.out hl hx hu;rw[hxh]at this;exact this);obtain⟨n,hn⟩:=nmE l.length;have HN:=hE0 hn;rw[hn]at HF hl ⊢;clear h hn;go_enter Tryz.func107,Tryz.ntmps107
 go_wp2_with (first | (rw[ha1.out]) | (rw[ha2.out]) | fail)
 refine HF.out.mono ?_;rintro e w' ⟨rfl,rfl⟩;obtain⟨g,rfl,_,hg,_,d0,d1⟩:=HS2.out.at_ HX.out;rw[HXN.out]at d1;have hin:i<n:=by rw[<-HN.out];exact aau HX.out
 clear HF d0;go_wp2_with fail
 go_quiet (fail)
 go_wp2
 go_ret2
 exact⟨_,c,l,by rw[HN.out];rfl,HS2.out.below (abN _ _),rfl,Tch.of_below (HB2.out.trans ((abN _ _).mono HB2.out.size))⟩
end
def FillI (w:World) (g:Nat) (b:List UInt8):Prop:=∃cur:Array Value,w.heap[g]?=some (.cells cur 3 (0,0))/\∀(j:Nat) (u:UInt8),b[j]?=some u->cur[j]?=some (iB u)
theorem agj:(Tryz.prog.info? 3).map (fun i=>(i.zero,i.size,i.bytes))=some (some (.int .i64 0),1,8):=by kernel_rfl
theorem aq3 (v:Value) (n:Nat):madeCells #[v] n=(List.replicate n v).toArray:=by
 apply Array.ext
 · simp[madeCells]
 · intro i h1 h2;simp[madeCells,Nat.mod_one]
theorem aeu (n:Nat) (hn:n<=30000) (W:World):(Instr.makeSlice 23 (.int .i64 (n:Int)) (.int .i64 (n:Int))).run Tryz.prog W= .ok (.slice (some ⟨W.heap.size,0,none⟩) n n) (W.alloc (.cells ((List.replicate n (0:UInt8)).map iB).toArray 3)):=by
 have h:=run_make_row' (P:=Tryz.prog) 23 3 (.int .i64 0) 8 Tryz.underlying23 agj rfl .i64 .i64 n (by omega) (by omega) W;rw[h,aq3,List.map_replicate];rfl
theorem adG (ρ:Operand->Value) (o:Oper) (ho:o.op= .alloc 114) (w:World):
 (execOp ρ o).run Tryz.prog w= .ok (.value (.pointer (some ⟨w.heap.size,0,none⟩))) (w.alloc (.cells #[.int .u64 0, .slice none 0 0] 114)):=by
 unfold execOp;simp only[ho];simp[go_sem]
theorem ajr{P:Program}{o:Oper}{a:Act}{w w1:World}{v L C:Value}{t:TypeId}{l c:Operand}(ho:o.op= .makeSlice t l c) (hl:a.eval l=L) (hc:a.eval c=C)
 (hr:(Instr.makeSlice t L C).run P w= .ok v w1):(execOp a.eval o).run P w= .ok (.value v) w1:=by
 unfold execOp;simp only[ho];rw[hl,hc,Sem.run_bind,hr];rfl
theorem auz{w:World}{a b:Nat}{s t:TypeId}{x y:Array Value}(h:w.heap[a]?=some (.cells x s (0,0))) (k:w.heap[b]?=some (.cells y t (0,0))) (hne:s≠t):a≠b:=by
 intro e;subst e;rw[h]at k;injection k with k;injection k with _ k;exact hne k
section
variable {w w':World} {g:Nat} {b:List UInt8}
theorem FillI.of (h:w.heap[g]?=some (.cells (b.map iB).toArray 3 (0,0))):FillI w g b:=⟨_,h,fun j u hu=>by
 rw[List.getElem?_toArray,List.getElem?_map,hu];rfl⟩
theorem FillI.qrd (h:FillI w g b):QRd w (some ⟨g,0,none⟩) b:=fun _=>by
 obtain⟨cur,h1,h2⟩:=h;exact⟨g,cur,rfl,h1,h2⟩
theorem FillI.lt (h:FillI w g b):g<w.heap.size:=by
 obtain⟨cur,h1,_⟩:=h;exact aae h1
theorem FillI.keep (h:FillI w g b) (hk:w'.heap[g]?=w.heap[g]?):FillI w' g b:=by
 obtain⟨cur,h1,h2⟩:=h;exact⟨cur,hk.trans h1,h2⟩
theorem FillI.below (h:FillI w g b) (hb:Below w.heap.size w w'):FillI w' g b:=h.keep (hb.block g h.lt)
theorem FillI.ne (h:FillI w g b){gx:Nat}{cs:Array Value}(hx:w.heap[gx]?=some (.cells cs 114 (0,0))):gx≠g:=by
 obtain⟨cur,h1,_⟩:=h;exact auz hx h1 (by decide)
theorem FillI.at_ (h:FillI w g b){k:Nat}{u:UInt8}(hu:b[k]?=some u):w.cell? ⟨g,k,none⟩=some (iB u)/\w.frozen? ⟨g,k,none⟩=false:=by
 obtain⟨cur,h1,h2⟩:=h;exact⟨(cell_of_row w g k _ _ (0,0) h1).trans (h2 k u hu),frozen_of_row w g k _ _ h1⟩
theorem FillI.set (h:FillI w g b) (k:Nat) (hk:k<b.length) (u:UInt8):FillI (w.setCell ⟨g,k,none⟩ (iB u)) g (b.set k u):=by
 obtain⟨cur,h1,h2⟩:=h;refine⟨_,heap_setCell_same w g k _ _ (iB u) h1,fun j v hv=> ?_⟩;rw[List.getElem?_set]at hv;rw[Array.getElem?_setIfInBounds];split at hv
 · rename_i e;subst e;have hv:some u=some v:=by simpa[hk]using hv
   injection hv with hv;subst hv;obtain⟨x,hx⟩:∃x,b[k]?=some x:=⟨b[k],List.getElem?_eq_getElem hk⟩;have h3:=h2 k x hx;rw[if_pos rfl,if_pos (by
    rcases Nat.lt_or_ge k cur.size with h | h
    · exact h
    · rw[Array.getElem?_eq_none h]at h3;cases h3)]
 · rename_i e;rw[if_neg e];exact h2 j v hv
end
section
variable {B:Nat} {w w4 w5:World} {A:Option Addr} {c:Nat} {l:List Hq}
theorem Hs.push (h:Hs B w A c l) (hb:Below w.heap.size w w4) (x:Hq) (hx:QRd w4 x.A x.b) (v:Value)
 (hown:w5.ownsRow B 114 2 v (l.length+1) (abc l++ [.int .u64 (x.p:Int), .slice x.A x.b.length x.c])) (hgr:w4.grownBy w5 (Value.slice A l.length c).ownBlock):
 ∃A' c',v= .slice A' (l++ [x]).length c'/\Hs B w5 A' c' (l++ [x])/\Tch (ana A) w w5:=by
 obtain⟨A',c',rfl⟩:=adY hown;have h4:=h.below hb;have hk:∀(k:Nat) (cs:Array Value),w4.heap[k]?=some (.cells cs 3 (0,0))->w5.heap[k]?=w4.heap[k]?:=fun k cs hk=>hgr.block k (aae hk) fun e=>acB h4.own e.symm hk (by decide);refine⟨A',c',by rw[List.length_append];rfl,⟨?_,fun y hy=> ?_⟩,(Tch.of_below (S:=ana A) hb).trans (Tch.grown (S:=ana A) hgr fun k e=> ?_) fun _ _ h=>h⟩
 · rw[List.length_append,aef];exact hown
 · rcases List.mem_append.1 hy with hy | hy
   · exact(h4.row y hy).keep hk
   · obtain rfl:y=x:=by simpa using hy
     exact hx.keep hk
 · cases A with
   | none=>simp[Value.ownBlock]at e
   | some a=>
    have hA:=h.own.2;rcases hA with⟨h',_⟩ | ⟨g,cap,cur,hv,_⟩
    · cases h'
    · injection hv with e1;injection e1 with e1;subst e1;simp[Value.ownBlock]at e;exact⟨_,rfl,e⟩
end
section
variable {B:Nat} {w:World} {q g base cap ch:Nat} {Ah:Option Addr} {bs:List UInt8} {H:Hp} {A:Option Addr} {c:Nat} {l:List Hq}
theorem ahm{P:Prop}(h:P:=by
 refine aaW (l:= []) (t:= ?tl2) rfl ?htl2 (wpQuiet_nil ?_)
 case htl2=>simp only[pick,lE1,lE2,lE3];rfl
 simp only[Act.put,lE4,lE5,lE6];have N2:=hE0 n2;obtain⟨z3,hz3,n3,b3,⟨x0,x1⟩,⟨e0,e1⟩,hlz⟩:=auK N2 (.int .u64 (p:Int)) (.slice (some ⟨wd.heap.size,0,none⟩) m m);have F3:=hE0 ((f1.below bz2).keep ((b3.out z1.heap.size z2 (Nat.le_refl _) (Below.refl _ _)).block _ f1.lt));have B3:=hE0 (b3.out wd.heap.size wd bz1.size (bz1.trans (bz2.mono bz1.size)));have G1:=hE0 bz1.size;clear hz1 hz2 n2 f1 bz1 bz2;go_wp2_with (first | (rw[hz3.out]) | fail)
 go_meet
 case rel=>exact⟨z1.heap.size,wd.heap.size,rfl,n3.out,F3.out,by rw[HSD.out];exact G1.out,by rw[HSD.out];exact Nat.le_refl _,HBD.out.trans (by rw[HSD.out];exact B3.out)⟩
 ):P:=h
theorem air{P:Prop}(h:P:=by
 refine aaD wd.heap.size (.two [0,1,2,3] 4 (.one [5] 6 (.fin [])) 6 (.one [] 4 (.fin [5]))) [7] (by kernel_rfl) (by kernel_rfl) (by kernel_rfl) (fun _ _ _ _ _ h=>h) ?_;rw[HWD.out];have q0:∀z:LaterB wd.heap.size wd,z.val.cell? ⟨w1.heap.size,1,none⟩=some (.int .u64 (p:Int)):=fun z=>(z.ext.cell (p:=⟨w1.heap.size,1,none⟩) hl1d).trans HR1.out;refine abL (l:= ?seg1) ?hseg1 ?_
 case hseg1=>simp only[pick,lE1,lE2,lE3];rfl
 repeat (go_big_quiet_step (fail))
 refine wpQuiet_nil ?_;clear q0;refine⟨?wayA,?wayC⟩
 case wayA=>
  obtain⟨z1,hz1⟩:=nmE (wd.alloc (.cells ((List.replicate m (0:UInt8)).map iB).toArray 3));have bz1:=abE hz1;have f1:FillI z1 wd.heap.size (List.replicate m 0):=by rw[<-hz1];exact .of (heap_alloc_new wd _)
  refine aas (some 117) (w1:=z1) (v:= .slice (some ⟨wd.heap.size,0,none⟩) m m) rfl rfl rfl (by rw[<-hz1];exact ajr rfl rfl rfl (aeu m (by omega) wd)) bz1 ⟨wd.heap.size,Nat.le_refl _,?_⟩;refine aax (l:= ?seg2) ?hseg2 ?_
  case hseg2=>simp only[pick,lE1,lE2,lE3];rfl
  simp only[Act.put,lE4,lE5,lE6];repeat (go_big_quiet_step (fail))
  refine wpQuiet_nil ?_;obtain⟨z2,hz2⟩:=nmE (z1.alloc (.cells #[.int .u64 0, .slice none 0 0] 114));have bz2:=abE hz2;have n2:=anE hz2;refine aas (some 17) (w1:=z2) (v:= .pointer (some ⟨z1.heap.size,0,none⟩)) rfl rfl rfl (by rw[<-hz2];exact adG _ _ rfl z1) (bz2.mono bz1.size) ⟨wd.heap.size,Nat.le_refl _,?_⟩;exact ahm
 case wayC=>
  obtain⟨z1,hz1⟩:=nmE (wd.alloc (.cells #[.int .u64 0, .slice none 0 0] 114));have bz1:=abE hz1;have n1:=anE hz1;refine aas (some 17) (w1:=z1) (v:= .pointer (some ⟨wd.heap.size,0,none⟩)) rfl rfl rfl (by rw[<-hz1];exact adG _ _ rfl wd) bz1 ⟨wd.heap.size,Nat.le_refl _,?_⟩;refine aax (l:= []) rfl (wpQuiet_nil ?_);obtain⟨z2,hz2⟩:=nmE (z1.alloc (.cells ((List.replicate m (0:UInt8)).map iB).toArray 3));have bz2:=abE hz2;have f2:FillI z2 z1.heap.size (List.replicate m 0):=by rw[<-hz2];exact .of (heap_alloc_new z1 _)
  have n2:=(bz2.block _ (aaa n1)).trans n1;refine aas (some 117) (w1:=z2) (v:= .slice (some ⟨z1.heap.size,0,none⟩) m m) rfl rfl rfl (by rw[<-hz2];exact ajr rfl rfl rfl (aeu m (by omega) z1)) (bz2.mono bz1.size) ⟨wd.heap.size,Nat.le_refl _,?_⟩;refine aaW (l:= ?la4) (t:= ?tl4) ?hla4 ?htl4 ?_
  case hla4=>simp only[pick,lE1,lE2,lE3];rfl
  case htl4=>simp only[pick,lE1,lE2,lE3];rfl
  simp only[Act.put,lE4,lE5,lE6];repeat (go_big_quiet_step (fail))
  refine wpQuiet_nil ?_;have N2:=hE0 n2;have hne:z1.heap.size≠wd.heap.size:=by have:=aaa n1;omega
  obtain⟨z3,hz3,n3,b3,⟨x0,x1⟩,⟨e0,e1⟩,hlz⟩:=auK N2 (.int .u64 (p:Int)) (.slice (some ⟨z1.heap.size,0,none⟩) m m);have F3:Hid (FillI z3 z1.heap.size (List.replicate m 0)):=hE0 (f2.keep (by rw[<-hz3.out,Below.heap_setCell _ _ _ _ hne,Below.heap_setCell _ _ _ _ hne]));have B3:=hE0 (b3.out wd.heap.size wd (Nat.le_refl _) (bz1.trans (bz2.mono bz1.size)));have G1:=hE0 bz1.size;clear hz1 hz2 n1 n2 f2 bz1 bz2 hne;go_wp2_with (first | (rw[hz3.out]) | fail)
  go_meet
  case rel=>exact⟨wd.heap.size,z1.heap.size,rfl,n3.out,F3.out,by rw[HSD.out];exact Nat.le_refl _,by rw[HSD.out];exact G1.out,HBD.out.trans (by rw[HSD.out];exact B3.out)⟩):P:=h
theorem auA (h:Hs B w A c l) (hl:l.length<=1000) (xh cn cm ca:Nat) (xA:Option Addr) (bl xc:Nat) (p m rn:Nat) (rA:Option Addr) (rbl rc s0 s1 s2 s3 s4:Nat) (hv:PH w q g base cap Ah ch bs H) (hus:H.usableP p=(m,0)) (hlm:Lm l) (hcn:cn<=m) (hm:m<=16384) (h16:p%16=0) (hpc:p+m<=cap) (hp16:cap<=16384) (hap:∀x∈l,x.p+x.b.length<=p\/p+m<=x.p) (hBw:B<=w.heap.size):
 Calls Tryz.prog 107 #[.pointer (some ⟨q,0,none⟩), .slice A l.length c, .agg #[.int .i64 (1), .int .u64 (xh:Int), .int .u64 (cn:Int), .int .u64 (cm:Int), .int .u64 (ca:Int), .slice xA bl xc], .agg #[.int .i64 (0), .int .u64 (p:Int), .int .u64 (rn:Int), .slice rA rbl rc, .int .i64 (s0:Int), .int .i64 (s1:Int), .int .i64 (s2:Int), .int .i64 (s3:Int), .int .i64 (s4:Int)], .int .i64 (cap:Int)] w fun e w'=>MdT B A (l.map Hq.two++ [(p,List.replicate m 165)]) w e w':=by
 obtain⟨w1,ha1,n1,b1⟩:=acz w 43 (.int .i64 (1)) (.int .u64 (xh:Int)) (.int .u64 (cn:Int)) (.int .u64 (cm:Int)) (.int .u64 (ca:Int)) (.slice xA bl xc);obtain⟨w2,ha2,n2,b2⟩:=abx w1 50 (.int .i64 (0)) (.int .u64 (p:Int)) (.int .u64 (rn:Int)) (.slice rA rbl rc) (.int .i64 (s0:Int)) (.int .i64 (s1:Int)) (.int .i64 (s2:Int)) (.int .i64 (s3:Int)) (.int .i64 (s4:Int));have HB2:=hE0 (b1.out.trans (b2.out.mono b1.out.size));have m1:=hE0 ((b2.out.block _ (aaa n1.out)).trans n1.out);have HS2:=hE0 (h.below HB2.out);obtain⟨⟨c0,c1,c2,c3,c4,c5⟩,_,hlc⟩:=aa4 m1.out;obtain⟨⟨r0,r1,r2,r3,_⟩,_,hlr⟩:=aaT n2.out;have HU:=hE0 (acx (hv.below HB2.out) p (by omega));rw[hus]at HU;clear hus;have HF:=hE0 (anb HS2.out hl xh);have HAP:=hE0 (fun W (hW:Below w.heap.size w W)=>afk (h.below hW) hl hlm p m cap h16 hpc hp16 hap);have HS:=hE0 h;have HBW:=hE0 hBw;obtain⟨n,hn⟩:=nmE l.length;have HN:=hE0 hn;rw[hn]at HF HAP hl ⊢;clear h hn hv hap hlm hBw h16;have gm:(m:Int)%100000=(m:Int):=by omega
 have g5:decide ((m:Int)<(cn:Int))=false:=decide_eq_false (by omega);have g5n:decide (m<cn)=false:=decide_eq_false (by omega);go_enter Tryz.func107,Tryz.ntmps107
 go_wp2_with (first | (rw[ha1.out]) | (rw[ha2.out]) | fail)
 refine HF.out.mono ?_;rintro e w' ⟨rfl,r,rfl⟩;clear HF;go_wp2_with fail
 refine HU.out.mono ?_;rintro e v3 ⟨rfl,hb3⟩;have HB3:=hE0 (HB2.out.trans (hb3.mono HB2.out.size));have A3:=hE0 (HAP.out v3 HB3.out);have n3:=hE0 ((hb3.block _ (aaa n2.out)).trans n2.out);have m3:=hE0 ((hb3.block _ (aaa m1.out)).trans m1.out);clear hb3 HU c0 c1 c2 c3 c4 c5 r0 r1 r2 r3 hlc hlr;obtain⟨⟨c0,c1,c2,c3,c4,c5⟩,_,hlc⟩:=aa4 m3.out;obtain⟨⟨r0,r1,r2,r3,_⟩,_,hlr⟩:=aaT n3.out;rw[show aju 0= .nilIface from rfl];go_wp2_with fail
 refine A3.out.mono ?_;rintro e v4 ⟨rfl,hb4⟩;have HB4:=hE0 (HB3.out.trans (hb4.mono HB3.out.size));have n4:=hE0 ((hb4.block _ (aaa n3.out)).trans n3.out);have m4:=hE0 ((hb4.block _ (aaa m3.out)).trans m3.out);clear hb4 A3 HAP c0 c1 c2 c3 c4 c5 r0 r1 r2 r3 hlc hlr;obtain⟨⟨c0,c1,c2,c3,c4,c5⟩,_,hlc⟩:=aa4 m4.out;obtain⟨⟨r0,r1,r2,r3,_⟩,_,hlr⟩:=aaT n4.out;go_upto_region 20 with(fail)
 clear gm g5 g5n;obtain⟨wd,hwd⟩:=nmE v4.drew;have HWD:=hE0 hwd;have HSD:Hid (v4.heap.size=wd.heap.size):=by rw[<-hwd];rfl
 have HBD:Hid (Below v4.heap.size v4 wd):=by rw[<-hwd];exact(Below.refl _ _).drew
 have HR1:=hE0 ((HBD.out.cell (p:=⟨w1.heap.size,1,none⟩) hlr).trans r1);have hl1d:w1.heap.size<wd.heap.size:=Nat.lt_of_lt_of_le hlr HBD.out.size;clear hwd;go_cut [17] from 113 (fun v wx=>∃gx gb,v= .pointer (some ⟨gx,0,none⟩)/\wx.heap[gx]?=some (.cells #[.int .u64 (p:Int), .slice (some ⟨gb,0,none⟩) m m] 114 (0,0))/\FillI wx gb (List.replicate m 0)/\v4.heap.size<=gx/\v4.heap.size<=gb/\Below v4.heap.size v4 wx)
 case first=>
  exact air
 case rest=>
 obtain⟨gx,gb,rfl,nx,fb,lx,lb,hbx⟩:=hcut;have NX:=hE0 nx;have FB:=hE0 fb;have HBX:=hE0 hbx;clear nx fb hbx c0 c1 c2 c3 c4 c5 r0 r1 r2 r3 hlc hlr;go_wp2_with fail
 go_loopw [18] (fun i wr=>∃(j:Nat) (b:List UInt8),i= .int .i64 (j:Int)/\j<=m/\b.length=m/\(∀k,k<j->b[k]?=some 165)/\FillI wr gb b/\wr.heap[gx]?=some (.cells #[.int .u64 (p:Int), .slice (some ⟨gb,0,none⟩) m m] 114 (0,0))/\Below v4.heap.size v4 wr) (fun i _=>m-(intOf i).toNat)
 case atStart=>exact⟨0,_,rfl,Nat.zero_le _,List.length_replicate,fun k hk=>absurd hk (Nat.not_lt_zero _),FB.out,NX.out,HBX.out⟩
 case round=>
  clear NX FB HBX;obtain⟨j,b,rfl,hj,hbl,hbv,fb,nx,hbx⟩:=hrel;have NX:=hE0 nx;have FB:=hE0 fb;have HBX:=hE0 hbx;have HBV:=hE0 hbv;have HBL:=hE0 hbl;obtain⟨⟨x0,x1⟩,_,hlx⟩:=ahk nx;clear nx fb hbx hbv hbl;by_cases hlt:j<m
  · obtain⟨⟨c0,c1,c2,c3,c4,c5⟩,_,hlc⟩:=aa4 ((HBX.out.block _ (aaa m4.out)).trans m4.out);obtain⟨u,hu⟩:∃u,b[j]?=some u:=⟨b[j]'(by rw[HBL.out];exact hlt),List.getElem?_eq_getElem _⟩;obtain⟨d0,d1⟩:=FB.out.at_ hu;have hlb:=FB.out.lt;have F2:=hE0 (FB.out.set j (by rw[HBL.out];exact hlt) 165);have NX2:Hid ((wr.setCell ⟨gb,j,none⟩ (.int .i64 165)).heap[gx]?=some (.cells #[.int .u64 (p:Int), .slice (some ⟨gb,0,none⟩) m m] 114 (0,0))):=by
     rw[Below.heap_setCell _ _ _ _ (FB.out.ne NX.out)];exact NX.out
    have HB2:=hE0 (HBX.out.setCell (p:=⟨gb,j,none⟩) lb (.int .i64 165));clear hu;go_wp2_with fail
    go_roundw
    case rel=>
     refine⟨j+1,b.set j 165,by go_num,by omega,by rw[List.length_set];exact HBL.out,fun k hk=> ?_,F2.out,NX2.out,HB2.out⟩;rw[List.getElem?_set];split
     · rw[if_pos (by rw[HBL.out];exact hlt)]
     · exact HBV.out k (by omega)
    case measure=>simp only[intOf];omega
  · have hbr:b=List.replicate m 165:=by
     refine List.ext_getElem? fun k=> ?_;rw[List.getElem?_replicate];split
     · rename_i hk;exact HBV.out k (by omega)
     · exact List.getElem?_eq_none (by rw[HBL.out];omega)
    subst hbr;obtain⟨wa,hwa,na,ba⟩:=aqZ wr 114 (.int .u64 (p:Int)) (.slice (some ⟨gb,0,none⟩) m m);obtain⟨i0,hi,hz0,hz1,hz2⟩:=info_parts adK;have HBA:=hE0 (HB4.out.trans ((HBX.out.trans (ba.out.mono HBX.out.size)).mono HB4.out.size));have HSA:=hE0 (HS.out.below HBA.out);have FA:=hE0 (FB.out.below ba.out);have hBa:B<=wa.heap.size:=Nat.le_trans HBW.out HBA.out.size;have HNEW:Hid (∀j u,[Value.int .u64 (p:Int), .slice (some ⟨gb,0,none⟩) m m][j]?=some u->wa.cell? ((⟨wr.heap.size,0,none⟩:Addr).add j)=some u):=fun j u hu=>by
     have e:(⟨wr.heap.size,0,none⟩:Addr).add j=⟨wr.heap.size,j,none⟩:=by unfold Addr.add;split<;>simp_all
     rw[e,cell_of_row wa _ j _ _ (0,0) na.out];simpa using hu
    have HONE:Hid (∀u∈ [Value.int .u64 (p:Int), .slice (some ⟨gb,0,none⟩) m m],u.oneCell'=true):=fun u hu=>by
     simp at hu;rcases hu with rfl | rfl<;>rfl
    have HOA:Hid (wa.ownsRow B 114 2 (.slice A n c) n (abc l)):=by have:=HSA.out.own;rw[HN.out]at this;exact this
    go_wp2_with (first
     | (rw[hwa.out])
     | (at_builtin;go_must (refine wpList_append_own _ rfl _ _ 110 rfl B 114 i0 _ 2 32 Tryz.underlying110 hi hz0 hz1 hz2 rfl (by decide) _ n (abc l) rfl HOA.out ⟨wr.heap.size,0,none⟩ 1 1 [.int .u64 (p:Int), .slice (some ⟨gb,0,none⟩) m m] rfl rfl HNEW.out HONE.out (by unfold maxLen;omega) (by omega) hBa ?_);intro x5 w5 own5 gr5 at5
        have HX5:Hid (w5.ownsRow B 114 2 x5 (n+1) (abc l++ [.int .u64 (p:Int), .slice (some ⟨gb,0,none⟩) m m])/\wa.grownBy w5 (Value.slice A n c).ownBlock):=⟨own5,gr5⟩;clear own5 gr5 at5)
     | fail)
    go_ret2
    obtain⟨o5,g5⟩:=HX5.out;rw[<-HN.out]at o5 g5;obtain⟨A',c',rfl,h5,t5⟩:=HS.out.push HBA.out ⟨p,some ⟨gb,0,none⟩,m,List.replicate m 165⟩ FA.out.qrd x5 (by rw[show(List.replicate m (165:UInt8)).length=m from List.length_replicate];exact o5) g5;exact⟨A',c',_,rfl,h5,by rw[List.map_append];rfl,t5⟩
theorem ais{P:Prop}(h:P:=by
 have HB5:=hE0 (HB4.out.trans (HBD5.out.mono HB4.out.size));have n5:=hE0 ((HBD5.out.block _ (aaa n4.out)).trans n4.out);have m5:=hE0 ((HBD5.out.block _ (aaa m4.out)).trans m4.out);obtain⟨⟨c0,c1,c2,c3,c4,c5⟩,_,hlc⟩:=aa4 m5.out;obtain⟨⟨r0,r1,r2,r3,_⟩,_,hlr⟩:=aaT n5.out;go_upto_region 20 with(fail)
 clear gm g5 g5n hnm;obtain⟨wd,hwd⟩:=nmE v5.drew;have HWD:=hE0 hwd;have HSD:Hid (v5.heap.size=wd.heap.size):=by rw[<-hwd];rfl
 have HBD:Hid (Below v5.heap.size v5 wd):=by rw[<-hwd];exact(Below.refl _ _).drew
 have HR1:=hE0 ((HBD.out.cell (p:=⟨w1.heap.size,1,none⟩) hlr).trans r1);have hl1d:w1.heap.size<wd.heap.size:=Nat.lt_of_lt_of_le hlr HBD.out.size;clear hwd;go_cut [17] from 113 (fun v wx=>∃gx gb,v= .pointer (some ⟨gx,0,none⟩)/\wx.heap[gx]?=some (.cells #[.int .u64 (p:Int), .slice (some ⟨gb,0,none⟩) m m] 114 (0,0))/\FillI wx gb (List.replicate m 0)/\v5.heap.size<=gx/\v5.heap.size<=gb/\Below v5.heap.size v5 wx)
 case first=>
  exact air
 case rest=>
 obtain⟨gx,gb,rfl,nx,fb,lx,lb,hbx⟩:=hcut;have NX:=hE0 nx;have FB:=hE0 fb;have HBX:=hE0 hbx;clear nx fb hbx c0 c1 c2 c3 c4 c5 r0 r1 r2 r3 hlc hlr;go_wp2_with fail
 go_loopw [18] (fun i wr=>∃(j:Nat) (b:List UInt8),i= .int .i64 (j:Int)/\j<=m/\b.length=m/\(∀k,k<j->b[k]?=some 0)/\FillI wr gb b/\wr.heap[gx]?=some (.cells #[.int .u64 (p:Int), .slice (some ⟨gb,0,none⟩) m m] 114 (0,0))/\Below v5.heap.size v5 wr) (fun i _=>m-(intOf i).toNat)
 case atStart=>exact⟨0,_,rfl,Nat.zero_le _,List.length_replicate,fun k hk=>absurd hk (Nat.not_lt_zero _),FB.out,NX.out,HBX.out⟩
 case round=>
  clear NX FB HBX;obtain⟨j,b,rfl,hj,hbl,hbv,fb,nx,hbx⟩:=hrel;have NX:=hE0 nx;have FB:=hE0 fb;have HBX:=hE0 hbx;have HBV:=hE0 hbv;have HBL:=hE0 hbl;obtain⟨⟨x0,x1⟩,_,hlx⟩:=ahk nx;clear nx fb hbx hbv hbl;by_cases hlt:j<m
  · obtain⟨⟨c0,c1,c2,c3,c4,c5⟩,_,hlc⟩:=aa4 ((HBX.out.block _ (aaa m5.out)).trans m5.out);obtain⟨u,hu⟩:∃u,b[j]?=some u:=⟨b[j]'(by rw[HBL.out];exact hlt),List.getElem?_eq_getElem _⟩;obtain⟨d0,d1⟩:=FB.out.at_ hu;have hlb:=FB.out.lt;have F2:=hE0 (FB.out.set j (by rw[HBL.out];exact hlt) 0);have NX2:Hid ((wr.setCell ⟨gb,j,none⟩ (.int .i64 0)).heap[gx]?=some (.cells #[.int .u64 (p:Int), .slice (some ⟨gb,0,none⟩) m m] 114 (0,0))):=by
     rw[Below.heap_setCell _ _ _ _ (FB.out.ne NX.out)];exact NX.out
    have HB2:=hE0 (HBX.out.setCell (p:=⟨gb,j,none⟩) lb (.int .i64 0));clear hu;go_wp2_with fail
    go_roundw
    case rel=>
     refine⟨j+1,b.set j 0,by go_num,by omega,by rw[List.length_set];exact HBL.out,fun k hk=> ?_,F2.out,NX2.out,HB2.out⟩;rw[List.getElem?_set];split
     · rw[if_pos (by rw[HBL.out];exact hlt)]
     · exact HBV.out k (by omega)
    case measure=>simp only[intOf];omega
  · have hbr:b=List.replicate m 0:=by
     refine List.ext_getElem? fun k=> ?_;rw[List.getElem?_replicate];split
     · rename_i hk;exact HBV.out k (by omega)
     · exact List.getElem?_eq_none (by rw[HBL.out];omega)
    subst hbr;obtain⟨wa,hwa,na,ba⟩:=aqZ wr 114 (.int .u64 (p:Int)) (.slice (some ⟨gb,0,none⟩) m m);obtain⟨i0,hi,hz0,hz1,hz2⟩:=info_parts adK;have HBA:=hE0 (HB5.out.trans ((HBX.out.trans (ba.out.mono HBX.out.size)).mono HB5.out.size));have HSA:=hE0 (HS.out.below HBA.out);have FA:=hE0 (FB.out.below ba.out);have hBa:B<=wa.heap.size:=Nat.le_trans HBW.out HBA.out.size;have HNEW:Hid (∀j u,[Value.int .u64 (p:Int), .slice (some ⟨gb,0,none⟩) m m][j]?=some u->wa.cell? ((⟨wr.heap.size,0,none⟩:Addr).add j)=some u):=fun j u hu=>by
     have e:(⟨wr.heap.size,0,none⟩:Addr).add j=⟨wr.heap.size,j,none⟩:=by unfold Addr.add;split<;>simp_all
     rw[e,cell_of_row wa _ j _ _ (0,0) na.out];simpa using hu
    have HONE:Hid (∀u∈ [Value.int .u64 (p:Int), .slice (some ⟨gb,0,none⟩) m m],u.oneCell'=true):=fun u hu=>by
     simp at hu;rcases hu with rfl | rfl<;>rfl
    have HOA:Hid (wa.ownsRow B 114 2 (.slice A n c) n (abc l)):=by have:=HSA.out.own;rw[HN.out]at this;exact this
    go_wp2_with (first
     | (rw[hwa.out])
     | (at_builtin;go_must (refine wpList_append_own _ rfl _ _ 110 rfl B 114 i0 _ 2 32 Tryz.underlying110 hi hz0 hz1 hz2 rfl (by decide) _ n (abc l) rfl HOA.out ⟨wr.heap.size,0,none⟩ 1 1 [.int .u64 (p:Int), .slice (some ⟨gb,0,none⟩) m m] rfl rfl HNEW.out HONE.out (by unfold maxLen;omega) (by omega) hBa ?_);intro x5 w5 own5 gr5 at5
        have HX5:Hid (w5.ownsRow B 114 2 x5 (n+1) (abc l++ [.int .u64 (p:Int), .slice (some ⟨gb,0,none⟩) m m])/\wa.grownBy w5 (Value.slice A n c).ownBlock):=⟨own5,gr5⟩;clear own5 gr5 at5)
     | fail)
    go_ret2
    obtain⟨o5,g5⟩:=HX5.out;rw[<-HN.out]at o5 g5;obtain⟨A',c',rfl,h5,t5⟩:=HS.out.push HBA.out ⟨p,some ⟨gb,0,none⟩,m,List.replicate m 0⟩ FA.out.qrd x5 (by rw[show(List.replicate m (0:UInt8)).length=m from List.length_replicate];exact o5) g5;exact⟨A',c',_,rfl,h5,by rw[List.map_append];rfl,t5⟩
 ):P:=h
theorem asP (h:Hs B w A c l) (hl:l.length<=1000) (xh cn cm ca:Nat) (xA:Option Addr) (bl xc:Nat) (p m rn:Nat) (rA:Option Addr) (rbl rc s0 s1 s2 s3 s4:Nat) (hv:PH w q g base cap Ah ch bs H) (hus:H.usableP p=(m,0)) (hlm:Lm l) (hcn:cn*cm<=m) (hm:m<=16384) (h16:p%16=0) (hpc:p+m<=cap) (hp16:cap<=16384) (hap:∀x∈l,x.p+x.b.length<=p\/p+m<=x.p) (hBw:B<=w.heap.size) (hz:cn=0):
 Calls Tryz.prog 107 #[.pointer (some ⟨q,0,none⟩), .slice A l.length c, .agg #[.int .i64 (2), .int .u64 (xh:Int), .int .u64 (cn:Int), .int .u64 (cm:Int), .int .u64 (ca:Int), .slice xA bl xc], .agg #[.int .i64 (0), .int .u64 (p:Int), .int .u64 (rn:Int), .slice rA rbl rc, .int .i64 (s0:Int), .int .i64 (s1:Int), .int .i64 (s2:Int), .int .i64 (s3:Int), .int .i64 (s4:Int)], .int .i64 (cap:Int)] w fun e w'=>MdT B A (l.map Hq.two++ [(p,List.replicate m 0)]) w e w':=by
 obtain⟨w1,ha1,n1,b1⟩:=acz w 43 (.int .i64 (2)) (.int .u64 (xh:Int)) (.int .u64 (cn:Int)) (.int .u64 (cm:Int)) (.int .u64 (ca:Int)) (.slice xA bl xc);obtain⟨w2,ha2,n2,b2⟩:=abx w1 50 (.int .i64 (0)) (.int .u64 (p:Int)) (.int .u64 (rn:Int)) (.slice rA rbl rc) (.int .i64 (s0:Int)) (.int .i64 (s1:Int)) (.int .i64 (s2:Int)) (.int .i64 (s3:Int)) (.int .i64 (s4:Int));have HB2:=hE0 (b1.out.trans (b2.out.mono b1.out.size));have m1:=hE0 ((b2.out.block _ (aaa n1.out)).trans n1.out);have HS2:=hE0 (h.below HB2.out);obtain⟨⟨c0,c1,c2,c3,c4,c5⟩,_,hlc⟩:=aa4 m1.out;obtain⟨⟨r0,r1,r2,r3,_⟩,_,hlr⟩:=aaT n2.out;have HU:=hE0 (acx (hv.below HB2.out) p (by omega));rw[hus]at HU;clear hus;have HF:=hE0 (anb HS2.out hl xh);have HAP:=hE0 (fun W (hW:Below w.heap.size w W)=>afk (h.below hW) hl hlm p m cap h16 hpc hp16 hap);have HS:=hE0 h;have HBW:=hE0 hBw;obtain⟨n,hn⟩:=nmE l.length;have HN:=hE0 hn;rw[hn]at HF HAP hl ⊢;clear h hn hv hap hlm hBw h16;have gm:(m:Int)%100000=(m:Int):=by omega
 have hnm:((cn:Int)*(cm:Int))=((cn*cm:Nat):Int):=(Int.natCast_mul cn cm).symm;obtain⟨k,hk⟩:=nmE (cn*cm);have gz:decide ((0:Int)<(cn:Int))=false:=decide_eq_false (by omega);have gzn:decide (0<cn)=false:=decide_eq_false (by omega);clear hz;rw[hk]at hnm hcn;have g5:decide ((m:Int)<(k:Int))=false:=decide_eq_false (by omega);have g5n:decide (m<k)=false:=decide_eq_false (by omega);clear hk;go_enter Tryz.func107,Tryz.ntmps107
 go_wp2_with (first | (rw[ha1.out]) | (rw[ha2.out]) | fail)
 refine HF.out.mono ?_;rintro e w' ⟨rfl,r,rfl⟩;clear HF;go_wp2_with fail
 refine HU.out.mono ?_;rintro e v3 ⟨rfl,hb3⟩;have HB3:=hE0 (HB2.out.trans (hb3.mono HB2.out.size));have A3:=hE0 (HAP.out v3 HB3.out);have n3:=hE0 ((hb3.block _ (aaa n2.out)).trans n2.out);have m3:=hE0 ((hb3.block _ (aaa m1.out)).trans m1.out);clear hb3 HU c0 c1 c2 c3 c4 c5 r0 r1 r2 r3 hlc hlr;obtain⟨⟨c0,c1,c2,c3,c4,c5⟩,_,hlc⟩:=aa4 m3.out;obtain⟨⟨r0,r1,r2,r3,_⟩,_,hlr⟩:=aaT n3.out;rw[show aju 0= .nilIface from rfl];go_wp2_with fail
 refine A3.out.mono ?_;rintro e v4 ⟨rfl,hb4⟩;have HB4:=hE0 (HB3.out.trans (hb4.mono HB3.out.size));have n4:=hE0 ((hb4.block _ (aaa n3.out)).trans n3.out);have m4:=hE0 ((hb4.block _ (aaa m3.out)).trans m3.out);clear hb4 A3 HAP c0 c1 c2 c3 c4 c5 r0 r1 r2 r3 hlc hlr;obtain⟨⟨c0,c1,c2,c3,c4,c5⟩,_,hlc⟩:=aa4 m4.out;obtain⟨⟨r0,r1,r2,r3,_⟩,_,hlr⟩:=aaT n4.out;go_wp2_with fail
 go_quiet (fail)
 obtain⟨v5,hv5⟩:=nmE (v4.drewN nq);rw[hv5];have HBD5:Hid (Below v4.heap.size v4 v5):=by rw[<-hv5];exact abN _ _
 clear hv5 c0 c1 c2 c3 c4 c5 r0 r1 r2 r3 hlc hlr gz gzn;exact ais
theorem asQ (h:Hs B w A c l) (hl:l.length<=1000) (xh cn cm ca:Nat) (xA:Option Addr) (bl xc:Nat) (p m rn:Nat) (rA:Option Addr) (rbl rc s0 s1 s2 s3 s4:Nat) (hv:PH w q g base cap Ah ch bs H) (hus:H.usableP p=(m,0)) (hlm:Lm l) (hcn:cn*cm<=m) (hm:m<=16384) (h16:p%16=0) (hpc:p+m<=cap) (hp16:cap<=16384) (hap:∀x∈l,x.p+x.b.length<=p\/p+m<=x.p) (hBw:B<=w.heap.size) (hz:0<cn):
 Calls Tryz.prog 107 #[.pointer (some ⟨q,0,none⟩), .slice A l.length c, .agg #[.int .i64 (2), .int .u64 (xh:Int), .int .u64 (cn:Int), .int .u64 (cm:Int), .int .u64 (ca:Int), .slice xA bl xc], .agg #[.int .i64 (0), .int .u64 (p:Int), .int .u64 (rn:Int), .slice rA rbl rc, .int .i64 (s0:Int), .int .i64 (s1:Int), .int .i64 (s2:Int), .int .i64 (s3:Int), .int .i64 (s4:Int)], .int .i64 (cap:Int)] w fun e w'=>MdT B A (l.map Hq.two++ [(p,List.replicate m 0)]) w e w':=by
 obtain⟨w1,ha1,n1,b1⟩:=acz w 43 (.int .i64 (2)) (.int .u64 (xh:Int)) (.int .u64 (cn:Int)) (.int .u64 (cm:Int)) (.int .u64 (ca:Int)) (.slice xA bl xc);obtain⟨w2,ha2,n2,b2⟩:=abx w1 50 (.int .i64 (0)) (.int .u64 (p:Int)) (.int .u64 (rn:Int)) (.slice rA rbl rc) (.int .i64 (s0:Int)) (.int .i64 (s1:Int)) (.int .i64 (s2:Int)) (.int .i64 (s3:Int)) (.int .i64 (s4:Int));have HB2:=hE0 (b1.out.trans (b2.out.mono b1.out.size));have m1:=hE0 ((b2.out.block _ (aaa n1.out)).trans n1.out);have HS2:=hE0 (h.below HB2.out);obtain⟨⟨c0,c1,c2,c3,c4,c5⟩,_,hlc⟩:=aa4 m1.out;obtain⟨⟨r0,r1,r2,r3,_⟩,_,hlr⟩:=aaT n2.out;have HU:=hE0 (acx (hv.below HB2.out) p (by omega));rw[hus]at HU;clear hus;have HF:=hE0 (anb HS2.out hl xh);have HAP:=hE0 (fun W (hW:Below w.heap.size w W)=>afk (h.below hW) hl hlm p m cap h16 hpc hp16 hap);have HS:=hE0 h;have HBW:=hE0 hBw;obtain⟨n,hn⟩:=nmE l.length;have HN:=hE0 hn;rw[hn]at HF HAP hl ⊢;clear h hn hv hap hlm hBw h16;have gm:(m:Int)%100000=(m:Int):=by omega
 have hnm:((cn:Int)*(cm:Int))=((cn*cm:Nat):Int):=(Int.natCast_mul cn cm).symm;obtain⟨k,hk⟩:=nmE (cn*cm);have hov:cm<=18446744073709551615/cn:=by rw[Nat.le_div_iff_mul_le hz,Nat.mul_comm];omega
 have gq:decide ((18446744073709551615:Int)/(cn:Int)<(cm:Int))=false:=decide_eq_false (by
  have:((18446744073709551615/cn:Nat):Int)=(18446744073709551615:Int)/(cn:Int):=Int.natCast_ediv _ _;rw[<-this];omega)
 have gqn:decide (18446744073709551615/cn<cm)=false:=decide_eq_false (by omega);have gz:decide ((0:Int)<(cn:Int))=true:=decide_eq_true (by omega);have gzn:decide (0<cn)=true:=decide_eq_true hz;rw[hk]at hnm hcn;have g5:decide ((m:Int)<(k:Int))=false:=decide_eq_false (by omega);have g5n:decide (m<k)=false:=decide_eq_false (by omega);clear hk;go_enter Tryz.func107,Tryz.ntmps107
 go_wp2_with (first | (rw[ha1.out]) | (rw[ha2.out]) | fail)
 refine HF.out.mono ?_;rintro e w' ⟨rfl,r,rfl⟩;clear HF;go_wp2_with fail
 refine HU.out.mono ?_;rintro e v3 ⟨rfl,hb3⟩;have HB3:=hE0 (HB2.out.trans (hb3.mono HB2.out.size));have A3:=hE0 (HAP.out v3 HB3.out);have n3:=hE0 ((hb3.block _ (aaa n2.out)).trans n2.out);have m3:=hE0 ((hb3.block _ (aaa m1.out)).trans m1.out);clear hb3 HU c0 c1 c2 c3 c4 c5 r0 r1 r2 r3 hlc hlr;obtain⟨⟨c0,c1,c2,c3,c4,c5⟩,_,hlc⟩:=aa4 m3.out;obtain⟨⟨r0,r1,r2,r3,_⟩,_,hlr⟩:=aaT n3.out;rw[show aju 0= .nilIface from rfl];go_wp2_with fail
 refine A3.out.mono ?_;rintro e v4 ⟨rfl,hb4⟩;have HB4:=hE0 (HB3.out.trans (hb4.mono HB3.out.size));have n4:=hE0 ((hb4.block _ (aaa n3.out)).trans n3.out);have m4:=hE0 ((hb4.block _ (aaa m3.out)).trans m3.out);clear hb4 A3 HAP c0 c1 c2 c3 c4 c5 r0 r1 r2 r3 hlc hlr;obtain⟨⟨c0,c1,c2,c3,c4,c5⟩,_,hlc⟩:=aa4 m4.out;obtain⟨⟨r0,r1,r2,r3,_⟩,_,hlr⟩:=aaT n4.out;go_wp2_with fail
 go_quiet (fail)
 obtain⟨v5,hv5⟩:=nmE (v4.drewN nq);rw[hv5];have HBD5:Hid (Below v4.heap.size v4 v5):=by rw[<-hv5];exact abN _ _
 clear hv5 c0 c1 c2 c3 c4 c5 r0 r1 r2 r3 hlc hlr gq gqn gz gzn;exact ais
end
def awh (_B base cap n:Nat) (w:World) (e:Ending) (w':World):Prop:=
 Below w.heap.size w w'/\∃q g A c bs H told At ct,e= .returned (.tuple #[.pointer (some ⟨q,0,none⟩), .slice At told.length ct])/\Hv w.heap.size w' q g base cap A c bs H/\w'.ownsRow w.heap.size 25 1 (.slice At told.length ct) told.length (told.map uV)/\told.length<=n/\(∀v∈told,v<18446744073709551616)/\(n=0->H=aez cap/\told= [])
theorem ajs{w W:World}{A:Option Addr}{l:List Cl}(hL:ClRd w w.heap.size A l) (hb:Below w.heap.size w W):ClRd W W.heap.size A l:=fun hn=>by
 obtain⟨b,o,e,hB,hc⟩:=(hL.below hb) hn;exact⟨b,o,e,Nat.lt_of_lt_of_le hB hb.size,fun j x hx=>by
  obtain⟨y1,y2,y3⟩:=hc j x hx;exact⟨y1,y2.more hb.size,y3⟩⟩
theorem aq4 (w:World) (base:Nat) (hb:base<18446744073709551616) (cap:Int) (hc: -9223372036854775808<=cap/\cap<=9223372036854775807) (hbad:base%16≠0\/4611686018427387904<base\/cap<1024\/16384<cap) (A:Option Addr) (n k:Nat) (most:Int):
 Calls Tryz.prog 47 #[.int .u64 (base:Int), .int .i64 cap, .slice A n k, .int .i64 most] w fun e w'=>e= .returned (.tuple #[.pointer none, .slice none 0 0])/\w=w':=by
 have HN:=hE0 (asw w base hb cap hc hbad);clear hbad;go_enter Tryz.func47,Tryz.ntmps47
 go_wp2_with fail
 refine HN.out.mono ?_;rintro e w2 ⟨rfl,rfl⟩;rw[avm];go_wp2_with fail
 go_ret2
 exact⟨rfl,rfl⟩
theorem auL (w:World) (base cap:Nat) (h1b:base%16=0) (h2b:base<=4611686018427387904) (h1:1024<=cap) (h2:cap<=16384) (A:Option Addr) (k:Nat) (l:List Cl) (hL:ClRd w w.heap.size A l) (hm:l.length<=maxLen) (most:Nat) (hmo:most<=100) (hs:ac2 l most=false):
 Calls Tryz.prog 47 #[.int .u64 (base:Int), .int .i64 (cap:Int), .slice A l.length k, .int .i64 (most:Int)] w fun e w'=>e= .returned (.tuple #[.pointer none, .slice none 0 0])/\Below w.heap.size w w':=by
 unfold maxLen at hm;have HN:=hE0 (ag9 w base cap h1b h2b h1 h2);have hsm:=fun W (hb:Below w.heap.size w W)=>ahf W A k l (ajs hL hb) (by omega) most (by omega);rw[hs]at hsm;have HSM:=hE0 hsm;obtain⟨n,hn⟩:=nmE l.length;rw[hn]at HSM hm ⊢;clear hsm hs hL hn;go_enter Tryz.func47,Tryz.ntmps47
 go_wp2_with fail
 refine HN.out.mono ?_;intro e w2 hm2;obtain⟨q1,g1,A1,c1,b1,rfl,hv1,hb2⟩:=hm2.hv;have HB2:=hE0 hb2;clear hm2 hv1 hb2;go_wp2_with fail
 refine(HSM.out w2 HB2.out).mono ?_;rintro e w4 ⟨rfl,rfl⟩;go_wp2
 go_ret2
 exact⟨rfl,HB2.out⟩
theorem aq5 (w:World) (hE:ET w) (base cap:Nat) (h1b:base%16=0) (h2b:base<=4611686018427387904) (h1:1024<=cap) (h2:cap<=16384) (A:Option Addr) (k:Nat) (l:List Cl) (hL:ClRd w w.heap.size A l) (most:Nat) (hmo:most<=100) (hs:ac2 l most=true):
 Calls Tryz.prog 47 #[.int .u64 (base:Int), .int .i64 (cap:Int), .slice A l.length k, .int .i64 (most:Int)] w fun e w'=>awh w.heap.size base cap l.length w e w':=by
 have hs':=hs;unfold ac2 at hs';rw[Bool.and_eq_true,List.all_eq_true]at hs';have hl80:l.length<=most:=of_decide_eq_true hs'.1;have HSB:Hid (∀x∈l,x.b.length<=2000):=fun x hx=>of_decide_eq_true (hs'.2 x hx);have HN:=hE0 (ag9 w base cap h1b h2b h1 h2);have hsm:=fun W (hb:Below w.heap.size w W)=>ahf W A k l (ajs hL hb) (by omega) most (by omega);rw[hs]at hsm;have HSM:=hE0 hsm;obtain⟨n,hn⟩:=nmE l.length;rw[hn]at HSM hl80 ⊢;have HNL:=hE0 hn;have HL:=hE0 hL;have HE:=hE0 hE;clear hsm hs hs' hL hn hE;go_enter Tryz.func47,Tryz.ntmps47
 go_wp2_with fail
 refine HN.out.mono ?_;intro e w2 hm2;obtain⟨q,g,A1,c1,b1,rfl,hv1,hb2⟩:=hm2.hv;have HB2:=hE0 hb2;have HV1:=hE0 hv1;clear hm2 hv1 hb2 HN;go_wp2_with fail
 refine(HSM.out w2 HB2.out).mono ?_;rintro e w3 ⟨rfl,rfl⟩;clear HSM;go_wp2_with fail
 go_loopw [12,13] (fun t i wr=>∃(j:Nat) (told:List Nat) (At:Option Addr) (ct:Nat) (H:Hp) (A1:Option Addr) (c1:Nat) (b1:List UInt8),t= .slice At told.length ct/\i= .int .i64 (j:Int)/\j<=n/\told.length<=j/\(∀v∈told,v<18446744073709551616)/\wr.ownsRow w.heap.size 25 1 (.slice At told.length ct) told.length (told.map uV)/\Hv w.heap.size wr q g base cap A1 c1 b1 H/\Below w.heap.size w wr/\(j=0->H=aez cap/\told= [])) (fun _ i _=>n-(intOf i).toNat)
 case atStart=>exact⟨0,[],none,0,aez cap,A1,c1,b1,rfl,rfl,Nat.zero_le _,Nat.le_refl _,(fun v hv=>by cases hv),World.ownsRow_nil _ _ _ _,HV1.out,HB2.out,fun _=>⟨rfl,rfl⟩⟩
 case round=>
  clear HV1 HB2;obtain⟨j,told,At,ct,H,A1,c1,b1,rfl,rfl,hj,htl,h64,hown,hv,hb,hz⟩:=hrel;by_cases hlt:j<n
  · clear hz;obtain⟨x,hx⟩:∃x,l[j]?=some x:=⟨l[j]'(by rw[HNL.out];exact hlt),List.getElem?_eq_getElem _⟩;obtain⟨b,o,hA,hbB,hcx⟩:=(HL.out.below hb) (by rw[HNL.out];omega);subst hA;obtain⟨⟨i0,i1,i2,i3,i4,i5,i6⟩,hxr,hok⟩:=hcx j x hx;have hxr0:=((HL.out (by rw[HNL.out];omega)));obtain⟨b',o',hA',_,hcx0⟩:=hxr0;have HXB:=hE0 (hcx0 j x hx).2.1;clear hcx hcx0 hA' hxr;have hbl2:=HSB.out x (List.mem_of_getElem? hx);obtain⟨o9,ho9⟩:=nmE (ahd x);obtain⟨p9,hp⟩:=nmE (ahc x told);have hp64:p9<18446744073709551616:=by rw[<-hp];exact akK x told hok.2.2.1
    have ho9l:o9<9:=by rw[<-ho9];exact ahe x
    have hM:=akL wr x hok At ct told w.heap.size (Tl.own hown) (by omega) h64;rw[ho9,hp]at hM;obtain⟨_,_,hh,hn,hm,ha,_⟩:=hok;obtain⟨wh,xo,xh,xn,xm,xa,xA,xc,xb⟩:=x;dsimp only at i0 i1 i2 i3 i4 i5 i6 hM hbl2 hh hn hm ha HXB;obtain⟨bl,hbl⟩:=nmE xb.length;rw[hbl]at i6 hM hbl2;have HBLN:=hE0 hbl;have HV:=hE0 hv;have HOW:=hE0 hown;have H64:=hE0 h64;have HBB:=hE0 hb;unfold abo at hM;clear hx hb hv hown h64 hbl ho9 hp hh;have HM:=hE0 hM;clear hM;go_wp2_with fail
    refine HM.out.mono ?_;rintro e w3 ⟨rfl,hb3⟩;have hv3:=HV.out.below hb3;have hb03:=HBB.out.trans (hb3.mono HBB.out.size);have hE3:=HE.out.below hb03;have ho3:=aaw HOW.out hb3;have hr3:=((HXB.out.below hb03).more hb03.size);have hch:=ate hv3.ph.rd (by rw[hv3.ph.cp];exact hv3.ph.c16) ho9l p9 xn xm xa xb;obtain⟨dc,hdc⟩:=nmE (H.doC (o9:Int) p9 xn xm xa xb);rw[hdc]at hch;have hd:=hv3.do_ hb03.size hE3 HE.out.lt o9 ho9l p9 xn xm xa bl xc xA xb hp64 hn hm ha HBLN.out hr3 (by omega) dc hdc;obtain⟨⟨ck,ch,cn,cb,⟨s0,s1,s2,s3,s4⟩⟩,H1⟩:=dc;unfold abo at hd;dsimp only at hd hch;obtain⟨cbl,hcbl⟩:=nmE cb.length;have HDO:=hE0 hd;have HCH:=hE0 hch;have HB03:=hE0 hb03;have HV3:=hE0 hv3;have HO3:=hE0 ho3;have HCBL:=hE0 hcbl;clear hb3 hv3 hb03 hE3 ho3 hr3 hd hch hdc hcbl HM i0 i1 i2 i3 i4 i5 i6;go_wp2_with fail
    refine HDO.out.mono ?_;rintro e w4 ⟨hdt,A1',c1',b1',hv4,t4,bb4⟩;obtain⟨A',c',rfl,hob⟩:=hdt;unfold rpV ahB;dsimp only at hob hv4 ⊢;rw[HCBL.out];have ho4:=HV3.out.ph.ownO t4 HO3.out (by decide) (by decide) (by decide);have hb04:=HB03.out.trans bb4;obtain⟨w5,hw5,n5,b5⟩:=abx w4 50 (.int .i64 ck) (.int .u64 (ch:Int)) (.int .u64 (cn:Int)) (.slice A' cbl c') (.int .i64 (s0:Int)) (.int .i64 (s1:Int)) (.int .i64 (s2:Int)) (.int .i64 (s3:Int)) (.int .i64 (s4:Int));obtain⟨⟨z0,z1,z2,z3,z4,z5,z6,z7,z8⟩,_,hz8⟩:=aaT n5.out;have HV5:=hE0 (hv4.below b5.out);have HO5:=hE0 (aaw ho4 b5.out);have HB5:=hE0 (hb04.trans (b5.out.mono hb04.size));clear hob hv4 t4 bb4 ho4 hb04 HDO HV3 HO3 HB03;by_cases hch0:ch=0
    · have gz:((ch:Int) !=0)=false:=by rw[bne_eq_false_iff_eq];omega
      clear hch0;go_wp2_with (first | (rw[hw5.out]) | fail)
      go_roundw
      case rel=>exact⟨j+1,told,At,ct,H1,A1',c1',b1',rfl,by go_num,by omega,by omega,H64.out,HO5.out,HV5.out,HB5.out,fun e=>by omega⟩
      case measure=>simp only[intOf];omega
    · have gz:((ch:Int) !=0)=true:=by rw[bne_iff_ne];omega
      obtain⟨w9,hw9⟩:=nmE (w5.alloc (.cells #[.int .u64 (ch:Int)] 25));have b9:=abE hw9;have n9:=anE hw9;have c9:w9.cell? ⟨w5.heap.size,0,none⟩=some (uV ch):=by rw[cell_of_row w9 _ 0 _ _ (0,0) n9];rfl
      have HO9:=hE0 (aaw HO5.out b9);have HV9:=hE0 (HV5.out.below b9);have HB9:=hE0 (HB5.out.trans (b9.mono HB5.out.size));have HC9:=hE0 c9;have HW9:=hE0 hw9;have H641:Hid (∀v∈told++ [ch],v<18446744073709551616):=fun v hv=>by
       rcases List.mem_append.1 hv with h | h
       · exact H64.out v h
       · simp at h;rw[h];exact HCH.out
      clear hch0 hw9 b9 n9 c9;go_wp2_with (first
       | (rw[hw5.out])
       | (rw[HW9.out])
       | (at_builtin;go_must (refine aeA rfl _ _ rfl w.heap.size _ told.length told rfl HO9.out ⟨w5.heap.size,0,none⟩ 1 ch rfl HC9.out (by omega) HB9.out.size ?_);intro x12 w12 own12 gr12 lie12
          have HX12:Hid (w12.ownsRow w.heap.size 25 1 x12 (told.length+1) ((told++ [ch]).map uV)/\w9.grownBy w12 (Value.slice At told.length ct).ownBlock):=⟨own12,gr12⟩;clear own12 gr12 lie12)
       | fail)
      go_roundw
      case rel=>
       obtain⟨own12,gr12⟩:=HX12.out;obtain⟨A12,c12,rfl⟩:=adY own12;have tg:Tch (fun k=>(Value.slice At told.length ct).ownBlock=some k) w9 w12:=Tch.grown gr12 (fun k e=>e);refine⟨j+1,told++ [ch],A12,c12,H1,A1',c1',b1',by rw[List.length_append,List.length_singleton],by go_num,by omega,by rw[List.length_append,List.length_singleton];omega,H641.out,by rw[List.length_append,List.length_singleton];exact own12,HV9.out.keepO tg (fun k hk hf=>HV9.out.ph.oth (aqN HO9.out hf) hk),HB9.out.trans (tg.below (fun k hk=>(HO9.out.lt k hk).1) HB9.out.size),fun e=>by omega⟩
      case measure=>simp only[intOf];omega
  · have HB:=hE0 hb;have HV:=hE0 hv;have HO:=hE0 hown;have H64:=hE0 h64;have HZ:=hE0 hz;clear hb hv hown h64 hz;go_wp2_with fail
    go_ret2
    exact⟨HB.out,q,g,A1,c1,b1,H,told,At,ct,rfl,HV.out,HO.out,by omega,H64.out,fun e=>HZ.out (by omega)⟩
theorem anc (w:World) (hE:ET w):
 Calls Tryz.prog 46 #[] w fun e w'=>e= .returned (.bool true)/\Below w.heap.size w w':=by
 have HDN:=hE0 (arN w 20 (by omega) (by omega));have HHN:=hE0 (fun W=>ag9 W 0 1024 (by omega) (by omega) (by omega) (by omega));have HE:=hE0 hE;have HE0:=hE0 hE.lt;clear hE;go_enter Tryz.func46,Tryz.ntmps46
 go_wp2_with fail
 refine HDN.out.mono ?_;rintro e w1 ⟨rfl,hdk,hb1⟩;have hds:=DS.made (N:=20) hdk (by rw[List.length_replicate]);obtain⟨gd,hgd⟩:=nmE (w.heap.size+1);obtain⟨S,hS⟩:=nmE (ad2 (fun _=>False) w w1);obtain⟨s0,hs0⟩:∃s0:Dst,(⟨List.replicate (20*512) 0,[],-1,false⟩:Dst)=s0:=⟨_,rfl⟩;rw[hgd,hS,hs0]at hds;rw[hgd];have HS:Hid (∀j,S j->w.heap.size<=j/\j<w1.heap.size):=fun j hj=>by
  rw[<-hS]at hj;exact hj.elim False.elim id
 have HDS:=hE0 hds;have HB1:=hE0 hb1;have HL0:Hid (akY s0/\s0.wt= []/\s0.bs.length=10240/\ady s0.bs s0.wt 10 0=arb/\ady s0.bs s0.wt 10 1=arb/\s0.off=false/\s0.left= -1):=by
  subst hs0;exact⟨⟨rfl,by show(-1:Int)<0;decide⟩,rfl,List.length_replicate,ahj _ _ _ (by omega),ahj _ _ _ (by omega),rfl,rfl⟩
 have HE1:=hE0 (HE.out.below hb1);clear hdk hb1 hds hgd hS hs0 HDN;go_wp2_with fail
 refine(HHN.out w1).mono ?_;intro e w2 hm;obtain⟨q,g,A,c,bs,rfl,hv,hb2⟩:=hm.hv;have HB2:=hE0 (HB1.out.trans (hb2.mono HB1.out.size));have HD2:=hE0 (HDS.out.below hb2);have HV2:=hE0 hv;have HW2:=hE0 hb2.size;have HE2:=hE0 (HE1.out.below hb2);have HB1P:=hE0 HB1.out.size;obtain⟨dc,hdc⟩:=nmE ((aez 1024).doC ((1:Nat):Int) 0 100 0 0 []);have HD:=hv.do_ hb2.size (HE1.out.below hb2) (by have:=HE1.out.lt;omega) 1 (by omega) 0 100 0 0 0 0 none [] (by omega) (by omega) (by omega) (by omega) rfl (Rd.nil_) (by omega) dc hdc;have HQ:Hid ((⟨0,192,0,[],St5.none⟩,up19A)=dc):=by rw[<-hdc];exact up19_1.symm
 obtain⟨⟨ck1,ch1,cn1,cb1,⟨sa1,sb1,sc1,sd1,se1⟩⟩,H1⟩:=dc;unfold abo at HD;dsimp only at HD;obtain⟨cbl,hcbl⟩:=nmE cb1.length;have HCB:=hE0 hcbl;have HDO:=hE0 HD;clear HD hm hv hb2 HHN HDS HE1 hdc hcbl;go_wp2_with fail
 refine HDO.out.mono ?_;rintro e w3 ⟨⟨A3,k3,rfl,ho3⟩,A',c',bs',hv3,t3,b3⟩;unfold rpV ahB;dsimp only at hv3 ⊢;rw[HCB.out];obtain⟨e1,rfl⟩:=Prod.mk.inj HQ.out;injection e1 with q1 q2 q3 q4 q5;have HCH:Hid (ch1=192):=q2.symm;have hd3:=HD2.out.tch t3 fun j hj hf=>by have h1:=(HS.out j hj).2;have h2:=HV2.out.fB hf;omega
 obtain⟨w4,hw4,n4,b4⟩:=abx w3 50 (.int .i64 ck1) (.int .u64 (ch1:Int)) (.int .u64 (cn1:Int)) (.slice A3 cbl k3) (.int .i64 (sa1:Int)) (.int .i64 (sb1:Int)) (.int .i64 (sc1:Int)) (.int .i64 (sd1:Int)) (.int .i64 (se1:Int));obtain⟨⟨z0,z1,z2,z3,z4,z5,z6,z7,z8⟩,_,hz8⟩:=aaT n4.out;have HV4:=hv3.below b4.out;have hB3:=HB2.out.trans (b3.mono HB1P.out);have hB4:=hB3.trans (b4.out.mono hB3.size);obtain⟨y3,hy3⟩:∃y:List UInt8,[1,2,3]=y:=⟨_,rfl⟩;have hyl:y3.length=3:=by rw[<-hy3];rfl
 obtain⟨w5,hw5⟩:=nmE (w4.alloc (.cells #[.int .u8 1, .int .u8 2, .int .u8 3] 5));have b5:=abE hw5;have f5:Fill w5 w4.heap.size 5 y3:=by rw[<-hw5,<-hy3];exact Fill.made w4 5 [1,2,3]
 have hv5:=HV4.below b5;have hB5:=hB4.trans (b5.mono hB4.size);have hE5:=HE.out.below hB5;have hd2:=hv5.do_ (by have:=hB5.size;have:=b5.size;have:=b4.out.size;have:=t3.size;have:=HW2.out;omega) hE5 (by have:=HB1P.out;have:=HE0.out;omega) 7 (by omega) ch1 0 0 0 3 3 (some ⟨w4.heap.size,0,none⟩) y3 (by rw[HCH.out];omega) (by omega) (by omega) (by omega) hyl f5.reads (by omega) (Rp.err 0,up19B) (by rw[HCH.out,<-hy3];exact avv);unfold abo at hd2;have HDO2:=hE0 hd2;have H23:=hE0 t3.size;have HV5:=hE0 hv5;have HB5:=hE0 hB5;have HD5:=hE0 ((hd3.below b4.out).below b5);have N5:=hE0 ((b5.block _ (aaa n4.out)).trans n4.out);have H25:=hE0 (show w2.heap.size<=w5.heap.size from by have:=b5.size;have:=b4.out.size;have:=t3.size;omega);have HW5:=hE0 hw5;clear hv3 t3 b3 q1 q2 q3 q4 q5 hd3 HV4 hB3 hB4 hyl hw5 b5 f5 hv5 hB5 hE5 hd2 hy3 HDO HD2 HV2 ho3 HQ;go_wp2_with (first | (rw[hw4.out]) | (rw[HW5.out]) | fail)
 refine HDO2.out.mono ?_;rintro e w6 ⟨⟨A6,k6,rfl,_⟩,A'',c'',bs'',hv6,t6,b6⟩;have hd6:=HD5.out.tch t6 fun j hj hf=>by have h1:=(HS.out j hj).2;have h2:=HV5.out.fB hf;omega
 have n6:=HV5.out.ph.locO t6 N5.out (by decide) (by decide) (by decide);have HB6:=hE0 (HB5.out.trans (b6.mono HB1P.out));have HD6:=hE0 hd6;have N6:=hE0 n6;obtain⟨e1,e2⟩:=avw;obtain⟨o1,o2,o3⟩:=aqW hv6.ph.rd e1 (by rw[e2];omega);have od:=avx hv6.ph.rd;obtain⟨b,hb⟩:=nmE (aaZ bs''.length (up19B.blks.map toR) (ofD bs'' up19B.blks));obtain⟨L,hL⟩:=nmE (up19B.blks.map toR);obtain⟨d,hd⟩:=nmE (ofD bs'' up19B.blks);have hLb:L.map toB= [⟨184,128,true⟩]:=by rw[<-hL,avs,e1]
 have hsv:=aqT HD6.out 10 (by omega) (by omega) (by omega) HL0.out.2.2.2.2.2.1 (by rw[HL0.out.2.1];exact Nat.zero_le _) (by rw[HL0.out.2.2.2.2.2.2];omega) arb arb HL0.out.2.2.2.1 HL0.out.2.2.2.2.1 hv6.ph _ rfl;rw[hb]at hsv o3;rw[hL,hd]at hb o2;rw[hd]at od;rw[o1]at hb;have hsp:asG arb arb 10 b s0=adL (0*10) b (abQ 1 b.length (abZ 0 b)) s0:=by
  unfold asG;rw[if_neg (by show ¬(512*(10-1)<b.length\/4611686018427387904<=max 0 0);omega)];rfl
 rw[hsp]at hsv;obtain⟨s1,hs1⟩:=nmE (adL (0*10) b (abQ 1 b.length (abZ 0 b)) s0);obtain⟨l1,l2,l3,l4,l5,l6,l7⟩:=HL0.out;obtain⟨v1,v2,v3⟩:=aok l1 (0*10) b (abQ 1 b.length (abZ 0 b));have hx:=aoo l1 l2 10 0 1 (184+128) L d o2 b hb (by omega) (by omega) (by omega) (by omega) (by omega);have hy:=amc l1 l2 10 0 1 b (abQ 1 b.length (abZ 0 b)) (ad0 _ _ _) (by omega) (by omega) (by omega) (by omega);rw[l2]at l5;rw[hs1]at hsv v1 v2 v3 hx hy;rw[l5]at hy;have HSV:=hE0 hsv;have HV:Hid (s1.1=0/\s1.2.wt= []/\s1.2.off=false/\ady s1.2.bs s1.2.wt 10 0=⟨1,b.length,abZ 0 b,true,184+128,L,d⟩/\ady s1.2.bs s1.2.wt 10 1=arb):=⟨v1,v3,v2.1,by rw[v3];exact hx,by rw[v3];exact hy⟩;have HLB:=hE0 hLb;have HMM:=hE0 o2;have HOD:=hE0 od;have H26:=hE0 (show w2.heap.size<=w6.heap.size from by have:=t6.size;have:=H25.out;omega);have HL6:=hE0 (aaa n6);have HL64:=hE0 (show w1.heap.size<=w3.heap.size from Nat.le_trans HW2.out H23.out);clear hv6 t6 b6 hd6 n6 e1 e2 o1 o2 o3 od hb hL hd hLb hsv hsp l1 l2 l3 l4 l5 l6 l7 v1 v2 v3 hx hy hs1 HDO2 HV5 HD5 N5 z0 z1 z2 z3 z4 z5 z6 z7 z8 HB5;go_wp2_with fail
 refine HSV.out.mono ?_;rintro e w7 ⟨rfl,hd7,t7⟩;have HB7:=hE0 (HB6.out.trans (t7.below (fun k hk=>(HS.out k hk).1) HB6.out.size));have n7:=(t7.block _ HL6.out (fun hs=>by have:=(HS.out _ hs).2;have:=HL64.out;omega)).trans N6.out;have N7:=hE0 n7;have HLD2:Hid (Calls Tryz.prog 30 #[.pointer (some ⟨gd,0,none⟩), .int .u64 4096, .int .i64 4096] w7 fun e w'=>Below w7.heap.size w7 w'/\∃out H q g A c,e= .returned (.tuple #[.pointer (some ⟨q,0,none⟩), .nilIface])/\Hv w7.heap.size w' q g 4096 4096 A c out H/\H.blks= [⟨184,128,true⟩]/\ofD out H.blks= [1::2::3::List.replicate 109 165]):=by
  obtain⟨h1,h2,h3,h4,h5⟩:=HV.out;refine(aqS hd7 10 (by omega) (by omega) (by omega) h3 _ arb h4 h5 4096 (by omega) 4096 (by omega) (0,184+128,L,d) rfl).mono ?_;rintro e w' ⟨hb,h⟩;rw[if_pos rfl]at h;obtain⟨out,H,q,g,A,c,hl,rfl,hp,q1,q2,q3⟩:=h;obtain⟨_,_,_,_,_,hw,_,hof,_⟩:=ame HMM.out hl;have e1:H.blks= [⟨184,128,true⟩]:=by
   have:=hp.rd.rt.walk;rw[hw,HLB.out]at this;injection this with this;exact this.symm
  refine⟨hb,out,H,q,g,A,c,rfl,⟨hp,q1,q2,q3⟩,e1,?_⟩;rw[e1,<-HLB.out,hof];exact HOD.out
 rw[HV.out.1];rw[show ajt 0= .nilIface from rfl];clear hd7 t7 n7 HSV N6 HB6 HD6;go_wp2_with fail
 refine HLD2.out.mono ?_;rintro e w8 ⟨hb8,out8,H8,q8,g8,A8,c8,rfl,hv8,e8,d8⟩;obtain⟨⟨z0,z1,z2,z3,z4,z5,z6,z7,z8⟩,_,hz8⟩:=aaT ((hb8.block _ (aaa N7.out)).trans N7.out);have HB8:=hE0 (HB7.out.trans (hb8.mono HB7.out.size));have HP7:=hE0 (show 0<w7.heap.size from Nat.lt_of_lt_of_le HE0.out HB7.out.size);obtain⟨y4,hy4⟩:∃y:List UInt8,[1,2,3,165]=y:=⟨_,rfl⟩;have hyl:y4.length=4:=by rw[<-hy4];rfl
 have hr6:=avy hv8.ph.rd e8 d8;rw[hy4]at hr6;obtain⟨dc,hdc⟩:=nmE (H8.doC ((6:Nat):Int) ch1 4 0 0 []);have HD:=aun hv8.ph (HE.out.below HB8.out) (fun hf=>by have h1:=hv8.fB hf;have h2:=HP7.out;omega) ch1 4 0 0 0 0 none [] (by rw[HCH.out];omega) (by omega) (by omega);have hdc':H8.doC 6 ch1 4 0 0 []=dc:=hdc;rw[hdc']at HD;have HQ:Hid ((⟨0,0,0,y4,St5.none⟩,H8)=dc):=by rw[<-hdc,HCH.out];exact hr6.symm
 obtain⟨⟨ck3,ch3,cn3,cb3,⟨sa3,sb3,sc3,sd3,se3⟩⟩,H3⟩:=dc;unfold abo at HD;dsimp only at HD;obtain⟨e1,e2⟩:=Prod.mk.inj HQ.out;injection e1 with q1 q2 q3 q4 q5;subst e2 q4 q1;clear q2 q3 q5 hdc';have HDO:=hE0 HD;have HYL:=hE0 hyl;have HY4:=hE0 hy4;have HE8:=hE0 e8;have HV8:=hE0 hv8;have N8:=hE0 ((hb8.block _ (aaa N7.out)).trans N7.out);have HW78:=hE0 hb8.size;have H07:=hE0 HB7.out.size;clear hb8 hv8 e8 d8 hyl hr6 hdc HD HQ HLD2 N7 hy4;go_wp2_with fail
 refine HDO.out.mono ?_;rintro e w9 ⟨⟨A9,k9,rfl,ho9⟩,_,b9⟩;have hv9:=HV8.out.below b9;unfold rpV ahB;dsimp only at ho9 ⊢;rw[HYL.out]at ho9 ⊢;clear z0 z1 z2 z3 z4 z5 z6 z7 z8 hz8;obtain⟨w10,hw10,n10,b10⟩:=abx w9 50 (.int .i64 0) (.int .u64 (ch3:Int)) (.int .u64 (cn3:Int)) (.slice A9 4 k9) (.int .i64 (sa3:Int)) (.int .i64 (sb3:Int)) (.int .i64 (sc3:Int)) (.int .i64 (sd3:Int)) (.int .i64 (se3:Int));have hB9:=HB8.out.trans (b9.mono HB8.out.size);have hB10:=hB9.trans (b10.out.mono hB9.size);have m9:=(b9.block _ (aaa N8.out)).trans N8.out;have M10:=hE0 ((b10.out.block _ (aaa m9)).trans m9);obtain⟨⟨z0,z1,z2,z3,z4,z5,z6,z7,z8⟩,_,hz8⟩:=aaT M10.out;have hv10:=hv9.below b10.out;have ho10:=aaw ho9 b10.out;have h3:H8.doC ((3:Nat):Int) ch1 0 0 0 []=(Rp.err 0,H8.give 0):=by
  rw[HCH.out];have e:H8.doC ((3:Nat):Int) 192 0 0 0 []=_:=aqB (H:=H8) 192 0 0 0 [];rw[e];unfold Hp.freeP;rw[atg HE8.out]
 have hnf:∀j,(Value.slice A9 4 k9).ownBlock=some j->w8.heap.size<=j/\j<w10.heap.size:=fun j e=>⟨(ho9.lt j e).1,(ho10.lt j e).2⟩;have HNF:=hE0 (fun j (e:(Value.slice A9 4 k9).ownBlock=some j)=>(⟨fun hf=>by have h1:=HV8.out.ph.ar.foot_lt hf;have h2:=(hnf j e).1;omega,(hnf j e).2⟩:¬foot g8 A8 j/\j<w10.heap.size));have HD:=hv10.do4_ (by have:=b10.out.size;have:=b9.size;have:=HW78.out;omega) (HE.out.below hB10) HP7.out 3 (by omega) ch1 0 0 0 0 0 none [] (by rw[HCH.out];omega) (by omega) (by omega) (by omega) rfl (Rd.nil_) (by omega) _ h3;unfold abo at HD;have HDO3:=hE0 HD;have HB10:=hE0 hB10;have HV10:=hE0 hv10;have HO10:=hE0 ho10;have HB10S:=hE0 (show w7.heap.size<=w10.heap.size from by have:=b10.out.size;have:=b9.size;have:=HW78.out;omega);clear hv9 b9 ho9 hB9 hB10 m9 hv10 ho10 hnf h3 HD HDO HV8 N8 HB8;go_wp2_with (first | (rw[hw10.out]) | fail)
 refine HDO3.out.mono ?_;rintro e w11 ⟨⟨A11,k11,rfl,_⟩,Ab,c',bs',hv11,t11,b11,hA11⟩;unfold rpV ahB Rp.err St5.none;dsimp only;clear z0 z1 z2 z3 z4 z5 z6 z7 z8 hz8;obtain⟨w12,hw12,n12,b12⟩:=abx w11 50 (.int .i64 0) (.int .u64 0) (.int .u64 0) (.slice A11 0 k11) (.int .i64 0) (.int .i64 0) (.int .i64 0) (.int .i64 0) (.int .i64 0);have hB11:=HB10.out.trans (b11.mono H07.out);have hB12:=hB11.trans (b12.out.mono hB11.size);have m11:=HV10.out.ph.locO t11 n10.out (by decide) (by decide) (by decide);have M12:=hE0 ((b12.out.block _ (aaa m11)).trans m11);have hv12:=hv11.below b12.out;have ho12:=aaw (aha HO10.out fun j e=>t11.block j (HNF.out j e).2 (HNF.out j e).1) b12.out;have hnf2:∀j,(Value.slice A9 4 k9).ownBlock=some j->¬foot g8 Ab j:=fun j e hf=>by
  rcases hA11 with rfl | hA
  · exact(HNF.out j e).1 hf
  · rcases hf with hf | ⟨a,ea,rfl⟩
    · exact(HNF.out j e).1 (.inl hf)
    · have h1:=hA a ea;have h2:=(HNF.out _ e).2;omega
 have hb9:=asM HE8.out;have hend:anU (H8.give 0).blks=184:=by rw[hb9.1];rfl
 have hgc:(H8.give 0).cap=4096:=hv12.ph.cp;have h5:=avt hv12.ph.rd 165 (show acn 3880=some 3904 from rfl) (show aaG ((3904:Nat):Int)=true from by decide) (by rw[hend,hgc];omega);obtain⟨dc,hdc⟩:=nmE ((H8.give 0).doC ((1:Nat):Int) 0 3880 0 0 []);have hk5:dc.1.code=0:=by
  rw[<-hdc];have e:(H8.give 0).doC ((1:Nat):Int) 0 3880 0 0 []=_:=aoe (H:=H8.give 0) 0 3880 0 0 [];rw[e];exact h5
 have HD:=hv12.do_ (by have:=b12.out.size;have:=t11.size;have:=HB10S.out;omega) (HE.out.below hB12) HP7.out 1 (by omega) 0 3880 0 0 0 0 none [] (by omega) (by omega) (by omega) (by omega) rfl (Rd.nil_) (by omega) dc hdc;obtain⟨⟨ck5,ch5,cn5,cb5,⟨sa5,sb5,sc5,sd5,se5⟩⟩,H5⟩:=dc;unfold abo at HD;dsimp only at HD hk5;subst hk5;obtain⟨cbm,hcbm⟩:=nmE cb5.length;have HCM:=hE0 hcbm;have HDO5:=hE0 HD;have HV12:=hE0 hv12;have HO12:=hE0 ho12;have HB12:=hE0 hB12;have HNF2:Hid (∀j,(Value.slice A9 4 k9).ownBlock=some j->¬foot g8 Ab j):=hnf2;have N12:=hE0 n12.out;clear hv11 t11 b11 hA11 hB11 hB12 m11 hv12 ho12 hnf2 hb9 hend hgc h5 hdc HD hcbm HDO3 HV10 HO10 HB10;go_wp2_with (first | (rw[hw12.out]) | fail)
 refine HDO5.out.mono ?_;rintro e w13 ⟨⟨A13,k13,rfl,_⟩,A',c',bs',hv13,t13,b13⟩;unfold rpV ahB;dsimp only;rw[HCM.out];obtain⟨w14,hw14,n14,b14⟩:=abx w13 50 (.int .i64 0) (.int .u64 (ch5:Int)) (.int .u64 (cn5:Int)) (.slice A13 cbm k13) (.int .i64 (sa5:Int)) (.int .i64 (sb5:Int)) (.int .i64 (sc5:Int)) (.int .i64 (sd5:Int)) (.int .i64 (se5:Int));have hB13:=HB12.out.trans (b13.mono H07.out);have HB14:=hE0 (hB13.trans (b14.out.mono hB13.size));have m13:=HV12.out.ph.locO t13 M12.out (by decide) (by decide) (by decide);have m14:=(b14.out.block _ (aaa m13)).trans m13;have l13:=HV12.out.ph.locO t13 N12.out (by decide) (by decide) (by decide);have l14:=(b14.out.block _ (aaa l13)).trans l13;have ho14:=aaw (aha HO12.out fun j e=>t13.block j (HO12.out.lt j e).2 (HNF2.out j e)) b14.out;obtain⟨w15,hw15⟩:=nmE (w14.alloc (.cells #[.int .u8 1, .int .u8 2, .int .u8 3, .int .u8 165] 5));have b15:=abE hw15;have f15:Fill w15 w14.heap.size 5 y4:=by rw[<-hw15,<-HY4.out];exact Fill.made w14 5 [1,2,3,165]
 have r15:=f15.reads;rw[HYL.out]at r15;obtain⟨S9,hS9⟩:=nmE (anh y4);have q1:(convert 37 9 (.slice A9 4 k9)).run Tryz.prog w14= .ok (.string S9) w14:=by rw[<-hS9];exact adS (acP ho14)
 have q2:(convert 37 9 (.slice (some ⟨w14.heap.size,0,none⟩) 4 4)).run Tryz.prog w15= .ok (.string S9) w15:=by rw[<-hS9];exact adS r15
 obtain⟨⟨z0,z1,z2,z3,z4,z5,z6,z7,z8⟩,_,hz8⟩:=aaT m14;obtain⟨⟨u0,u1,u2,u3,u4,u5,u6,u7,u8⟩,_,hu8⟩:=aaT ((b15.block _ (aaa l14)).trans l14);obtain⟨⟨x0,x1,x2,x3,x4,x5,x6,x7,x8⟩,_,hx8⟩:=aaT ((b15.block _ (aaa n14.out)).trans n14.out);have HB15:=hE0 (HB14.out.trans (b15.mono HB14.out.size));have HW15:=hE0 hw15;clear hv13 t13 b13 hB13 m13 m14 l13 l14 ho14 hw15 b15 f15 r15 hS9 HDO5 HV12 HO12 HB12;go_wp2_with (first | (rw[hw14.out]) | (rw[HW15.out]) | fail)
 go_ret
 exact⟨rfl,HB15.out⟩
theorem ait (w:World):(Instr.buildSlice 23 0 #[]).run Tryz.prog w= .ok (.slice (some ⟨w.heap.size,0,none⟩) 0 0) (w.alloc (.cells #[] 3)):=by
 simp[go_sem]
theorem afl (w:World) (p:Int) (A:Option Addr) (n c:Nat):(Instr.buildSlice 110 1 #[(0, .agg #[.int .u64 p, .slice A n c])]).run Tryz.prog w= .ok (.slice (some ⟨w.heap.size,0,none⟩) 1 1) (w.alloc (.cells #[.int .u64 p, .slice A n c] 114)):=by
 obtain⟨i0,hi,hz0,hz1,hz2⟩:=info_parts adK;refine run_buildSlice w 110 114 1 _ _ i0 _ Tryz.underlying110 hi hz0 (by omega) (by omega) ?_;rw[hz1];have e:Array.range (1*2)= #[0,1]:=by decide
 rw[e];simp[Instr.fill,Value.cells]
theorem aq6 (b:List UInt8):∀u∈b.map iB,u.oneCell'=true:=fun u hu=>by
 obtain⟨x,_,rfl⟩:=List.mem_map.1 hu;rfl
section
variable {B:Nat} {w w':World} {A:Option Addr} {c n g:Nat} {b:List UInt8}
theorem FillI.own (h:w.ownsRow B 3 1 (.slice A n c) n (b.map iB)) (hn:0<n):∃gb,A=some ⟨gb,0,none⟩/\B<=gb/\FillI w gb b:=by
 rcases h.2 with⟨_,h0⟩ | ⟨gb,cap,cur,hv,hg,hh,hnc,hcm,hcs,hcur⟩
 · omega
 · injection hv with e1 _ e3;subst e1;have hbn:b.length=n:=by have:=h.1;simpa using this
   refine⟨gb,rfl,hg,cur,hh,fun j u hu=> ?_⟩;have hj:=aau hu;have h1:(cur.toList.take (n*1))[j]?=(b.map iB)[j]?:=by rw[hcur]
   rw[List.getElem?_take_of_lt (by omega),List.getElem?_map,hu]at h1;simpa using h1
theorem QRd.src (h:QRd w A b) (hn:0<b.length):Src w A b.length c (b.map iB):=by
 obtain⟨gb,cur,rfl,hg,hc⟩:=h hn;refine⟨fun e=>(by cases e),fun ad e j u hu=> ?_⟩;injection e with e;subst e;rw[apX,Nat.zero_add,cell_of_row w gb j _ _ (0,0) hg];rw[List.getElem?_map]at hu
 cases hb:b[j]? with
 | none=>rw[hb]at hu;cases hu
 | some x=>
  rw[hb]at hu;rw[hc j x hb];exact hu
theorem Src.one{x y:Value}(hg:w.heap[g]?=some (.cells #[x,y] 114 (0,0))):Src w (some ⟨g,0,none⟩) 1 1 [x,y]:=by
 refine⟨fun e=>(by cases e),fun ad e j u hu=> ?_⟩;injection e with e;subst e;rw[apX,Nat.zero_add,cell_of_row w g j _ _ (0,0) hg];simpa using hu
end
section
variable {B:Nat} {w:World} {A:Option Addr} {c:Nat} {l:List Hq}
theorem aq7 (h:Hs B w A c l) (hl:l.length<=1000) (qv:Value) (capv:Value) (xh cn cm ca:Nat) (xA:Option Addr) (bl xc:Nat) (rh rn:Nat) (rA:Option Addr) (rbl rc s0 s1 s2 s3 s4:Nat){i:Nat}{x:Hq}(hx:l[i]?=some x) (hu:(l.map Hq.p).Nodup) (hxh:x.p=xh) (xn:Nat) (hxn:x.b.length=xn) (hx16:xn<=16384) (hca:ca<18446744073709551616) (hnn:cn<18446744073709551616) (hr:xn<ca+cn):
 Calls Tryz.prog 107 #[qv, .slice A l.length c, .agg #[.int .i64 (6), .int .u64 (xh:Int), .int .u64 (cn:Int), .int .u64 (cm:Int), .int .u64 (ca:Int), .slice xA bl xc], .agg #[.int .i64 (2), .int .u64 (rh:Int), .int .u64 (rn:Int), .slice rA rbl rc, .int .i64 (s0:Int), .int .i64 (s1:Int), .int .i64 (s2:Int), .int .i64 (s3:Int), .int .i64 (s4:Int)],capv] w fun e w'=>MdT B A (l.map Hq.two) w e w':=by
 have HX:=hE0 hx;have HXN:=hE0 hxn;obtain⟨w1,ha1,n1,b1⟩:=acz w 43 (.int .i64 (6)) (.int .u64 (xh:Int)) (.int .u64 (cn:Int)) (.int .u64 (cm:Int)) (.int .u64 (ca:Int)) (.slice xA bl xc);obtain⟨w2,ha2,n2,b2⟩:=abx w1 50 (.int .i64 (2)) (.int .u64 (rh:Int)) (.int .u64 (rn:Int)) (.slice rA rbl rc) (.int .i64 (s0:Int)) (.int .i64 (s1:Int)) (.int .i64 (s2:Int)) (.int .i64 (s3:Int)) (.int .i64 (s4:Int));have HB2:=hE0 (b1.out.trans (b2.out.mono b1.out.size));have m1:=hE0 ((b2.out.block _ (aaa n1.out)).trans n1.out);have HS2:=hE0 (h.below HB2.out);obtain⟨⟨c0,c1,c2,c3,c4,c5⟩,_,hlc⟩:=aa4 m1.out;obtain⟨⟨r0,r1,r2,r3,_⟩,_,hlr⟩:=aaT n2.out;have HF:=hE0 (by have:=afS HS2.out hl hx hu;rw[hxh]at this;exact this);obtain⟨n,hn⟩:=nmE l.length;have HN:=hE0 hn;rw[hn]at HF hl ⊢;clear h hn;go_enter Tryz.func107,Tryz.ntmps107
 go_wp2_with (first | (rw[ha1.out]) | (rw[ha2.out]) | fail)
 refine HF.out.mono ?_;rintro e w' ⟨rfl,rfl⟩;obtain⟨g,rfl,_,hg,_,d0,d1⟩:=HS2.out.at_ HX.out;rw[HXN.out]at d1;have hin:i<n:=by rw[<-HN.out];exact aau HX.out
 clear HF d0;by_cases ha:xn<ca
 · have g1:decide ((xn:Int)<(ca:Int))=true:=decide_eq_true (by omega);have g1n:decide (xn<ca)=true:=decide_eq_true ha;go_wp2_with fail
   go_ret2
   exact⟨_,c,l,by rw[HN.out];rfl,HS2.out,rfl,Tch.of_below HB2.out⟩
 · have g1:decide ((xn:Int)<(ca:Int))=false:=decide_eq_false (by omega);have g1n:decide (xn<ca)=false:=decide_eq_false ha;have g2:decide ((xn:Int)-(ca:Int)<(cn:Int))=true:=decide_eq_true (by omega);go_wp2_with fail
   go_ret2
   exact⟨_,c,l,by rw[HN.out];rfl,HS2.out,rfl,Tch.of_below HB2.out⟩
theorem aq8 (h:Hs B w A c l) (hl:l.length<=1000) (qv:Value) (capv:Value) (xh cn cm ca:Nat) (xA:Option Addr) (bl xc:Nat) (rh rn:Nat) (rA:Option Addr) (rbl rc s0 s1 s2 s3 s4:Nat){i:Nat}{x:Hq}(hx:l[i]?=some x) (hu:(l.map Hq.p).Nodup) (hxh:x.p=xh) (xn:Nat) (hxn:x.b.length=xn) (hx16:xn<=16384) (hca:ca<18446744073709551616) (hnn:bl<18446744073709551616) (hr:xn<ca+bl) (hbl:bl<=1000000):
 Calls Tryz.prog 107 #[qv, .slice A l.length c, .agg #[.int .i64 (7), .int .u64 (xh:Int), .int .u64 (cn:Int), .int .u64 (cm:Int), .int .u64 (ca:Int), .slice xA bl xc], .agg #[.int .i64 (2), .int .u64 (rh:Int), .int .u64 (rn:Int), .slice rA rbl rc, .int .i64 (s0:Int), .int .i64 (s1:Int), .int .i64 (s2:Int), .int .i64 (s3:Int), .int .i64 (s4:Int)],capv] w fun e w'=>MdT B A (l.map Hq.two) w e w':=by
 have HX:=hE0 hx;have HXN:=hE0 hxn;obtain⟨w1,ha1,n1,b1⟩:=acz w 43 (.int .i64 (7)) (.int .u64 (xh:Int)) (.int .u64 (cn:Int)) (.int .u64 (cm:Int)) (.int .u64 (ca:Int)) (.slice xA bl xc);obtain⟨w2,ha2,n2,b2⟩:=abx w1 50 (.int .i64 (2)) (.int .u64 (rh:Int)) (.int .u64 (rn:Int)) (.slice rA rbl rc) (.int .i64 (s0:Int)) (.int .i64 (s1:Int)) (.int .i64 (s2:Int)) (.int .i64 (s3:Int)) (.int .i64 (s4:Int));have HB2:=hE0 (b1.out.trans (b2.out.mono b1.out.size));have m1:=hE0 ((b2.out.block _ (aaa n1.out)).trans n1.out);have HS2:=hE0 (h.below HB2.out);obtain⟨⟨c0,c1,c2,c3,c4,c5⟩,_,hlc⟩:=aa4 m1.out;obtain⟨⟨r0,r1,r2,r3,_⟩,_,hlr⟩:=aaT n2.out;have HF:=hE0 (by have:=afS HS2.out hl hx hu;rw[hxh]at this;exact this);obtain⟨n,hn⟩:=nmE l.length;have HN:=hE0 hn;rw[hn]at HF hl ⊢;clear h hn;go_enter Tryz.func107,Tryz.ntmps107
 go_wp2_with (first | (rw[ha1.out]) | (rw[ha2.out]) | fail)
 refine HF.out.mono ?_;rintro e w' ⟨rfl,rfl⟩;obtain⟨g,rfl,_,hg,_,d0,d1⟩:=HS2.out.at_ HX.out;rw[HXN.out]at d1;have hin:i<n:=by rw[<-HN.out];exact aau HX.out
 clear HF d0;by_cases ha:xn<ca
 · have g1:decide ((xn:Int)<(ca:Int))=true:=decide_eq_true (by omega);have g1n:decide (xn<ca)=true:=decide_eq_true ha;go_wp2_with fail
   go_ret2
   exact⟨_,c,l,by rw[HN.out];rfl,HS2.out,rfl,Tch.of_below HB2.out⟩
 · have g1:decide ((xn:Int)<(ca:Int))=false:=decide_eq_false (by omega);have g1n:decide (xn<ca)=false:=decide_eq_false ha;have g2:decide ((xn:Int)-(ca:Int)<(bl:Int))=true:=decide_eq_true (by omega);go_wp2_with fail
   go_ret2
   exact⟨_,c,l,by rw[HN.out];rfl,HS2.out,rfl,Tch.of_below HB2.out⟩
theorem aiu{P:Prop}(h:P:=by
 refine aaD wd.heap.size (.two [0,1,2,3,4,6,7,8,9,10] 5 (.two [] 11 (.one [12] 13 (.fin [])) 13 (.one [] 11 (.fin [12]))) 13 (.one [] 5 (.one [] 11 (.fin [12])))) [14] (by kernel_rfl) (by kernel_rfl) (by kernel_rfl) (fun _ _ _ _ _ h=>h) ?_;rw[HWD.out];have q0:∀z:LaterB wd.heap.size wd,z.val.cell? ⟨g,i*2,none⟩=some (.int .u64 (xh:Int)):=fun z=>(z.ext.cell (p:=⟨g,i*2,none⟩) hgd).trans HD0.out;have q1:∀z:LaterB wd.heap.size wd,z.val.cell? ⟨g,i*2+1,none⟩=some (.slice x.A xn x.c):=fun z=>(z.ext.cell (p:=⟨g,i*2+1,none⟩) hgd).trans HD1.out;refine abL (l:= ?seg1) ?hseg1 ?_
 case hseg1=>simp only[pick,lE1,lE2,lE3];rfl
 repeat (go_big_quiet_step (fail))
 refine wpQuiet_nil ?_;clear q0 q1 c0 c1 c2 c3 c4 c5 r0 r1 r2 r3;refine⟨?wayE,?wayA⟩
 case wayE=>
  have bz0:Below wd.heap.size wd wd:=Below.refl _ _;obtain⟨z1,hz1⟩:∃z,wd.alloc (.cells #[] 3)=z:=⟨_,rfl⟩;have by1:=abE hz1;have bz1:Below wd.heap.size wd z1:=bz0.trans (by1.mono bz0.size);have oe:z1.ownsRow wd.heap.size 3 1 (.slice (some ⟨wd.heap.size,0,none⟩) 0 0) 0 []:=by rw[<-hz1];exact World.ownsRow_lit wd _ 0 bz0.size (by unfold maxLen;omega) rfl
  refine aas (some 307) (w1:=z1) (v:= .slice (some ⟨wd.heap.size,0,none⟩) 0 0) rfl rfl rfl (by rw[<-hz1];exact aaQ rfl rfl (ait wd)) (by1.mono bz0.size) ⟨wd.heap.size,Nat.le_refl _,?_⟩;simp only[Act.put,lE4,lE5,lE6];refine abL (l:= []) rfl (wpQuiet_nil ?_);refine⟨?wayEP,?wayEA⟩
  case wayEP=>
   have sr:=(QRd.src (c:=x.c) (HQD.out z1 bz1) (by rw[HXN.out];exact hx0));rw[HXN.out]at sr;refine ab3 (some 313) (.tmp 307) (.tmp 312) 23 3 rfl rfl rfl rfl Tryz.underlying23 (.int .i64 0) 1 8 agj rfl (by decide) wd.heap.size (.slice (some ⟨wd.heap.size,0,none⟩) 0 0) 0 [] rfl oe (Nat.le_refl _) bz1.size x.A xn x.c _ rfl (by rw[List.length_map,HXN.out,Nat.mul_one]) sr (aq6 x.b) (by omega) (by omega) ?_;intro y1 z2 oy bq2 gq2;have bz2:Below wd.heap.size wd z2:=bz1.trans bq2;rw[Nat.zero_add,List.nil_append]at oy;obtain⟨uA,uc,rfl⟩:=adY oy;obtain⟨gb,rfl,hgb,fb⟩:=FillI.own oy hx0;refine⟨wd.heap.size,Nat.le_refl _,?_⟩;simp only[Act.put,lE4,lE5,lE6];refine aax (l:= ?segepa) ?hsegepa ?_
   case hsegepa=>simp only[pick,lE1,lE2,lE3];rfl
   repeat (go_big_quiet_step (fail))
   refine wpQuiet_nil ?_;obtain⟨z3,hz3⟩:∃z,z2.alloc (.cells #[.int .u64 0, .slice none 0 0] 114)=z:=⟨_,rfl⟩;have by3:=abE hz3;have bz3:Below wd.heap.size wd z3:=bz2.trans (by3.mono bz2.size);have na:=anE hz3;have la:wd.heap.size<=z2.heap.size:=bz2.size;refine aas (some 27) (w1:=z3) (v:= .pointer (some ⟨z2.heap.size,0,none⟩)) rfl rfl rfl (by rw[<-hz3];exact adG _ _ rfl z2) (by3.mono bz2.size) ⟨wd.heap.size,Nat.le_refl _,?_⟩;have fb:=fb.below by3;simp only[Act.put,lE4,lE5,lE6];refine aaW (l:= []) (t:= ?tlepa) rfl ?htlepa (wpQuiet_nil ?_)
   case htlepa=>simp only[pick,lE1,lE2,lE3];rfl
   have NA:=hE0 na;have hne:=(fb.ne na).symm;obtain⟨z9,hz9,n9,b9,⟨x0,x1⟩,⟨e0,e1⟩,hlz⟩:=auK NA (.int .u64 (xh:Int)) (.slice (some ⟨gb,0,none⟩) xn uc);have F9:Hid (FillI z9 gb x.b):=hE0 (fb.keep (by rw[<-hz9.out,Below.heap_setCell _ _ _ _ hne,Below.heap_setCell _ _ _ _ hne]));have B9:=hE0 (b9.out wd.heap.size wd la bz3);have HGB:=hE0 hgb;have HLA:=hE0 la;clear na hne fb oy la hgb sr oe hz1 by1 bz1 bq2 gq2 bz2 hz3 by3 bz3 bz0;go_wp2_with (first | (rw[hz9.out]) | fail)
   go_meet
   case rel=>exact⟨z2.heap.size,gb,uc,rfl,n9.out,F9.out,by rw[HSD.out];exact HLA.out,by rw[HSD.out];exact HGB.out,HBD.out.trans (by rw[HSD.out];exact B9.out)⟩
  case wayEA=>
   obtain⟨z2,hz2⟩:∃z,z1.alloc (.cells #[.int .u64 0, .slice none 0 0] 114)=z:=⟨_,rfl⟩;have by2:=abE hz2;have bz2:Below wd.heap.size wd z2:=bz1.trans (by2.mono bz1.size);have na:=anE hz2;have la:wd.heap.size<=z1.heap.size:=bz1.size;refine aas (some 27) (w1:=z2) (v:= .pointer (some ⟨z1.heap.size,0,none⟩)) rfl rfl rfl (by rw[<-hz2];exact adG _ _ rfl z1) (by2.mono bz1.size) ⟨wd.heap.size,Nat.le_refl _,?_⟩;have oe:=aaw oe by2;simp only[Act.put,lE4,lE5,lE6];refine aax (l:= []) rfl (wpQuiet_nil ?_);have sr:=(QRd.src (c:=x.c) (HQD.out z2 bz2) (by rw[HXN.out];exact hx0));rw[HXN.out]at sr;refine ab3 (some 313) (.tmp 307) (.tmp 312) 23 3 rfl rfl rfl rfl Tryz.underlying23 (.int .i64 0) 1 8 agj rfl (by decide) wd.heap.size (.slice (some ⟨wd.heap.size,0,none⟩) 0 0) 0 [] rfl oe (Nat.le_refl _) bz2.size x.A xn x.c _ rfl (by rw[List.length_map,HXN.out,Nat.mul_one]) sr (aq6 x.b) (by omega) (by omega) ?_;intro y1 z3 oy bq3 gq3;have bz3:Below wd.heap.size wd z3:=bz2.trans bq3;rw[Nat.zero_add,List.nil_append]at oy;obtain⟨uA,uc,rfl⟩:=adY oy;obtain⟨gb,rfl,hgb,fb⟩:=FillI.own oy hx0;refine⟨wd.heap.size,Nat.le_refl _,?_⟩;have na:z3.heap[z1.heap.size]?=some (.cells #[.int .u64 0, .slice none 0 0] 114 (0,0)):=(gq3.block _ (aaa na) (fun e=>acB oe e.symm na (by decide))).trans na;simp only[Act.put,lE4,lE5,lE6];refine aaW (l:= ?laeap) (t:= ?tleap) ?hlaeap ?htleap ?_
   case hlaeap=>simp only[pick,lE1,lE2,lE3];rfl
   case htleap=>simp only[pick,lE1,lE2,lE3];rfl
   repeat (go_big_quiet_step (fail))
   refine wpQuiet_nil ?_;have NA:=hE0 na;have hne:=(fb.ne na).symm;obtain⟨z9,hz9,n9,b9,⟨x0,x1⟩,⟨e0,e1⟩,hlz⟩:=auK NA (.int .u64 (xh:Int)) (.slice (some ⟨gb,0,none⟩) xn uc);have F9:Hid (FillI z9 gb x.b):=hE0 (fb.keep (by rw[<-hz9.out,Below.heap_setCell _ _ _ _ hne,Below.heap_setCell _ _ _ _ hne]));have B9:=hE0 (b9.out wd.heap.size wd la bz3);have HGB:=hE0 hgb;have HLA:=hE0 la;clear na hne fb oy la hgb sr oe hz1 by1 bz1 hz2 by2 bz2 bq3 gq3 bz3 bz0;go_wp2_with (first | (rw[hz9.out]) | fail)
   go_meet
   case rel=>exact⟨z1.heap.size,gb,uc,rfl,n9.out,F9.out,by rw[HSD.out];exact HLA.out,by rw[HSD.out];exact HGB.out,HBD.out.trans (by rw[HSD.out];exact B9.out)⟩
 case wayA=>
  have bz0:Below wd.heap.size wd wd:=Below.refl _ _;obtain⟨z1,hz1⟩:∃z,wd.alloc (.cells #[.int .u64 0, .slice none 0 0] 114)=z:=⟨_,rfl⟩;have by1:=abE hz1;have bz1:Below wd.heap.size wd z1:=bz0.trans (by1.mono bz0.size);have na:=anE hz1;have la:wd.heap.size<=wd.heap.size:=bz0.size;refine aas (some 27) (w1:=z1) (v:= .pointer (some ⟨wd.heap.size,0,none⟩)) rfl rfl rfl (by rw[<-hz1];exact adG _ _ rfl wd) (by1.mono bz0.size) ⟨wd.heap.size,Nat.le_refl _,?_⟩;simp only[Act.put,lE4,lE5,lE6];refine aax (l:= []) rfl (wpQuiet_nil ?_);obtain⟨z2,hz2⟩:∃z,z1.alloc (.cells #[] 3)=z:=⟨_,rfl⟩;have by2:=abE hz2;have bz2:Below wd.heap.size wd z2:=bz1.trans (by2.mono bz1.size);have oe:z2.ownsRow wd.heap.size 3 1 (.slice (some ⟨z1.heap.size,0,none⟩) 0 0) 0 []:=by rw[<-hz2];exact World.ownsRow_lit z1 _ 0 bz1.size (by unfold maxLen;omega) rfl
  refine aas (some 307) (w1:=z2) (v:= .slice (some ⟨z1.heap.size,0,none⟩) 0 0) rfl rfl rfl (by rw[<-hz2];exact aaQ rfl rfl (ait z1)) (by2.mono bz1.size) ⟨wd.heap.size,Nat.le_refl _,?_⟩;have na:=(by2.block _ (aaa na)).trans na;simp only[Act.put,lE4,lE5,lE6];refine aax (l:= []) rfl (wpQuiet_nil ?_);have sr:=(QRd.src (c:=x.c) (HQD.out z2 bz2) (by rw[HXN.out];exact hx0));rw[HXN.out]at sr;refine ab3 (some 313) (.tmp 307) (.tmp 312) 23 3 rfl rfl rfl rfl Tryz.underlying23 (.int .i64 0) 1 8 agj rfl (by decide) wd.heap.size (.slice (some ⟨z1.heap.size,0,none⟩) 0 0) 0 [] rfl oe (Nat.le_refl _) bz2.size x.A xn x.c _ rfl (by rw[List.length_map,HXN.out,Nat.mul_one]) sr (aq6 x.b) (by omega) (by omega) ?_;intro y1 z3 oy bq3 gq3;have bz3:Below wd.heap.size wd z3:=bz2.trans bq3;rw[Nat.zero_add,List.nil_append]at oy;obtain⟨uA,uc,rfl⟩:=adY oy;obtain⟨gb,rfl,hgb,fb⟩:=FillI.own oy hx0;refine⟨wd.heap.size,Nat.le_refl _,?_⟩;have na:z3.heap[wd.heap.size]?=some (.cells #[.int .u64 0, .slice none 0 0] 114 (0,0)):=(gq3.block _ (aaa na) (fun e=>acB oe e.symm na (by decide))).trans na;simp only[Act.put,lE4,lE5,lE6];refine aaW (l:= ?laaep) (t:= ?tlaep) ?hlaaep ?htlaep ?_
  case hlaaep=>simp only[pick,lE1,lE2,lE3];rfl
  case htlaep=>simp only[pick,lE1,lE2,lE3];rfl
  repeat (go_big_quiet_step (fail))
  refine wpQuiet_nil ?_;have NA:=hE0 na;have hne:=(fb.ne na).symm;obtain⟨z9,hz9,n9,b9,⟨x0,x1⟩,⟨e0,e1⟩,hlz⟩:=auK NA (.int .u64 (xh:Int)) (.slice (some ⟨gb,0,none⟩) xn uc);have F9:Hid (FillI z9 gb x.b):=hE0 (fb.keep (by rw[<-hz9.out,Below.heap_setCell _ _ _ _ hne,Below.heap_setCell _ _ _ _ hne]));have B9:=hE0 (b9.out wd.heap.size wd la bz3);have HGB:=hE0 hgb;have HLA:=hE0 la;clear na hne fb oy la hgb sr oe hz1 by1 bz1 hz2 by2 bz2 bq3 gq3 bz3 bz0;go_wp2_with (first | (rw[hz9.out]) | fail)
  go_meet
  case rel=>exact⟨wd.heap.size,gb,uc,rfl,n9.out,F9.out,by rw[HSD.out];exact HLA.out,by rw[HSD.out];exact HGB.out,HBD.out.trans (by rw[HSD.out];exact B9.out)⟩):P:=h
theorem auB (h:Hs B w A c l) (hl:l.length<=1000) (qv:Value) (capv:Value) (xh cn cm ca:Nat) (xA:Option Addr) (bl xc:Nat) (rh rn:Nat) (rA:Option Addr) (rbl rc s0 s1 s2 s3 s4:Nat){i:Nat}{x:Hq}(hx:l[i]?=some x) (hu:(l.map Hq.p).Nodup) (hxh:x.p=xh) (xn:Nat) (hxn:x.b.length=xn) (hx0:0<xn) (hx16:xn<=16384) (hca:ca+cn<=xn) (hBw:B<=w.heap.size) (rb:List UInt8) (hrb:rb=(x.b.drop ca).take cn) (hrd:Rd w w.heap.size rA cn rb):
 Calls Tryz.prog 107 #[qv, .slice A l.length c, .agg #[.int .i64 (6), .int .u64 (xh:Int), .int .u64 (cn:Int), .int .u64 (cm:Int), .int .u64 (ca:Int), .slice xA bl xc], .agg #[.int .i64 (0), .int .u64 (rh:Int), .int .u64 (rn:Int), .slice rA cn rc, .int .i64 (s0:Int), .int .i64 (s1:Int), .int .i64 (s2:Int), .int .i64 (s3:Int), .int .i64 (s4:Int)],capv] w fun e w'=>MdT B A ((l.take i++l.drop (i+1)).map Hq.two++ [(xh,x.b)]) w e w':=by
 have HX:=hE0 hx;have HXN:=hE0 hxn;have HBW:Hid (B<=w.heap.size):=hBw;have HXH:=hE0 hxh;have HRB:Hid (∀(k:Nat) (u:UInt8),rb[k]?=some u->x.b[ca+k]?=some u):=fun k u hk=>by
  rw[hrb,List.getElem?_take]at hk;split at hk
  · rw[List.getElem?_drop]at hk;exact hk
  · cases hk
 have HRD:=hE0 hrd;clear hrb hrd;obtain⟨w1,ha1,n1,b1⟩:=acz w 43 (.int .i64 (6)) (.int .u64 (xh:Int)) (.int .u64 (cn:Int)) (.int .u64 (cm:Int)) (.int .u64 (ca:Int)) (.slice xA bl xc);obtain⟨w2,ha2,n2,b2⟩:=abx w1 50 (.int .i64 (0)) (.int .u64 (rh:Int)) (.int .u64 (rn:Int)) (.slice rA cn rc) (.int .i64 (s0:Int)) (.int .i64 (s1:Int)) (.int .i64 (s2:Int)) (.int .i64 (s3:Int)) (.int .i64 (s4:Int));have HB2:=hE0 (b1.out.trans (b2.out.mono b1.out.size));have m1:=hE0 ((b2.out.block _ (aaa n1.out)).trans n1.out);have HS2:=hE0 (h.below HB2.out);obtain⟨⟨c0,c1,c2,c3,c4,c5⟩,_,hlc⟩:=aa4 m1.out;obtain⟨⟨r0,r1,r2,r3,_⟩,_,hlr⟩:=aaT n2.out;have HF:=hE0 (by have:=afS HS2.out hl hx hu;rw[hxh]at this;exact this);obtain⟨n,hn⟩:=nmE l.length;have HN:=hE0 hn;rw[hn]at HF hl ⊢;clear h hn;go_enter Tryz.func107,Tryz.ntmps107
 go_wp2_with (first | (rw[ha1.out]) | (rw[ha2.out]) | fail)
 refine HF.out.mono ?_;rintro e w' ⟨rfl,rfl⟩;obtain⟨g,rfl,_,hg,_,d0,d1⟩:=HS2.out.at_ HX.out;rw[HXN.out]at d1;rw[HXH.out]at d0;have hin:i<n:=by rw[<-HN.out];exact aau HX.out
 clear HF;obtain⟨wd,hwd⟩:=nmE w2.drew;have HWD:=hE0 hwd;have HSD:Hid (w2.heap.size=wd.heap.size):=by rw[<-hwd];rfl
 have HBD:Hid (Below w2.heap.size w2 wd):=by rw[<-hwd];exact(Below.refl _ _).drew
 have HQD:Hid (∀W,Below wd.heap.size wd W->QRd W x.A x.b):=fun W hW=>(HS2.out.row x (List.mem_of_getElem? HX.out)).below (HBD.out.trans (by rw[HSD.out];exact hW));have HD0:=hE0 ((HBD.out.cell (p:=⟨g,i*2,none⟩) hg).trans d0);have HD1:=hE0 ((HBD.out.cell (p:=⟨g,i*2+1,none⟩) hg).trans d1);have hgd:g<wd.heap.size:=Nat.lt_of_lt_of_le hg HBD.out.size;have g1:decide ((xn:Int)<(ca:Int))=false:=decide_eq_false (by omega);have g1n:decide (xn<ca)=false:=decide_eq_false (by omega);have g2:decide ((xn:Int)-(ca:Int)<(cn:Int))=false:=decide_eq_false (by omega);clear hwd;go_upto_region 62 with(fail)
 clear g1 g1n g2 d0 d1;go_cut [27] from 302 (fun v wx=>∃gx gb uc,v= .pointer (some ⟨gx,0,none⟩)/\wx.heap[gx]?=some (.cells #[.int .u64 (xh:Int), .slice (some ⟨gb,0,none⟩) xn uc] 114 (0,0))/\FillI wx gb x.b/\w2.heap.size<=gx/\w2.heap.size<=gb/\Below w2.heap.size w2 wx)
 case first=>
  exact aiu
 case rest=>
 obtain⟨gx,gb,uc,rfl,nx,fb,lx,lb,hbx⟩:=hcut;have NX:=hE0 nx;have FB:=hE0 fb;have HBX:=hE0 hbx;have HWO:=hE0 (fun W (hW:Below w2.heap.size w2 W)=>adF (HS2.out.below hW) i (by rw[HN.out];exact hin) (by rw[HN.out];exact hl));rw[HN.out]at HWO;obtain⟨L,hL⟩:=nmE (l.take i++l.drop (i+1));have HLQ:=hE0 hL;rw[hL]at HWO;have hLl:L.length+1=n:=by rw[<-hL,<-HN.out,List.length_append,List.length_take,List.length_drop];have:=HN.out;omega
 clear nx fb hbx hL c0 c1 c2 c3 c4 c5 r0 r1 r2 r3 hlc hlr;go_wp2_with fail
 go_loopw [28] (fun i wr=>∃j:Nat,i= .int .i64 (j:Int)/\j<=cn/\FillI wr gb x.b/\wr.heap[gx]?=some (.cells #[.int .u64 (xh:Int), .slice (some ⟨gb,0,none⟩) xn uc] 114 (0,0))/\Below w2.heap.size w2 wr) (fun i _=>cn-(intOf i).toNat)
 case atStart=>exact⟨0,rfl,Nat.zero_le _,FB.out,NX.out,HBX.out⟩
 case round=>
  clear NX FB HBX;obtain⟨j,rfl,hj,fb,nx,hbx⟩:=hrel;have NX:=hE0 nx;have FB:=hE0 fb;have HBX:=hE0 hbx;obtain⟨⟨x0,x1⟩,_,hlx⟩:=ahk nx;clear nx fb hbx;by_cases hlt:j<cn
  · obtain⟨⟨c0,c1,c2,c3,c4,c5⟩,_,hlc⟩:=aa4 ((HBX.out.block _ (aaa m1.out)).trans m1.out);obtain⟨⟨r0,r1,r2,r3,_⟩,_,hlr⟩:=aaT ((HBX.out.block _ (aaa n2.out)).trans n2.out);obtain⟨bb,oo,rfl,hbb,hrl,hcu⟩:=(HRD.out.below (HB2.out.trans (HBX.out.mono HB2.out.size))).at_ hlt;obtain⟨u,hu0⟩:=nmE (rb[j]);have hu:rb[j]?=some u:=by rw[<-hu0];exact List.getElem?_eq_getElem hrl
    rw[hu0]at hcu;clear hu0 hrl;obtain⟨q,hq⟩:=nmE (ca+j);have hqi:(ca:Int)+(j:Int)=(q:Int):=by omega
    have hqx:q<xn:=by omega
    have hxq:x.b[q]?=some u:=by rw[<-hq];exact HRB.out j u hu
    obtain⟨d0,_⟩:=FB.out.at_ hxq;unfold iB at d0;obtain⟨v,hv⟩:=nmE u.toNat;rw[hv]at d0 hcu;have hv8:v<256:=by rw[<-hv];exact u.toNat_lt
    clear hq hxq hu hv;go_wp2_with fail
    go_quiet (fail)
    go_wp2_with fail
    go_roundw
    case rel=>exact⟨j+1,by go_num,by omega,FB.out.below (abN _ _),((abN _ _).block _ (aaa NX.out)).trans NX.out,HBX.out.trans ((abN _ _).mono HBX.out.size)⟩
    case measure=>simp only[intOf];omega
  · have hin2:=hin;obtain⟨ve,hve⟩:=nmE wr.drew;have HVE:=hE0 hve;have HBE:Hid (Below wr.heap.size wr ve):=by rw[<-hve];exact(Below.refl _ _).drew
    have HB2E:=hE0 (HBX.out.trans (HBE.out.mono HBX.out.size));have hxe:gx<ve.heap.size:=Nat.lt_of_lt_of_le hlx HBE.out.size;have HX0:=hE0 ((HBE.out.cell (p:=⟨gx,0,none⟩) hlx).trans x0);have HX1:=hE0 ((HBE.out.cell (p:=⟨gx,1,none⟩) hlx).trans x1);have FE:=hE0 (FB.out.below HBE.out);clear hve x0 x1;go_wp2_with fail
    refine aaD ve.heap.size (.two [0,1,3] 2 (.one [] 4 (.one [] 5 (.fin [6,7]))) 4 (.one [] 2 (.one [] 5 (.fin [6,7])))) [] (by kernel_rfl) (by kernel_rfl) (by kernel_rfl) (fun _ _ _ _ _ h=>h) ?_;rw[HVE.out];have q0:∀z:LaterB ve.heap.size ve,z.val.cell? ⟨gx,0,none⟩=some (.int .u64 (xh:Int)):=fun z=>(z.ext.cell (p:=⟨gx,0,none⟩) hxe).trans HX0.out;have q1:∀z:LaterB ve.heap.size ve,z.val.cell? ⟨gx,1,none⟩=some (.slice (some ⟨gb,0,none⟩) xn uc):=fun z=>(z.ext.cell (p:=⟨gx,1,none⟩) hxe).trans HX1.out;refine abL (l:= ?seg7) ?hseg7 ?_
    case hseg7=>simp only[pick,lE1,lE2,lE3];rfl
    repeat (go_big_quiet_step (fail))
    refine wpQuiet_nil ?_;clear q0 q1;refine⟨?wayC,?wayS⟩
    case wayC=>
     refine aar (vs:= #[.slice (some ⟨g,0,none⟩) n c, .int .i64 (i:Int)]) Tryz.call172 rfl rfl rfl (R:=fun r w'=>∃A' c',r= .slice A' L.length c'/\Hs ve.heap.size w' A' c' L/\Below ve.heap.size ve w') ((HWO.out ve HB2E.out).mono ?_) ve.heap.size (Nat.le_refl _) ?_
     · rintro e w' ⟨A',c',rfl,h1,h2⟩;exact⟨_,rfl,h2,A',c',rfl,h1,h2⟩
     rintro r v7 _ ⟨A7,c7,rfl,HLs,b7⟩;simp only[Act.put,lE4,lE5,lE6];refine aax (l:= []) rfl (wpQuiet_nil ?_);obtain⟨v8,h8⟩:=nmE (v7.alloc (.cells #[.int .u64 (xh:Int), .slice (some ⟨gb,0,none⟩) xn uc] 114));have b8:=abE h8;have n8:=anE h8;refine aas (some 364) (w1:=v8) (v:= .slice (some ⟨v7.heap.size,0,none⟩) 1 1) rfl rfl rfl (by rw[<-h8];exact aaQ rfl rfl (afl v7 _ _ _ _)) (b8.mono b7.size) ⟨ve.heap.size,Nat.le_refl _,?_⟩;simp only[Act.put,lE4,lE5,lE6];refine aax (l:= []) rfl (wpQuiet_nil ?_);refine ab3 (some 365) (.tmp 362) (.tmp 364) 110 114 rfl rfl rfl rfl Tryz.underlying110 (.agg #[.int .u64 0, .slice none 0 0]) 2 32 adK rfl (by decide) ve.heap.size (.slice A7 L.length c7) L.length (abc L) rfl (aaw HLs.own b8) (Nat.le_refl _) (Nat.le_trans b7.size b8.size) (some ⟨v7.heap.size,0,none⟩) 1 1 [.int .u64 (xh:Int), .slice (some ⟨gb,0,none⟩) xn uc] rfl rfl (Src.one n8) (fun u hu=>by simp at hu;rcases hu with rfl | rfl<;>rfl) (by omega) (by omega) ?_;intro y9 v9 oy bq gq;refine⟨ve.heap.size,Nat.le_refl _,?_⟩;simp only[Act.put,lE4,lE5,lE6];have BF:Below ve.heap.size ve v9:=(b7.trans (b8.mono b7.size)).trans bq;have lwb:ve.heap.size<=ve.heap.size:=Nat.le_refl _;have bps:=b8;have hbw:=HB2.out.trans ((HB2E.out.trans (BF.mono HB2E.out.size)).mono HB2.out.size);have hown:v9.ownsRow ve.heap.size 114 2 y9 (L.length+1) (abc L++ [.int .u64 (xh:Int), .slice (some ⟨gb,0,none⟩) (x.b).length uc]):=by rw[HXN.out];exact oy
     obtain⟨A9,c9,rfl,h9,_⟩:=HLs.push bps ⟨xh,some ⟨gb,0,none⟩,uc,x.b⟩ ((FE.out.below b7).below b8).qrd y9 hown gq;have HF9:=hE0 (h9.less (Nat.le_trans HBW.out (Nat.le_trans HB2.out.size (Nat.le_trans HB2E.out.size lwb))));have HT9:Hid (Tch (ana (some ⟨g,0,none⟩)) w v9):=hE0 (Tch.of_below hbw);clear hbw hown h9 oy gq;refine aaW (l:= ?lac) (t:= []) ?hlac rfl ?_
     case hlac=>simp only[pick,lE1,lE2,lE3];rfl
     repeat (go_big_quiet_step (fail))
     refine wpQuiet_nil ?_;go_wp2_with fail
     go_ret2
     exact⟨A9,c9,L++ [⟨xh,some ⟨gb,0,none⟩,uc,x.b⟩],rfl,HF9.out,by rw[List.map_append,HLQ.out];rfl,HT9.out⟩
    case wayS=>
     obtain⟨v7,h7⟩:=nmE (ve.alloc (.cells #[.int .u64 (xh:Int), .slice (some ⟨gb,0,none⟩) xn uc] 114));have b7:=abE h7;have n7:=anE h7;refine aas (some 364) (w1:=v7) (v:= .slice (some ⟨ve.heap.size,0,none⟩) 1 1) rfl rfl rfl (by rw[<-h7];exact aaQ rfl rfl (afl ve _ _ _ _)) b7 ⟨ve.heap.size,Nat.le_refl _,?_⟩;simp only[Act.put,lE4,lE5,lE6];refine aax (l:= []) rfl (wpQuiet_nil ?_);refine aar (vs:= #[.slice (some ⟨g,0,none⟩) n c, .int .i64 (i:Int)]) Tryz.call172 rfl rfl rfl (R:=fun r w'=>∃A' c',r= .slice A' L.length c'/\Hs v7.heap.size w' A' c' L/\Below v7.heap.size v7 w') ((HWO.out v7 (HB2E.out.trans (b7.mono HB2E.out.size))).mono ?_) ve.heap.size (Nat.le_refl _) ?_
     · rintro e w' ⟨A',c',rfl,h1,h2⟩;exact⟨_,rfl,h2.mono b7.size,A',c',rfl,h1,h2⟩
     rintro r v8 _ ⟨A7,c7,rfl,HLs,b8⟩;simp only[Act.put,lE4,lE5,lE6];refine aax (l:= []) rfl (wpQuiet_nil ?_);have n8:=(b8.block _ (aaa n7)).trans n7;refine ab3 (some 365) (.tmp 362) (.tmp 364) 110 114 rfl rfl rfl rfl Tryz.underlying110 (.agg #[.int .u64 0, .slice none 0 0]) 2 32 adK rfl (by decide) v7.heap.size (.slice A7 L.length c7) L.length (abc L) rfl HLs.own b7.size b8.size (some ⟨ve.heap.size,0,none⟩) 1 1 [.int .u64 (xh:Int), .slice (some ⟨gb,0,none⟩) xn uc] rfl rfl (Src.one n8) (fun u hu=>by simp at hu;rcases hu with rfl | rfl<;>rfl) (by omega) (by omega) ?_;intro y9 v9 oy bq gq;refine⟨ve.heap.size,Nat.le_refl _,?_⟩;simp only[Act.put,lE4,lE5,lE6];have BF:Below ve.heap.size ve v9:=(b7.trans (b8.mono b7.size)).trans bq;have lwb:ve.heap.size<=v7.heap.size:=b7.size;have bps:=Below.refl v8.heap.size v8;have hbw:=HB2.out.trans ((HB2E.out.trans (BF.mono HB2E.out.size)).mono HB2.out.size);have hown:v9.ownsRow v7.heap.size 114 2 y9 (L.length+1) (abc L++ [.int .u64 (xh:Int), .slice (some ⟨gb,0,none⟩) (x.b).length uc]):=by rw[HXN.out];exact oy
     obtain⟨A9,c9,rfl,h9,_⟩:=HLs.push bps ⟨xh,some ⟨gb,0,none⟩,uc,x.b⟩ ((FE.out.below b7).below b8).qrd y9 hown gq;have HF9:=hE0 (h9.less (Nat.le_trans HBW.out (Nat.le_trans HB2.out.size (Nat.le_trans HB2E.out.size lwb))));have HT9:Hid (Tch (ana (some ⟨g,0,none⟩)) w v9):=hE0 (Tch.of_below hbw);clear hbw hown h9 oy gq;refine aaW (l:= ?las) (t:= []) ?hlas rfl ?_
     case hlas=>simp only[pick,lE1,lE2,lE3];rfl
     repeat (go_big_quiet_step (fail))
     refine wpQuiet_nil ?_;go_wp2_with fail
     go_ret2
     exact⟨A9,c9,L++ [⟨xh,some ⟨gb,0,none⟩,uc,x.b⟩],rfl,HF9.out,by rw[List.map_append,HLQ.out];rfl,HT9.out⟩
theorem asR (h:Hs B w A c l) (hl:l.length<=1000) (qv:Value) (capv:Value) (xh cn cm ca:Nat) (xA:Option Addr) (bl xc:Nat) (rh rn:Nat) (rA:Option Addr) (rbl rc s0 s1 s2 s3 s4:Nat){i:Nat}{x:Hq}(hx:l[i]?=some x) (hu:(l.map Hq.p).Nodup) (hxh:x.p=xh) (xn:Nat) (hxn:x.b.length=xn) (hx0:0<xn) (hx16:xn<=16384) (hca:ca+bl<=xn) (hBw:B<=w.heap.size) (xb:List UInt8) (hxbl:xb.length=bl) (hbd:Rd w w.heap.size xA bl xb):
 Calls Tryz.prog 107 #[qv, .slice A l.length c, .agg #[.int .i64 (7), .int .u64 (xh:Int), .int .u64 (cn:Int), .int .u64 (cm:Int), .int .u64 (ca:Int), .slice xA bl xc], .agg #[.int .i64 (0), .int .u64 (rh:Int), .int .u64 (rn:Int), .slice rA rbl rc, .int .i64 (s0:Int), .int .i64 (s1:Int), .int .i64 (s2:Int), .int .i64 (s3:Int), .int .i64 (s4:Int)],capv] w fun e w'=>MdT B A ((l.take i++l.drop (i+1)).map Hq.two++ [(xh,lay x.b ca xb)]) w e w':=by
 have HX:=hE0 hx;have HXN:=hE0 hxn;have HBW:Hid (B<=w.heap.size):=hBw;have HXH:=hE0 hxh;have HRD:=hE0 hbd;have HXL:=hE0 hxbl;clear hbd hxbl;obtain⟨w1,ha1,n1,b1⟩:=acz w 43 (.int .i64 (7)) (.int .u64 (xh:Int)) (.int .u64 (cn:Int)) (.int .u64 (cm:Int)) (.int .u64 (ca:Int)) (.slice xA bl xc);obtain⟨w2,ha2,n2,b2⟩:=abx w1 50 (.int .i64 (0)) (.int .u64 (rh:Int)) (.int .u64 (rn:Int)) (.slice rA rbl rc) (.int .i64 (s0:Int)) (.int .i64 (s1:Int)) (.int .i64 (s2:Int)) (.int .i64 (s3:Int)) (.int .i64 (s4:Int));have HB2:=hE0 (b1.out.trans (b2.out.mono b1.out.size));have m1:=hE0 ((b2.out.block _ (aaa n1.out)).trans n1.out);have HS2:=hE0 (h.below HB2.out);obtain⟨⟨c0,c1,c2,c3,c4,c5⟩,_,hlc⟩:=aa4 m1.out;obtain⟨⟨r0,r1,r2,r3,_⟩,_,hlr⟩:=aaT n2.out;have HF:=hE0 (by have:=afS HS2.out hl hx hu;rw[hxh]at this;exact this);obtain⟨n,hn⟩:=nmE l.length;have HN:=hE0 hn;rw[hn]at HF hl ⊢;clear h hn;go_enter Tryz.func107,Tryz.ntmps107
 go_wp2_with (first | (rw[ha1.out]) | (rw[ha2.out]) | fail)
 refine HF.out.mono ?_;rintro e w' ⟨rfl,rfl⟩;obtain⟨g,rfl,_,hg,_,d0,d1⟩:=HS2.out.at_ HX.out;rw[HXN.out]at d1;rw[HXH.out]at d0;have hin:i<n:=by rw[<-HN.out];exact aau HX.out
 clear HF;obtain⟨wd,hwd⟩:=nmE w2.drew;have HWD:=hE0 hwd;have HSD:Hid (w2.heap.size=wd.heap.size):=by rw[<-hwd];rfl
 have HBD:Hid (Below w2.heap.size w2 wd):=by rw[<-hwd];exact(Below.refl _ _).drew
 have HQD:Hid (∀W,Below wd.heap.size wd W->QRd W x.A x.b):=fun W hW=>(HS2.out.row x (List.mem_of_getElem? HX.out)).below (HBD.out.trans (by rw[HSD.out];exact hW));have HD0:=hE0 ((HBD.out.cell (p:=⟨g,i*2,none⟩) hg).trans d0);have HD1:=hE0 ((HBD.out.cell (p:=⟨g,i*2+1,none⟩) hg).trans d1);have hgd:g<wd.heap.size:=Nat.lt_of_lt_of_le hg HBD.out.size;have g1:decide ((xn:Int)<(ca:Int))=false:=decide_eq_false (by omega);have g1n:decide (xn<ca)=false:=decide_eq_false (by omega);have g2:decide ((xn:Int)-(ca:Int)<(bl:Int))=false:=decide_eq_false (by omega);clear hwd;go_upto_region 62 with(fail)
 clear g1 g1n g2 d0 d1;go_cut [27] from 302 (fun v wx=>∃gx gb uc,v= .pointer (some ⟨gx,0,none⟩)/\wx.heap[gx]?=some (.cells #[.int .u64 (xh:Int), .slice (some ⟨gb,0,none⟩) xn uc] 114 (0,0))/\FillI wx gb x.b/\w2.heap.size<=gx/\w2.heap.size<=gb/\Below w2.heap.size w2 wx)
 case first=>
  exact aiu
 case rest=>
 obtain⟨gx,gb,uc,rfl,nx,fb,lx,lb,hbx⟩:=hcut;have NX:=hE0 nx;have FB:=hE0 fb;have HBX:=hE0 hbx;have HWO:=hE0 (fun W (hW:Below w2.heap.size w2 W)=>adF (HS2.out.below hW) i (by rw[HN.out];exact hin) (by rw[HN.out];exact hl));rw[HN.out]at HWO;obtain⟨L,hL⟩:=nmE (l.take i++l.drop (i+1));have HLQ:=hE0 hL;rw[hL]at HWO;have hLl:L.length+1=n:=by rw[<-hL,<-HN.out,List.length_append,List.length_take,List.length_drop];have:=HN.out;omega
 clear nx fb hbx hL c0 c1 c2 c3 c4 c5 r0 r1 r2 r3 hlc hlr;go_wp2_with fail
 go_loopw [28] (fun i wr=>∃(j:Nat) (b':List UInt8),i= .int .i64 (j:Int)/\j<=bl/\b'.length=xn/\(∀k:Nat,b'[k]?=if ca<=k/\k<ca+j then xb[k-ca]? else x.b[k]?)/\FillI wr gb b'/\wr.heap[gx]?=some (.cells #[.int .u64 (xh:Int), .slice (some ⟨gb,0,none⟩) xn uc] 114 (0,0))/\Below w2.heap.size w2 wr) (fun i _=>bl-(intOf i).toNat)
 case atStart=>exact⟨0,x.b,rfl,Nat.zero_le _,HXN.out,fun k=>by rw[if_neg (by omega)],FB.out,NX.out,HBX.out⟩
 case round=>
  clear NX FB HBX;obtain⟨j,b',rfl,hj,hbl,hbk,fb,nx,hbx⟩:=hrel;have NX:=hE0 nx;have FB:=hE0 fb;have HBX:=hE0 hbx;have HBL:=hE0 hbl;have HBK:Hid (∀k:Nat,b'[k]?=if ca<=k/\k<ca+j then xb[k-ca]? else x.b[k]?):=hbk;obtain⟨⟨x0,x1⟩,_,hlx⟩:=ahk nx;clear nx fb hbx hbl hbk;by_cases hlt:j<bl
  · obtain⟨⟨c0,c1,c2,c3,c4,c5⟩,_,hlc⟩:=aa4 ((HBX.out.block _ (aaa m1.out)).trans m1.out);go_wp2_with fail
    go_quiet (fail)
    obtain⟨v1,hv1⟩:=nmE (wr.drewN nq);rw[hv1];obtain⟨ve,hve⟩:=nmE v1.drew;have hb1:Below wr.heap.size wr v1:=by rw[<-hv1];exact abN _ _
    have hbe:Below wr.heap.size wr ve:=hb1.trans (by rw[<-hve];exact((Below.refl v1.heap.size v1).drew).mono hb1.size);obtain⟨⟨c0',c1',c2',c3',c4',c5'⟩,_,_⟩:=aa4 ((hb1.block _ (aaa ((HBX.out.block _ (aaa m1.out)).trans m1.out))).trans ((HBX.out.block _ (aaa m1.out)).trans m1.out));have hlce:=Nat.lt_of_lt_of_le hlc hbe.size;have hlxe:=Nat.lt_of_lt_of_le hlx hbe.size;have e4:=(hbe.cell (p:=⟨w.heap.size,4,none⟩) hlc).trans c4;have e5:=(hbe.cell (p:=⟨w.heap.size,5,none⟩) hlc).trans c5;have ex1:=(hbe.cell (p:=⟨gx,1,none⟩) hlx).trans x1;obtain⟨bb,oo,rfl,hbb,hrl,hcu⟩:=(HRD.out.below ((HB2.out.trans (HBX.out.mono HB2.out.size)).trans (hbe.mono (Nat.le_trans HB2.out.size HBX.out.size)))).at_ hlt;obtain⟨u,hu0⟩:=nmE (xb[j]);have hu:xb[j]?=some u:=by rw[<-hu0];exact List.getElem?_eq_getElem hrl
    rw[hu0]at hcu;have hbb2:bb<ve.heap.size:=Nat.lt_of_lt_of_le hbb (Nat.le_trans HB2.out.size (Nat.le_trans HBX.out.size hbe.size));obtain⟨q,hq⟩:=nmE (ca+j);have hqi:(ca:Int)+(j:Int)=(q:Int):=by omega
    have hqx:q<xn:=by omega
    obtain⟨old,hold⟩:∃old,b'[q]?=some old:=⟨b'[q]'(by rw[HBL.out];exact hqx),List.getElem?_eq_getElem _⟩;have FEV:=FB.out.below hbe;obtain⟨d0,d1⟩:=FEV.at_ hold;have hlb:=FEV.lt;obtain⟨v,hv⟩:=nmE u.toNat;have hiu:iB u= .int .i64 (v:Int):=by unfold iB;rw[hv]
    rw[hv]at hcu;have hv8:v<256:=by rw[<-hv];exact u.toNat_lt
    have F2:=hE0 (FEV.set q (by rw[HBL.out];exact hqx) u);rw[hiu]at F2;have NX2:Hid ((ve.setCell ⟨gb,q,none⟩ (.int .i64 (v:Int))).heap[gx]?=some (.cells #[.int .u64 (xh:Int), .slice (some ⟨gb,0,none⟩) xn uc] 114 (0,0))):=by
     have hnx:=(hbe.block _ (aaa NX.out)).trans NX.out;rw[Below.heap_setCell _ _ _ _ (FEV.ne hnx)];exact hnx
    have HB2':=hE0 ((HBX.out.trans (hbe.mono HBX.out.size)).setCell (p:=⟨gb,q,none⟩) lb (.int .i64 (v:Int)));have HQ:=hE0 hq;have HU:=hE0 hu;have HVE:=hE0 hve;clear c0 c1 c2 c3 c4 c5 x0 x1 hold hu0 hrl hu hv hq FEV hiu hb1 hbe hv1 hve;go_wp2_with fail
    refine aao ve.heap.size [] [0,1,2,3,4,5,6,7,8,9,10,11,12,13] [14] (by kernel_rfl) (by kernel_rfl) (by kernel_rfl) (fun _ _ _ _ _ h=>h) ?_;rw[HVE.out];have q1:=tfE ex1 hlxe;have q4:=tfE e4 hlce;have q5:=tfE e5 hlce;have q6:=tfE hcu hbb2;refine aaH (l:= ?rw) (t:= ?tw) ?hrw ?htw ?_
    case hrw=>simp only[pick,lE1,lE2,lE3];rfl
    case htw=>simp only[pick,lE1,lE2,lE3];rfl
    repeat (go_big_quiet_step (fail))
    refine wpQuiet_nil ?_;clear q1 q4 q5 q6;go_wp2_with fail
    go_roundw
    case rel=>
     refine⟨j+1,b'.set q u,by go_num,by omega,by rw[List.length_set];exact HBL.out,fun k=> ?_,F2.out,NX2.out,HB2'.out⟩;have hq:=HQ.out;rw[List.getElem?_set];split
     · rename_i e;rw[if_pos (by rw[HBL.out];exact hqx),if_pos (by omega),show k-ca=j by omega,HU.out]
     · rename_i e;rw[HBK.out];by_cases h1:ca<=k/\k<ca+j
       · rw[if_pos h1,if_pos (by omega)]
       · rw[if_neg h1,if_neg (by omega)]
    case measure=>simp only[intOf];omega
  · have hbe:b'=lay x.b ca xb:=by
     have hjb:j=bl:=by omega
     refine List.ext_getElem? fun k=> ?_;rw[HBK.out];by_cases h1:ca<=k/\k<ca+j
     · rw[if_pos h1];have:=agU x.b ca xb (by rw[HXN.out];omega) (k-ca) (by rw[HXL.out];omega);rw[show ca+(k-ca)=k by omega]at this;exact this.symm
     · rw[if_neg h1,ajb x.b ca xb (by rw[HXN.out,HXL.out];omega) k (by rw[HXL.out];omega)]
    subst hbe;have hin2:=hin;obtain⟨ve,hve⟩:=nmE wr.drew;have HVE:=hE0 hve;have HBE:Hid (Below wr.heap.size wr ve):=by rw[<-hve];exact(Below.refl _ _).drew
    have HB2E:=hE0 (HBX.out.trans (HBE.out.mono HBX.out.size));have hxe:gx<ve.heap.size:=Nat.lt_of_lt_of_le hlx HBE.out.size;have HX0:=hE0 ((HBE.out.cell (p:=⟨gx,0,none⟩) hlx).trans x0);have HX1:=hE0 ((HBE.out.cell (p:=⟨gx,1,none⟩) hlx).trans x1);have FE:=hE0 (FB.out.below HBE.out);clear hve x0 x1;go_wp2_with fail
    refine aaD ve.heap.size (.two [0,1,3] 2 (.one [] 4 (.one [] 5 (.fin [6,7]))) 4 (.one [] 2 (.one [] 5 (.fin [6,7])))) [] (by kernel_rfl) (by kernel_rfl) (by kernel_rfl) (fun _ _ _ _ _ h=>h) ?_;rw[HVE.out];have q0:∀z:LaterB ve.heap.size ve,z.val.cell? ⟨gx,0,none⟩=some (.int .u64 (xh:Int)):=fun z=>(z.ext.cell (p:=⟨gx,0,none⟩) hxe).trans HX0.out;have q1:∀z:LaterB ve.heap.size ve,z.val.cell? ⟨gx,1,none⟩=some (.slice (some ⟨gb,0,none⟩) xn uc):=fun z=>(z.ext.cell (p:=⟨gx,1,none⟩) hxe).trans HX1.out;refine abL (l:= ?seg7) ?hseg7 ?_
    case hseg7=>simp only[pick,lE1,lE2,lE3];rfl
    repeat (go_big_quiet_step (fail))
    refine wpQuiet_nil ?_;clear q0 q1;refine⟨?wayC,?wayS⟩
    case wayC=>
     refine aar (vs:= #[.slice (some ⟨g,0,none⟩) n c, .int .i64 (i:Int)]) Tryz.call172 rfl rfl rfl (R:=fun r w'=>∃A' c',r= .slice A' L.length c'/\Hs ve.heap.size w' A' c' L/\Below ve.heap.size ve w') ((HWO.out ve HB2E.out).mono ?_) ve.heap.size (Nat.le_refl _) ?_
     · rintro e w' ⟨A',c',rfl,h1,h2⟩;exact⟨_,rfl,h2,A',c',rfl,h1,h2⟩
     rintro r v7 _ ⟨A7,c7,rfl,HLs,b7⟩;simp only[Act.put,lE4,lE5,lE6];refine aax (l:= []) rfl (wpQuiet_nil ?_);obtain⟨v8,h8⟩:=nmE (v7.alloc (.cells #[.int .u64 (xh:Int), .slice (some ⟨gb,0,none⟩) xn uc] 114));have b8:=abE h8;have n8:=anE h8;refine aas (some 364) (w1:=v8) (v:= .slice (some ⟨v7.heap.size,0,none⟩) 1 1) rfl rfl rfl (by rw[<-h8];exact aaQ rfl rfl (afl v7 _ _ _ _)) (b8.mono b7.size) ⟨ve.heap.size,Nat.le_refl _,?_⟩;simp only[Act.put,lE4,lE5,lE6];refine aax (l:= []) rfl (wpQuiet_nil ?_);refine ab3 (some 365) (.tmp 362) (.tmp 364) 110 114 rfl rfl rfl rfl Tryz.underlying110 (.agg #[.int .u64 0, .slice none 0 0]) 2 32 adK rfl (by decide) ve.heap.size (.slice A7 L.length c7) L.length (abc L) rfl (aaw HLs.own b8) (Nat.le_refl _) (Nat.le_trans b7.size b8.size) (some ⟨v7.heap.size,0,none⟩) 1 1 [.int .u64 (xh:Int), .slice (some ⟨gb,0,none⟩) xn uc] rfl rfl (Src.one n8) (fun u hu=>by simp at hu;rcases hu with rfl | rfl<;>rfl) (by omega) (by omega) ?_;intro y9 v9 oy bq gq;refine⟨ve.heap.size,Nat.le_refl _,?_⟩;simp only[Act.put,lE4,lE5,lE6];have BF:Below ve.heap.size ve v9:=(b7.trans (b8.mono b7.size)).trans bq;have lwb:ve.heap.size<=ve.heap.size:=Nat.le_refl _;have bps:=b8;have hbw:=HB2.out.trans ((HB2E.out.trans (BF.mono HB2E.out.size)).mono HB2.out.size);have hown:v9.ownsRow ve.heap.size 114 2 y9 (L.length+1) (abc L++ [.int .u64 (xh:Int), .slice (some ⟨gb,0,none⟩) (lay x.b ca xb).length uc]):=by rw[HBL.out];exact oy
     obtain⟨A9,c9,rfl,h9,_⟩:=HLs.push bps ⟨xh,some ⟨gb,0,none⟩,uc,lay x.b ca xb⟩ ((FE.out.below b7).below b8).qrd y9 hown gq;have HF9:=hE0 (h9.less (Nat.le_trans HBW.out (Nat.le_trans HB2.out.size (Nat.le_trans HB2E.out.size lwb))));have HT9:Hid (Tch (ana (some ⟨g,0,none⟩)) w v9):=hE0 (Tch.of_below hbw);clear hbw hown h9 oy gq;refine aaW (l:= ?lac) (t:= []) ?hlac rfl ?_
     case hlac=>simp only[pick,lE1,lE2,lE3];rfl
     repeat (go_big_quiet_step (fail))
     refine wpQuiet_nil ?_;go_wp2_with fail
     go_ret2
     exact⟨A9,c9,L++ [⟨xh,some ⟨gb,0,none⟩,uc,lay x.b ca xb⟩],rfl,HF9.out,by rw[List.map_append,HLQ.out];rfl,HT9.out⟩
    case wayS=>
     obtain⟨v7,h7⟩:=nmE (ve.alloc (.cells #[.int .u64 (xh:Int), .slice (some ⟨gb,0,none⟩) xn uc] 114));have b7:=abE h7;have n7:=anE h7;refine aas (some 364) (w1:=v7) (v:= .slice (some ⟨ve.heap.size,0,none⟩) 1 1) rfl rfl rfl (by rw[<-h7];exact aaQ rfl rfl (afl ve _ _ _ _)) b7 ⟨ve.heap.size,Nat.le_refl _,?_⟩;simp only[Act.put,lE4,lE5,lE6];refine aax (l:= []) rfl (wpQuiet_nil ?_);refine aar (vs:= #[.slice (some ⟨g,0,none⟩) n c, .int .i64 (i:Int)]) Tryz.call172 rfl rfl rfl (R:=fun r w'=>∃A' c',r= .slice A' L.length c'/\Hs v7.heap.size w' A' c' L/\Below v7.heap.size v7 w') ((HWO.out v7 (HB2E.out.trans (b7.mono HB2E.out.size))).mono ?_) ve.heap.size (Nat.le_refl _) ?_
     · rintro e w' ⟨A',c',rfl,h1,h2⟩;exact⟨_,rfl,h2.mono b7.size,A',c',rfl,h1,h2⟩
     rintro r v8 _ ⟨A7,c7,rfl,HLs,b8⟩;simp only[Act.put,lE4,lE5,lE6];refine aax (l:= []) rfl (wpQuiet_nil ?_);have n8:=(b8.block _ (aaa n7)).trans n7;refine ab3 (some 365) (.tmp 362) (.tmp 364) 110 114 rfl rfl rfl rfl Tryz.underlying110 (.agg #[.int .u64 0, .slice none 0 0]) 2 32 adK rfl (by decide) v7.heap.size (.slice A7 L.length c7) L.length (abc L) rfl HLs.own b7.size b8.size (some ⟨ve.heap.size,0,none⟩) 1 1 [.int .u64 (xh:Int), .slice (some ⟨gb,0,none⟩) xn uc] rfl rfl (Src.one n8) (fun u hu=>by simp at hu;rcases hu with rfl | rfl<;>rfl) (by omega) (by omega) ?_;intro y9 v9 oy bq gq;refine⟨ve.heap.size,Nat.le_refl _,?_⟩;simp only[Act.put,lE4,lE5,lE6];have BF:Below ve.heap.size ve v9:=(b7.trans (b8.mono b7.size)).trans bq;have lwb:ve.heap.size<=v7.heap.size:=b7.size;have bps:=Below.refl v8.heap.size v8;have hbw:=HB2.out.trans ((HB2E.out.trans (BF.mono HB2E.out.size)).mono HB2.out.size);have hown:v9.ownsRow v7.heap.size 114 2 y9 (L.length+1) (abc L++ [.int .u64 (xh:Int), .slice (some ⟨gb,0,none⟩) (lay x.b ca xb).length uc]):=by rw[HBL.out];exact oy
     obtain⟨A9,c9,rfl,h9,_⟩:=HLs.push bps ⟨xh,some ⟨gb,0,none⟩,uc,lay x.b ca xb⟩ ((FE.out.below b7).below b8).qrd y9 hown gq;have HF9:=hE0 (h9.less (Nat.le_trans HBW.out (Nat.le_trans HB2.out.size (Nat.le_trans HB2E.out.size lwb))));have HT9:Hid (Tch (ana (some ⟨g,0,none⟩)) w v9):=hE0 (Tch.of_below hbw);clear hbw hown h9 oy gq;refine aaW (l:= ?las) (t:= []) ?hlas rfl ?_
     case hlas=>simp only[pick,lE1,lE2,lE3];rfl
     repeat (go_big_quiet_step (fail))
     refine wpQuiet_nil ?_;go_wp2_with fail
     go_ret2
     exact⟨A9,c9,L++ [⟨xh,some ⟨gb,0,none⟩,uc,lay x.b ca xb⟩],rfl,HF9.out,by rw[List.map_append,HLQ.out];rfl,HT9.out⟩
end
end Go.Proofs.YtncadccbepjekaaGreatDoor
