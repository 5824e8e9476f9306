/- Texts of mine, joined. -/
import Derived.Deep.DeepMust
import Derived.Deep.Cut
import Derived.Great.BuildSlice
import Derived.Deep.Grids
import Derived.Deep.Fields
import Derived.Lib.SmallJoins
import Derived.LaidEql
import Derived.Stop.Asserts
import Derived.RowKitTokens
import Derived.Lib.Mul64
import Derived.Laws.Bits64b
import Derived.Test.YtncadccbepjekaaGreatDoorP9
import Derived.Test.YtncadccbepjekaaGreatDoorP11
namespace Go.Proofs.YtncadccbepjekaaGreatDoor
theorem aau{α:Type}{l:List α}{i:Nat}{x:α}(h:l[i]?=some x):i<l.length:=by
 rcases Nat.lt_or_ge i l.length with h' | h'
 · exact h'
 · rw[List.getElem?_eq_none h']at h;cases h
theorem amy{α:Type}(l:List α) (i:Nat) (y:α) (hi:i<l.length):(l.set i y).take (i+1)=l.take i++ [y]:=by
 rw[List.take_set,List.take_add_one,List.getElem?_eq_getElem hi];rw[Option.toList_some,List.set_append_right _ _ (by rw[List.length_take];omega),List.length_take];congr 1;have e:i-min i l.length=0:=by omega
 rw[e];rfl
theorem amz{α:Type}(l:List α) (i k:Nat) (y:α) (hk:i<k):(l.set i y).drop k=l.drop k:=List.drop_set_of_lt hk
theorem acH (l:List Bk) (i j:Nat) (y:Bk) (hi:i<l.length):aal (l.set i y) j=if j=i then y else aal l j:=by
 unfold aal;rw[List.getD_eq_getElem?_getD,List.getD_eq_getElem?_getD];by_cases h:j=i
 · subst h;rw[List.getElem?_set_self hi,if_pos rfl];rfl
 · rw[List.getElem?_set_ne (fun e=>h e.symm),if_neg h]
theorem au6{a b:Nat}(ha:aaG (a:Int)=true) (hb:aaG (b:Int)=true) (h:a+b<=16384):aaG ((a+b:Nat):Int)=true:=by
 have h1:=(aab _).1 ha;have h2:=(aab _).1 hb;exact(aab _).2 (by omega)
section
variable {H:Hp} {i s:Nat}
theorem Hp.Ok.at_ (h:H.Ok) (hi:i<H.blks.length):aby 184 (H.blks.take i) (aal H.blks i).off/\aaG ((aal H.blks i).size:Int)=true/\aby ((aal H.blks i).off+(aal H.blks i).size) (H.blks.drop (i+1)) (lenB H.blks):=by
 obtain⟨a,_,b,c⟩:=aiK h.tl (aat hi);exact⟨a,b,c⟩
theorem Hp.Ok.sz (h:H.Ok) (hi:i<H.blks.length):aaG ((aal H.blks i).size:Int)=true:=(h.at_ hi).2.1
theorem Hp.Ok.len (h:H.Ok):H.blks.length*32<=lenB H.blks:=by
 have go:∀(l:List Bk) (o e:Nat),aby o l e->l.length*32<=abd l:=by
  intro l;induction l with
  | nil=>intro o e _;simp[abd]
  | cons x r ih=>
   intro o e ht;obtain⟨_,h2,h3⟩:=ht;have h4:=ih _ _ h3;have h5:=(aab _).1 h2;simp only[List.length_cons,abd];omega
 have:=go H.blks 184 _ h.tl;unfold lenB;omega
theorem Hp.Ok.n (h:H.Ok):H.blks.length<=512:=by
 have h1:=h.len;have h2:=h.le;omega
theorem Hp.Ok.two (h:H.Ok) (hi:i+1<H.blks.length):(aal H.blks (i+1)).off=(aal H.blks i).off+(aal H.blks i).size/\(aal H.blks i).size+(aal H.blks (i+1)).size<=16384:=by
 obtain⟨_,hs,ht⟩:=h.at_ (i:=i) (by omega);rw[List.drop_eq_getElem_cons hi]at ht;have e:H.blks[i+1]=aal H.blks (i+1):=by
  have:=aat hi;rw[List.getElem?_eq_getElem hi]at this;exact Option.some.inj this
 rw[e]at ht;obtain⟨h1,_,h3⟩:=ht;have h4:=(aak _ _ _ h3).1;have h5:=h.le;exact⟨h1,by omega⟩
theorem Hp.Ok.same (h:H.Ok) (hi:i<H.blks.length) (y:Bk) (ho:y.off=(aal H.blks i).off) (hs:y.size=(aal H.blks i).size):aby 184 (H.blks.set i y) (lenB H.blks)/\lenB (H.blks.set i y)=lenB H.blks:=by
 obtain⟨a,b,c⟩:=h.at_ hi;have ht:aby 184 (H.blks.set i y) (lenB H.blks):=by
  rw[aoS y (aat hi)];refine aiL (by rw[ho];exact a) (by rw[hs];exact b) ?_;rw[ho,hs];exact c
 exact⟨ht,acl ht⟩
theorem Hp.Ok.use (h:H.Ok) (hi:i<H.blks.length) (u:Bool):(H.use i u).Ok:=by
 obtain⟨h1,h2⟩:=h.same hi {aal H.blks i with used:=u} rfl rfl;refine⟨?_,?_,?_⟩
 · show aby 184 (H.blks.set i _) (lenB (H.blks.set i _));rw[h2];exact h1
 · show lenB (H.blks.set i _)<=_;rw[h2];exact h.le
 · show H.ds.length=(H.blks.set i _).length;rw[List.length_set];exact h.dl
theorem Hp.Ok.wipe (h:H.Ok):(H.wipe i).Ok:=⟨h.tl,h.le,by show(H.ds.set i _).length=_;rw[List.length_set];exact h.dl⟩
theorem Hp.Ok.out (h:H.Ok):(H.out i).Ok:=⟨h.tl,h.le,h.dl⟩
theorem Hp.Ok.in_ (h:H.Ok):(H.in_ i).Ok:=⟨h.tl,h.le,h.dl⟩
theorem acs (H:Hp) (hi:i+1<H.blks.length):(H.join i).blks=H.blks.take i++{aal H.blks i with size:=(aal H.blks i).size+(aal H.blks (i+1)).size}::H.blks.drop (i+2):=by
 show(H.blks.set i _).take (i+1)++(H.blks.set i _).drop (i+1+1)=_;rw[amy _ _ _ (by omega),amz _ _ _ _ (by omega),List.append_assoc];rfl
theorem Hp.Ok.join (h:H.Ok) (hi:i+1<H.blks.length):(H.join i).Ok:=by
 obtain⟨a,b,c⟩:=h.at_ (i:=i) (by omega);obtain⟨_,b2,c2⟩:=h.at_ (i:=i+1) hi;obtain⟨e,hle⟩:=h.two hi;have ht:aby 184 (H.join i).blks (lenB H.blks):=by
  rw[acs H hi];refine aiL (x:={aal H.blks i with size:=(aal H.blks i).size+(aal H.blks (i+1)).size}) a (au6 b b2 hle) ?_;show aby ((aal H.blks i).off+((aal H.blks i).size+(aal H.blks (i+1)).size)) _ _;rw[<-Nat.add_assoc,<-e];exact c2
 have hl:=acl ht;refine⟨by rw[hl];exact ht,by rw[hl];exact h.le,?_⟩;show(H.ds.take (i+1)++H.ds.drop (i+1+1)).length=(H.join i).blks.length;rw[acs H hi];have:=h.dl;simp only[List.length_append,List.length_take,List.length_drop,List.length_cons];omega
theorem aiS (H:Hp) (hi:i+1<H.blks.length):i<(H.join i).blks.length/\aal (H.join i).blks i={aal H.blks i with size:=(aal H.blks i).size+(aal H.blks (i+1)).size}/\(H.join i).blks.length+1=H.blks.length:=by
 rw[acs H hi];refine⟨?_,aaX ?_,?_⟩
 · simp only[List.length_append,List.length_take,List.length_cons];omega
 · rw[List.getElem?_append_right (by rw[List.length_take];omega),List.length_take,show i-min i H.blks.length=0 by omega];rfl
 · simp only[List.length_append,List.length_take,List.length_cons,List.length_drop];omega
theorem ae3 (H:Hp) (hi:i<H.blks.length) (y:Bk):(((H.use i true).size i s).put (i+1) y).blks=H.blks.take i++{aal H.blks i with used:=true,size:=s}::y::H.blks.drop (i+1):=by
 have e:aal (H.blks.set i {aal H.blks i with used:=true}) i={aal H.blks i with used:=true}:=by rw[acH _ _ _ _ hi,if_pos rfl]
 show((H.blks.set i {aal H.blks i with used:=true}).set i {aal (H.blks.set i {aal H.blks i with used:=true}) i with size:=s}).take (i+1)++y::((H.blks.set i {aal H.blks i with used:=true}).set i {aal (H.blks.set i {aal H.blks i with used:=true}) i with size:=s}).drop (i+1)=_;rw[e,List.set_set,amy _ _ _ hi,amz _ _ _ _ (by omega),List.append_assoc];rfl
theorem Hp.Ok.cut (h:H.Ok) (hi:i<H.blks.length) (hs:aaG (s:Int)=true) (hle:s+32<=(aal H.blks i).size):(((H.use i true).size i s).put (i+1) ⟨(aal H.blks i).off+s,(aal H.blks i).size-s,true⟩).Ok:=by
 obtain⟨a,b,c⟩:=h.at_ hi;have h1:=(aab _).1 hs;have h2:=(aab _).1 b;have ht:aby 184 (((H.use i true).size i s).put (i+1) ⟨(aal H.blks i).off+s,(aal H.blks i).size-s,true⟩).blks (lenB H.blks):=by
  rw[ae3 H hi];refine aiL (x:={aal H.blks i with used:=true,size:=s}) a hs ⟨rfl,(aab _).2 (by dsimp only;omega),?_⟩;dsimp only;rw[show(aal H.blks i).off+s+((aal H.blks i).size-s)=(aal H.blks i).off+(aal H.blks i).size by omega];exact c
 have hl:=acl ht;refine⟨by rw[hl];exact ht,by rw[hl];exact h.le,?_⟩;rw[ae3 H hi];show(H.ds.take (i+1)++acc::H.ds.drop (i+1)).length=_;have:=h.dl;simp only[List.length_append,List.length_take,List.length_drop,List.length_cons];omega
theorem alm (H:Hp) (hi:i<H.blks.length) (y:Bk):(((H.use i true).size i s).put (i+1) y).blks.length=H.blks.length+1:=by
 rw[ae3 H hi];simp only[List.length_append,List.length_take,List.length_drop,List.length_cons];omega
end
theorem af6{n:Int}:∀{l:List Rk}{e:Int}{f:Bool}{d:List (List UInt8)},abh n e f l=true->datOk l d=true->(d.flatten.length:Int)+e<=n
 | [],e,f,d,h,h2=>by
  unfold abh at h;unfold datOk at h2;rw[beq_iff_eq]at h;have:d= []:=by simpa using h2
  subst this;simp;omega
 | x::r,e,f,d,h,h2=>by
  unfold abh at h;simp only[Bool.and_eq_true,beq_iff_eq,decide_eq_true_eq]at h;obtain⟨_,h3,_,_,h4⟩:=h;have h5:=(aab _).1 h3;unfold datOk at h2;split at h2
  · cases d with
    | nil=>cases h2
    | cons y d'=>
     simp only[Bool.and_eq_true,beq_iff_eq]at h2;have:=af6 h4 h2.2;rw[List.flatten_cons,List.length_append];omega
  · have:=af6 h4 h2;omega
theorem arL{n:Int}{l:List Rk}{d:List (List UInt8)}(h:aew n l d=true):d.flatten.length<=16384/\184<=n/\n<=16384:=by
 unfold aew at h;simp only[Bool.and_eq_true]at h;have h1:=(aaV n).1 h.1;have h2:=af6 h.2.1 h.2.2;omega
open Go.RowKit
theorem ad4{w:World}{g:Nat}{t:TypeId}{y0 y1 y2:Value}(h:w.heap[g]?=some (.cells #[y0,y1,y2] t (0,0))):(w.cell? ⟨g,0,none⟩=some y0/\w.cell? ⟨g,1,none⟩=some y1/\w.cell? ⟨g,2,none⟩=some y2)/\(w.frozen? ⟨g,0,none⟩=false/\w.frozen? ⟨g,1,none⟩=false/\w.frozen? ⟨g,2,none⟩=false)/\g<w.heap.size:=
 ⟨⟨by rw[cell_of_row w g 0 _ _ (0,0) h];rfl,by rw[cell_of_row w g 1 _ _ (0,0) h];rfl,by rw[cell_of_row w g 2 _ _ (0,0) h];rfl⟩,⟨frozen_of_row w g 0 _ _ h,frozen_of_row w g 1 _ _ h,frozen_of_row w g 2 _ _ h⟩,aaa h⟩
theorem aj2 (w:World) (t:TypeId) (y0 y1 y2:Value):∃w',Hid (w.alloc (.cells #[y0,y1,y2] t)=w')/\Hid (w'.heap[w.heap.size]?=some (.cells #[y0,y1,y2] t (0,0)))/\Hid (Below w.heap.size w w'):=
 ⟨_,hE0 rfl,hE0 (heap_alloc_new w _),hE0 ((Below.refl _ _).alloc (Nat.le_refl _) _)⟩
theorem auG{w:World}{g:Nat}{t:TypeId}{y0 y1 y2:Value}(h:Hid (w.heap[g]?=some (.cells #[y0,y1,y2] t (0,0)))) (x0 x1 x2:Value):∃w',Hid ((((w.setCell ⟨g,0,none⟩ x0).setCell ⟨g,1,none⟩ x1).setCell ⟨g,2,none⟩ x2)=w')/\Hid (w'.heap[g]?=some (.cells #[x0,x1,x2] t (0,0)))/\Hid (∀B v,B<=g->Below B v w->Below B v w')/\(w.cell? ⟨g,0,none⟩=some y0/\w.cell? ⟨g,1,none⟩=some y1/\w.cell? ⟨g,2,none⟩=some y2)/\(w.frozen? ⟨g,0,none⟩=false/\w.frozen? ⟨g,1,none⟩=false/\w.frozen? ⟨g,2,none⟩=false)/\g<w.heap.size:=by
 have h0:=h.out;have h1:(_:Option Obj)=some (.cells #[x0,y1,y2] t (0,0)):=heap_setCell_same _ g 0 _ _ x0 h0;have h2:(_:Option Obj)=some (.cells #[x0,x1,y2] t (0,0)):=heap_setCell_same _ g 1 _ _ x1 h1;have h3:(_:Option Obj)=some (.cells #[x0,x1,x2] t (0,0)):=heap_setCell_same _ g 2 _ _ x2 h2;exact⟨_,hE0 rfl,hE0 h3,hE0 (fun B v hB hv=>(Below.setCell (Below.setCell (Below.setCell hv (p:=⟨g,0,none⟩) hB _) (p:=⟨g,1,none⟩) hB _) (p:=⟨g,2,none⟩) hB _)),ad4 h0⟩
theorem ahW{w:World}{g:Nat}{t:TypeId}{y0 y1 y2 y3 y4 y5 y6:Value}(h:w.heap[g]?=some (.cells #[y0,y1,y2,y3,y4,y5,y6] t (0,0))):(w.cell? ⟨g,0,none⟩=some y0/\w.cell? ⟨g,1,none⟩=some y1/\w.cell? ⟨g,2,none⟩=some y2/\w.cell? ⟨g,3,none⟩=some y3/\w.cell? ⟨g,4,none⟩=some y4/\w.cell? ⟨g,5,none⟩=some y5/\w.cell? ⟨g,6,none⟩=some y6)/\(w.frozen? ⟨g,0,none⟩=false/\w.frozen? ⟨g,1,none⟩=false/\w.frozen? ⟨g,2,none⟩=false/\w.frozen? ⟨g,3,none⟩=false/\w.frozen? ⟨g,4,none⟩=false/\w.frozen? ⟨g,5,none⟩=false/\w.frozen? ⟨g,6,none⟩=false)/\g<w.heap.size:=
 ⟨⟨by rw[cell_of_row w g 0 _ _ (0,0) h];rfl,by rw[cell_of_row w g 1 _ _ (0,0) h];rfl,by rw[cell_of_row w g 2 _ _ (0,0) h];rfl,by rw[cell_of_row w g 3 _ _ (0,0) h];rfl,by rw[cell_of_row w g 4 _ _ (0,0) h];rfl,by rw[cell_of_row w g 5 _ _ (0,0) h];rfl,by rw[cell_of_row w g 6 _ _ (0,0) h];rfl⟩,⟨frozen_of_row w g 0 _ _ h,frozen_of_row w g 1 _ _ h,frozen_of_row w g 2 _ _ h,frozen_of_row w g 3 _ _ h,frozen_of_row w g 4 _ _ h,frozen_of_row w g 5 _ _ h,frozen_of_row w g 6 _ _ h⟩,aaa h⟩
theorem apl (w:World) (t:TypeId) (y0 y1 y2 y3 y4 y5 y6:Value):∃w',Hid (w.alloc (.cells #[y0,y1,y2,y3,y4,y5,y6] t)=w')/\Hid (w'.heap[w.heap.size]?=some (.cells #[y0,y1,y2,y3,y4,y5,y6] t (0,0)))/\Hid (Below w.heap.size w w'):=
 ⟨_,hE0 rfl,hE0 (heap_alloc_new w _),hE0 ((Below.refl _ _).alloc (Nat.le_refl _) _)⟩
theorem au7{w:World}{g:Nat}{t:TypeId}{y0 y1 y2 y3 y4 y5 y6:Value}(h:Hid (w.heap[g]?=some (.cells #[y0,y1,y2,y3,y4,y5,y6] t (0,0)))) (x0 x1 x2 x3 x4 x5 x6:Value):∃w',Hid ((((((((w.setCell ⟨g,0,none⟩ x0).setCell ⟨g,1,none⟩ x1).setCell ⟨g,2,none⟩ x2).setCell ⟨g,3,none⟩ x3).setCell ⟨g,4,none⟩ x4).setCell ⟨g,5,none⟩ x5).setCell ⟨g,6,none⟩ x6)=w')/\Hid (w'.heap[g]?=some (.cells #[x0,x1,x2,x3,x4,x5,x6] t (0,0)))/\Hid (∀B v,B<=g->Below B v w->Below B v w')/\(w.cell? ⟨g,0,none⟩=some y0/\w.cell? ⟨g,1,none⟩=some y1/\w.cell? ⟨g,2,none⟩=some y2/\w.cell? ⟨g,3,none⟩=some y3/\w.cell? ⟨g,4,none⟩=some y4/\w.cell? ⟨g,5,none⟩=some y5/\w.cell? ⟨g,6,none⟩=some y6)/\(w.frozen? ⟨g,0,none⟩=false/\w.frozen? ⟨g,1,none⟩=false/\w.frozen? ⟨g,2,none⟩=false/\w.frozen? ⟨g,3,none⟩=false/\w.frozen? ⟨g,4,none⟩=false/\w.frozen? ⟨g,5,none⟩=false/\w.frozen? ⟨g,6,none⟩=false)/\g<w.heap.size:=by
 have h0:=h.out;have h1:(_:Option Obj)=some (.cells #[x0,y1,y2,y3,y4,y5,y6] t (0,0)):=heap_setCell_same _ g 0 _ _ x0 h0;have h2:(_:Option Obj)=some (.cells #[x0,x1,y2,y3,y4,y5,y6] t (0,0)):=heap_setCell_same _ g 1 _ _ x1 h1;have h3:(_:Option Obj)=some (.cells #[x0,x1,x2,y3,y4,y5,y6] t (0,0)):=heap_setCell_same _ g 2 _ _ x2 h2;have h4:(_:Option Obj)=some (.cells #[x0,x1,x2,x3,y4,y5,y6] t (0,0)):=heap_setCell_same _ g 3 _ _ x3 h3;have h5:(_:Option Obj)=some (.cells #[x0,x1,x2,x3,x4,y5,y6] t (0,0)):=heap_setCell_same _ g 4 _ _ x4 h4;have h6:(_:Option Obj)=some (.cells #[x0,x1,x2,x3,x4,x5,y6] t (0,0)):=heap_setCell_same _ g 5 _ _ x5 h5;have h7:(_:Option Obj)=some (.cells #[x0,x1,x2,x3,x4,x5,x6] t (0,0)):=heap_setCell_same _ g 6 _ _ x6 h6;exact⟨_,hE0 rfl,hE0 h7,hE0 (fun B v hB hv=>(Below.setCell (Below.setCell (Below.setCell (Below.setCell (Below.setCell (Below.setCell (Below.setCell hv (p:=⟨g,0,none⟩) hB _) (p:=⟨g,1,none⟩) hB _) (p:=⟨g,2,none⟩) hB _) (p:=⟨g,3,none⟩) hB _) (p:=⟨g,4,none⟩) hB _) (p:=⟨g,5,none⟩) hB _) (p:=⟨g,6,none⟩) hB _)),ahW h0⟩
def ae4:List Rk->List Value
 | []=> []
 | x::r=> .int .i64 x.o:: .int .i64 x.s:: .bool x.u::ae4 r
theorem aj3:∀(l:List Rk) (i:Nat) (x:Rk),l[i]?=some x->(ae4 l)[i*3]?=some (.int .i64 x.o)/\(ae4 l)[i*3+1]?=some (.int .i64 x.s)/\(ae4 l)[i*3+2]?=some (.bool x.u)
 | [],_,_,h=>by simp at h
 | y::r,0,x,h=>by
  simp at h;subst h;exact⟨rfl,rfl,rfl⟩
 | y::r,i+1,x,h=>by
  have:=aj3 r i x (by simpa using h);have e:(i+1)*3=i*3+1+1+1:=by omega
  rw[e];exact⟨by simpa[ae4]using this.1,by simpa[ae4]using this.2.1,by simpa[ae4]using this.2.2⟩
def avL (l:List Rk):Prop:=∀x∈l,(0<=x.o/\x.o<=1000000000)/\(0<=x.s/\x.s<=20000)
section
variable {B g n:Nat} {N:Int} {A1 A2:Option Addr} {c1 c2:Nat} {l:List Rk} {d:List (List UInt8)} {xs:List Value} {w w3 w4 w':World}
theorem aj4{w:World}{B c:Nat}{A:Option Addr}{l:List Rk}(h:w.ownsRow B 112 3 (.slice A l.length c) l.length (ae4 l)) (hl:avL l):RkRd w w.heap.size A l:=fun hn=>by
 rcases h.2 with⟨hv,h0⟩ | ⟨b,cap,cur,hv,hbg,hg,hnc,hcm,hsz,htk⟩
 · omega
 · injection hv with e1 e2 e3;subst e1;refine⟨b,0,rfl,aaa hg,fun j x hx=> ?_⟩;have hj:j<l.length:=(List.getElem?_eq_some_iff.1 hx).1;obtain⟨q0,q1,q2⟩:=aj3 l j x hx;have hb:=hl x (List.mem_of_getElem? hx);have hc:∀(i:Nat) (v:Value),i<l.length*3->(ae4 l)[i]?=some v->w.cell? ⟨b,i,none⟩=some v:=fun i v hi hv=>by
    rw[cell_of_row _ _ _ _ _ _ hg];rw[<-htk,List.getElem?_take,if_pos hi]at hv;rw[<-hv];simp
   simp only[Nat.zero_add];exact⟨hc _ _ (by omega) q0,hc _ _ (by omega) q1,hc _ _ (by omega) q2,by omega,by omega⟩
end
section
variable {B g:Nat} {N:Int} {A1 A2:Option Addr} {c1 c2:Nat} {l:List Rk} {d:List (List UInt8)} {xs:List Value} {w:World}
end
theorem atK{H:Hp}{s:Nat}:∀{i:Nat},H.find s=some i->i<H.blks.length:=by
 have one:∀(LL:List Nat) (i:Nat),afV H.blks s LL=some i->i<H.blks.length:=by
  intro LL;induction LL with
  | nil=>intro i h;cases h
  | cons o r ih=>
   intro i h;unfold afV at h;split at h
   · cases h
   · rename_i j hj;split at h
     · injection h with h;subst h;exact(afJ hj).1
     · exact ih i h
 have go:∀(k c i:Nat),H.findC s k c=some i->i<H.blks.length:=by
  intro k;induction k with
  | zero=>intro c i h;cases h
  | succ k ih=>
   intro c i h;unfold Hp.findC at h;split at h
   · rename_i j hj;injection h with h;subst h;exact one _ _ hj
   · exact ih _ _ h
 intro i h;exact go _ _ _ h
section
variable {H:Hp} {i s N:Nat}
theorem Hp.Ok.giveB (h:H.Ok):(H.giveB i).Ok:=by
 unfold Hp.giveB;split
 · rename_i hn;have hlt:i+1<H.blks.length:=by
    unfold acG at hn;rw[Bool.and_eq_true,decide_eq_true_eq]at hn;exact hn.1
   exact Hp.Ok.join (Hp.Ok.out h) hlt
 · exact h
theorem Hp.Ok.giveC (h:H.Ok) (hi:i<H.blks.length):(H.giveC i).Ok:=by
 unfold Hp.giveC;split
 · rename_i hn;have hlt:i-1+1<H.blks.length:=by
    unfold aiJ at hn;rw[Bool.and_eq_true,decide_eq_true_eq]at hn;have:=hn.1;omega
   exact Hp.Ok.in_ (Hp.Ok.join (Hp.Ok.out h) hlt)
 · exact Hp.Ok.in_ h
theorem amA (hi:i<H.blks.length):i<(H.giveB i).blks.length:=by
 unfold Hp.giveB;split
 · rename_i hn;have hlt:i+1<H.blks.length:=by
    unfold acG at hn;rw[Bool.and_eq_true,decide_eq_true_eq]at hn;exact hn.1
   exact(aiS (H.out (i+1)) (i:=i) hlt).1
 · exact hi
theorem Hp.Ok.give (h:H.Ok) (hi:i<H.blks.length):(H.give i).Ok:=by
 have h1:((H.use i false).wipe i).Ok:=(h.use hi false).wipe;have l1:i<((H.use i false).wipe i).blks.length:=by
  show i<(H.blks.set i _).length;rw[List.length_set];exact hi
 exact(h1.giveB).giveC (amA l1)
theorem Hp.Ok.cutA (h:H.Ok) (hi:i<H.blks.length) (hs:aaG (s:Int)=true):(H.cut i s).Ok:=by
 unfold Hp.cut;split
 · exact h.use hi true
 · rename_i hge;exact(h.cut hi hs (by omega)).give (by rw[alm H hi];omega)
theorem Hp.Ok.last (h:H.Ok){k:Nat}(hk:H.blks.length=k+1) (u:Bool) (hs:aaG (s:Int)=true) (hle:(aal H.blks k).off+s<=16384):(((H.size k s).use k u)).Ok/\(H.size k s).Ok:=by
 obtain⟨a,b,c⟩:=h.at_ (i:=k) (by omega);have hd:H.blks.drop (k+1)= []:=List.drop_of_length_le (by omega);have go:∀y:Bk,y.off=(aal H.blks k).off->y.size=s->aby 184 (H.blks.set k y) ((aal H.blks k).off+s):=fun y ho hsz=>by
  rw[aoS y (aat (i:=k) (by omega)),hd];exact aiL (by rw[ho];exact a) (by rw[hsz];exact hs) (by rw[ho,hsz];rfl)
 have e1:((H.size k s).use k u).blks=H.blks.set k {aal H.blks k with size:=s,used:=u}:=by
  show(H.blks.set k _).set k _=_;rw[List.set_set];congr 1;show {aal (H.blks.set k {aal H.blks k with size:=s}) k with used:=u}=_;rw[acH _ _ _ _ (by omega),if_pos rfl]
 have t1:=go {aal H.blks k with size:=s,used:=u} rfl rfl;have t2:=go {aal H.blks k with size:=s} rfl rfl;refine⟨⟨?_,?_,?_⟩,?_,?_,?_⟩
 · rw[e1,acl t1];exact t1
 · rw[e1,acl t1];exact hle
 · show H.ds.length=((H.size k s).use k u).blks.length;rw[e1,List.length_set];exact h.dl
 · show aby 184 (H.blks.set k _) (lenB (H.blks.set k _));rw[acl t2];exact t2
 · show lenB (H.blks.set k _)<=_;rw[acl t2];exact hle
 · show H.ds.length=(H.blks.set k _).length;rw[List.length_set];exact h.dl
theorem arM (h:H.Ok){k:Nat}(hk:H.blks.length=k+1):(aal H.blks k).off+(aal H.blks k).size=lenB H.blks:=by
 have h4:=(h.at_ (i:=k) (by omega)).2.2;rw[List.drop_of_length_le (by omega)]at h4;exact h4
theorem Hp.Ok.take (h:H.Ok) (hc:H.cap<=16384) (hs:aaG (s:Int)=true):(H.take s).2.Ok:=by
 unfold Hp.take;split
 · rename_i i hf;exact Hp.Ok.cutA (Hp.Ok.out h) (atK (H:=H) hf) hs
 · split
   · exact h
   · rename_i hr;split
     · rename_i htl;obtain⟨k,hk⟩:∃k,H.blks.length=0\/H.blks.length=k+1:=⟨H.blks.length-1,by omega⟩;rcases hk with hk | hk
       · unfold acq at htl;rw[if_pos hk]at htl;omega
       · have he:=arM h hk;have htf:acq H.blks=(aal H.blks k).size:=by
          unfold acq at htl ⊢;rw[if_neg (by omega),show H.blks.length-1=k by omega]at htl ⊢;split at htl
          · omega
          · rename_i hu;rw[if_neg hu]
         rw[show H.blks.length-1=k by omega];exact(Hp.Ok.last (Hp.Ok.out (i:=k) h) hk true hs (by show(aal H.blks k).off+s<=_;omega)).1
     · rename_i htl;have ht:aby 184 (H.blks++ [⟨lenB H.blks,s,true⟩]) (lenB H.blks+s):=ajI _ _ _ _ h.tl rfl hs;have e:(H.put H.blks.length ⟨lenB H.blks,s,true⟩).blks=H.blks++ [⟨lenB H.blks,s,true⟩]:=by
        show H.blks.take _++_::H.blks.drop _=_;rw[List.take_length,List.drop_length]
       refine⟨?_,?_,?_⟩
       · rw[e,acl ht];exact ht
       · rw[e,acl ht];omega
       · rw[e];show(H.ds.take _++acc::H.ds.drop _).length=_;have:=h.dl;simp only[List.length_append,List.length_take,List.length_drop,List.length_cons,List.length_nil];omega
end
def Hp.swallow (H:Hp) (i:Nat):Hp:=if acG H.blks i=true then (H.out (i+1)).drop (i+1) else H
def ahs (l:List Bk) (i:Nat):Nat:=(aal l i).size+(if acG l i=true then (aal l (i+1)).size else 0)
def Hp.widen (H:Hp) (i:Nat):Hp:=(H.swallow i).size i (ahs H.blks i)
def Hp.copyD (H:Hp) (p o:Nat):Hp:={H with ds:=H.ds.set p (H.ds.getD o acc)}
def Hp.moveD (H:Hp) (p o:Int):Hp:=match atB p H.blks,atB o H.blks with
 | some ip,some io=>H.copyD ip io
 | _,_=>H
def afL (H:Hp) (i s:Nat):Bool:=decide ((aal H.blks i).off+ahs H.blks i=lenB H.blks)&&decide (lenB H.blks+s-ahs H.blks i<=H.cap)
def Hp.resize (H:Hp) (o:Int) (s:Nat):(Nat × Int) × Hp:=match aa3 H.blks o with
 | none=>((0,3),H)
 | some i=>if s<=(aal H.blks i).size then (((aal H.blks i).off,0),H.cut i s)
  else if s<=ahs H.blks i then (((aal H.blks i).off,0),(H.widen i).cut i s)
  else if afL H i s=true then (((aal H.blks i).off,0),(H.widen i).size i s)
  else match (H.take s).1 with
   | none=>((0,5),H)
   | some p=>((p,0),(((H.take s).2.moveD (p:Int) o).giveO o).getD ((H.take s).2.moveD (p:Int) o))
section
variable {H:Hp} {i s N:Nat}
theorem agB (h:acG H.blks i=true):H.swallow i=(H.out (i+1)).drop (i+1):=by unfold Hp.swallow;rw[if_pos h]
theorem ahX (h:acG H.blks i=false):H.swallow i=H:=by unfold Hp.swallow;rw[h,if_neg (by decide)]
theorem aiT (h:acG H.blks i=true):ahs H.blks i=(aal H.blks i).size+(aal H.blks (i+1)).size:=by unfold ahs;rw[if_pos h]
theorem aln (h:acG H.blks i=false):ahs H.blks i=(aal H.blks i).size:=by unfold ahs;rw[h,if_neg (by decide)];rfl
theorem aeI (h:acG H.blks i=true):i+1<H.blks.length:=by
 unfold acG at h;rw[Bool.and_eq_true,decide_eq_true_eq]at h;exact h.1
theorem aem (h:acG H.blks i=true):(H.widen i).blks=((H.out (i+1)).join i).blks/\(H.widen i).ds=((H.out (i+1)).join i).ds:=by
 have hlt:=aeI h;have hb:aal ((H.out (i+1)).drop (i+1)).blks i=aal H.blks i:=by
  show aal (H.blks.take (i+1)++H.blks.drop (i+1+1)) i=_;unfold aal;rw[List.getD_eq_getElem?_getD,List.getElem?_append_left (by rw[List.length_take];omega),List.getElem?_take_of_lt (by omega),<-List.getD_eq_getElem?_getD]
 unfold Hp.widen;rw[agB h,aiT h];refine⟨?_,rfl⟩;rw[acs (H.out (i+1)) hlt];show(H.blks.take (i+1)++H.blks.drop (i+1+1)).set i {aal ((H.out (i+1)).drop (i+1)).blks i with size:=_}=_;rw[hb,List.set_append_left _ _ (by rw[List.length_take];omega)];rw[List.take_add_one,List.getElem?_eq_getElem (by omega)];rw[Option.toList_some,List.set_append_right _ _ (by rw[List.length_take];omega),List.length_take,show i-min i H.blks.length=0 by omega];simp;rfl
theorem aen (h:acG H.blks i=false) (hi:i<H.blks.length):(H.widen i).blks=H.blks/\(H.widen i).ds=H.ds:=by
 unfold Hp.widen;rw[ahX h,aln h];refine⟨?_,rfl⟩;show H.blks.set i {aal H.blks i with size:=(aal H.blks i).size}=H.blks;have e:({aal H.blks i with size:=(aal H.blks i).size}:Bk)=aal H.blks i:=rfl;rw[e];have hg:=aat hi;rw[List.getElem?_eq_getElem hi]at hg;injection hg with hg;rw[<-hg];exact List.set_getElem_self hi
theorem Hp.Ok.widen (h:H.Ok) (hi:i<H.blks.length):(H.widen i).Ok/\i<(H.widen i).blks.length/\aal (H.widen i).blks i={aal H.blks i with size:=ahs H.blks i}:=by
 cases hn:acG H.blks i with
 | true=>
  obtain⟨e1,e2⟩:=aem hn;have hj:=Hp.Ok.join (Hp.Ok.out (i:=i+1) h) (aeI hn);have ha:=aiS (H.out (i+1)) (i:=i) (aeI hn);refine⟨⟨by rw[e1];exact hj.tl,by rw[e1];exact hj.le,by rw[e1,e2];exact hj.dl⟩,by rw[e1];exact ha.1,?_⟩;rw[e1,ha.2.1,aiT hn];rfl
 | false=>
  obtain⟨e1,e2⟩:=aen hn hi;refine⟨⟨by rw[e1];exact h.tl,by rw[e1];exact h.le,by rw[e1,e2];exact h.dl⟩,by rw[e1];exact hi,?_⟩;rw[e1,aln hn]
theorem widen_cap:(H.widen i).cap=H.cap:=by unfold Hp.widen Hp.swallow;split<;>rfl
theorem Hp.Dl.swallow (h:H.Dl):(H.swallow i).Dl:=by
 unfold Hp.swallow;split
 · exact Hp.Dl.drop (Hp.Dl.out h)
 · exact h
theorem Hp.Dl.widen (h:H.Dl):(H.widen i).Dl:=Hp.Dl.size (Hp.Dl.swallow h)
theorem Hp.Dl.moveD{p o:Int}(h:H.Dl):(H.moveD p o).Dl:=by
 unfold Hp.moveD;split
 · show(H.ds.set _ _).length=_;rw[List.length_set];exact h
 · exact h
theorem moveD_cap{p o:Int}:(H.moveD p o).cap=H.cap:=by unfold Hp.moveD;split<;>rfl
theorem Hp.Dl.resize{o:Int}(h:H.Dl):(H.resize o s).2.Dl:=by
 unfold Hp.resize;split
 · exact h
 · split
   · exact h.cut
   · split
     · exact h.widen.cut
     · split
       · exact h.widen.size
       · split
         · exact h
         · rename_i p _
           cases hg:((H.take s).2.moveD (p:Int) o).giveO o with
           | none=>exact h.take.moveD
           | some H2=>exact h.take.moveD.giveO hg
theorem resize_cap{o:Int}:(H.resize o s).2.cap=H.cap:=by
 unfold Hp.resize;split
 · rfl
 · split
   · exact cut_cap
   · split
     · exact cut_cap.trans widen_cap
     · split
       · exact widen_cap
       · split
         · rfl
         · rename_i p _
           cases hg:((H.take s).2.moveD (p:Int) o).giveO o with
           | none=>exact moveD_cap.trans take_cap
           | some H2=>exact(aoV hg).trans (moveD_cap.trans take_cap)
end
def Hp.handleB (H:Hp) (q:Nat):Option Nat:=if q<8\/20000<q then none else aa3 H.blks ((q:Int)-8)
def acP (d:List UInt8) (n:Nat) (x:UInt8):List UInt8:=d.take n++List.replicate (n-d.length) x
theorem adc (d:List UInt8) (n:Nat) (x:UInt8):(acP d n x).length=n:=by
 unfold acP;rw[List.length_append,List.length_take,List.length_replicate];omega
theorem aiU (d:List UInt8) (n:Nat) (x:UInt8) (k:Nat) (hk:k<n):(acP d n x)[k]?=some (d.getD k x):=by
 unfold acP;rcases Nat.lt_or_ge k d.length with h | h
 · rw[List.getElem?_append_left (by rw[List.length_take];omega),List.getElem?_take_of_lt hk,List.getD_eq_getElem?_getD,List.getElem?_eq_getElem h];rfl
 · rw[List.getElem?_append_right (by rw[List.length_take];omega),List.getElem?_replicate,if_pos (by rw[List.length_take];omega),List.getD_eq_getElem?_getD,List.getElem?_eq_none h];rfl
def Hp.dset (H:Hp) (i:Nat) (d:Dt):Hp:={H with ds:=H.ds.set i d}
def Hp.fill (H:Hp) (i:Nat) (x:UInt8):Hp:=H.dset i (.slice none 0 0,acP (H.ds.getD i acc).2 ((aal H.blks i).size-16) x)
theorem ac3{n s:Nat}(h:acn n=some s):aaG (s:Int)=true:=by
 unfold acn at h;split at h
 · injection h with h;exact(aab _).2 (by omega)
 · cases h
def Hp.get (H:Hp) (n:Nat) (x:UInt8):(Nat × Int) × Hp:=match acn n with
 | none=>((0,5),H)
 | some s=>match (H.take s).1 with
  | none=>((0,5),H)
  | some o=>((o+8,0),match atB (o:Int) (H.take s).2.blks with
   | none=>(H.take s).2
   | some i=>((H.take s).2.wipe i).fill i x)
def Hp.calloc (H:Hp) (n m:Nat):(Nat × Int) × Hp:=if 18446744073709551615<n*m then ((0,5),H) else H.get (n*m) 0
def Hp.realloc (H:Hp) (q n:Nat):(Nat × Int) × Hp:=match H.handleB q with
 | none=>((0,4),H)
 | some _=>match acn n with
  | none=>((0,5),H)
  | some s=>if (H.resize ((q:Int)-8) s).1.2=0 then (((H.resize ((q:Int)-8) s).1.1+8,0),match atB ((H.resize ((q:Int)-8) s).1.1:Int) (H.resize ((q:Int)-8) s).2.blks with
   | none=>(H.resize ((q:Int)-8) s).2
   | some i=>(H.resize ((q:Int)-8) s).2.fill i 165)
   else ((0,(H.resize ((q:Int)-8) s).1.2),(H.resize ((q:Int)-8) s).2)
theorem adv{H:Hp}{q i:Nat}(h:H.handleB q=some i):8<=q/\q<=20000/\aa3 H.blks ((q:Int)-8)=some i:=by
 unfold Hp.handleB at h;split at h
 · cases h
 · exact⟨by omega,by omega,h⟩
theorem aeJ (H:Hp) (o:Int) (s:Nat) (h:(H.resize o s).1.2≠0):(H.resize o s).1.1=0/\(H.resize o s).2=H/\((H.resize o s).1.2=3\/(H.resize o s).1.2=5):=by
 unfold Hp.resize at h ⊢;split
 · exact⟨rfl,rfl, .inl rfl⟩
 · rename_i i hi;rw[hi]at h;dsimp only at h ⊢;split
   · rename_i h1;rw[if_pos h1]at h;exact absurd rfl h
   · rename_i h1;rw[if_neg h1]at h;split
     · rename_i h2;rw[if_pos h2]at h;exact absurd rfl h
     · rename_i h2;rw[if_neg h2]at h;split
       · rename_i h3;rw[if_pos h3]at h;exact absurd rfl h
       · rename_i h3;rw[if_neg h3]at h;split
         · exact⟨rfl,rfl, .inr rfl⟩
         · rename_i p hp;rw[hp]at h;exact absurd rfl h
def abs:List Bk->Nat × Nat × Nat
 | []=>(0,0,0)
 | x::r=>if x.used=true then ((abs r).1+1,(abs r).2.1,(abs r).2.2+(x.size-16)) else ((abs r).1,(abs r).2.1+1,(abs r).2.2)
structure St5 where
 used:Nat
 free:Nat
 bytes:Nat
 len:Nat
 cap:Nat
def St5.none:St5:=⟨0,0,0,0,0⟩
def Hp.stats (H:Hp):St5:=⟨(abs H.blks).1,(abs H.blks).2.1,(abs H.blks).2.2,lenB H.blks,H.cap⟩
structure Rp where
 code:Int
 hd:Nat
 n:Nat
 b:List UInt8
 st:St5
def Rp.err (k:Int):Rp:=⟨k,0,0,[],St5.none⟩
def Hp.heldC (H:Hp) (op:Int) (q n p:Nat) (b:List UInt8):Rp × Hp:=match H.handleB q with
 | none=>(Rp.err 4,H)
 | some i=>if op=5 then (⟨0,0,(H.ds.getD i acc).2.length,[],St5.none⟩,H)
  else if (H.ds.getD i acc).2.length<p+(if op=7 then b.length else n) then (Rp.err 2,H)
  else if op=6 then (⟨0,0,0,((H.ds.getD i acc).2.drop p).take n,St5.none⟩,H)
  else (Rp.err 0,H.dset i ((H.ds.getD i acc).1,lay (H.ds.getD i acc).2 p b))
def aov (r:(Nat × Int) × Hp):Rp × Hp:=(⟨r.1.2,r.1.1,0,[],St5.none⟩,r.2)
def Hp.doC (H:Hp) (op:Int) (q n m p:Nat) (b:List UInt8):Rp × Hp:=
 if op=1 then aov (H.get n 165)
 else if op=2 then aov (H.calloc n m)
 else if op=3 then match H.handleB q with
  | none=>(Rp.err 4,H)
  | some i=>(Rp.err 0,H.give i)
 else if op=4 then aov (H.realloc q n)
 else if op=5\/op=6\/op=7 then H.heldC op q n p b
 else if op=8 then (⟨0,0,0,[],H.stats⟩,H)
 else (Rp.err 1,H)
section
variable {H:Hp}
end
def tkL (L:Nat->List Nat) (y:Bk):Nat->List Nat:=ahn L (afU y) ((L (afU y)).filter fun o=>o !=y.off)
def ptL (L:Nat->List Nat) (y:Bk):Nat->List Nat:=ahn L (afU y) (y.off::L (afU y))
def tkO (L:Nat->List Nat):Option Bk->Nat->List Nat
 | none=>L
 | some y=>tkL L y
theorem ad5 (A:List Bk) (y:Bk) (B:List Bk):aal (A++y::B) A.length=y:=aaX (by rw[List.getElem?_append_right (Nat.le_refl _),Nat.sub_self];rfl)
theorem alo (A:List Bk) (y z:Bk) (B:List Bk):aal (A++y::z::B) (A.length+1)=z:=aaX (by rw[List.getElem?_append_right (by omega),show A.length+1-A.length=1 by omega];rfl)
theorem ae5{l:List Bk}{i:Nat}(hi:i<l.length):l=l.take i++aal l i::l.drop (i+1)/\(l.take i).length=i:=by
 refine⟨?_,by rw[List.length_take];omega⟩;have e:l.drop i=aal l i::l.drop (i+1):=by
  have h:=aat hi;rw[List.getElem?_eq_getElem hi]at h;injection h with h;rw[List.drop_eq_getElem_cons hi,h]
 rw[<-e,List.take_append_drop]
section
variable {H:Hp} {A B:List Bk} {y z:Bk} {i:Nat}
theorem agC (hb:H.blks=A++y::B) (u:Bool):(H.use A.length u).blks=A++{y with used:=u}::B:=by
 show H.blks.set A.length {aal H.blks A.length with used:=u}=_;rw[hb,ad5,List.set_append_right _ _ (Nat.le_refl _),Nat.sub_self];rfl
theorem amB (hb:H.blks=A++y::B) (s:Nat):(H.size A.length s).blks=A++{y with size:=s}::B:=by
 show H.blks.set A.length {aal H.blks A.length with size:=s}=_;rw[hb,ad5,List.set_append_right _ _ (Nat.le_refl _),Nat.sub_self];rfl
theorem aiV (hb:H.blks=A++y::z::B):(H.join A.length).blks=A++{y with size:=y.size+z.size}::B:=by
 rw[acs H (i:=A.length) (by rw[hb];simp),hb,ad5,alo,List.take_left,show A++y::z::B=(A++ [y,z])++B by simp,List.drop_left' (by simp)]
theorem agD (hb:H.blks=A++y::B):(H.out A.length).lists=tkL H.lists y:=by
 show ahn H.lists (afU (aal H.blks A.length)) _=_;rw[hb,ad5];rfl
theorem as1 (hb:H.blks=A++y::B):(H.in_ A.length).lists=ptL H.lists y:=by
 show ahn H.lists (afU (aal H.blks A.length)) _=_;rw[hb,ad5];rfl
end
theorem agE (A:List Bk) (x:Bk) (B:List Bk):acG (A++x::B) A.length=match B with
 | []=>false
 | n::_=> !n.used:=by
 unfold acG
 cases B with
 | nil=>simp
 | cons n r=>
  rw[alo];simp
theorem aj5 (A:List Bk) (p x:Bk) (B:List Bk):aiJ (A++p::x::B) (A.length+1)= !p.used:=by
 unfold aiJ;rw[Nat.add_sub_cancel,ad5];simp
structure alp (A1:List Bk) (p:Option Bk) (n:Option Bk) (B1:List Bk):Prop where
 pf:∀y,p=some y->y.used=false
 nf:∀y,n=some y->y.used=false
 pu:p=none->∀y r,A1=r++ [y]->y.used=true
 nu:n=none->∀y r,B1=y::r->y.used=true
theorem alq (A B:List Bk):∃A1 p n B1,A=A1++p.toList/\B=n.toList++B1/\alp A1 p n B1:=by
 have h1:∃A1 p,A=A1++p.toList/\(∀y,p=some y->y.used=false)/\(p=none->∀y r,A1=r++ [y]->y.used=true):=by
  rcases List.eq_nil_or_concat A with e | ⟨r,y,e⟩
  · refine⟨[],none,e,fun y hy=>(by cases hy),fun _ y r h=> ?_⟩;have:=congrArg List.length h;simp at this
  · rw[List.concat_eq_append]at e
    cases hu:y.used with
    | false=>exact⟨r,some y,e,fun z hz=>(by injection hz with hz;rw[<-hz];exact hu),fun h=>(by cases h)⟩
    | true=>
     refine⟨A,none,by simp,fun y hy=>(by cases hy),fun _ z r2 h=> ?_⟩;rw[e]at h;have:=List.append_inj_right' h rfl;injection this with h1;rw[<-h1];exact hu
 have h2:∃n B1,B=n.toList++B1/\(∀y,n=some y->y.used=false)/\(n=none->∀y r,B1=y::r->y.used=true):=by
  cases B with
  | nil=>exact⟨none,[],rfl,fun y hy=>(by cases hy),fun _ y r h=>(by cases h)⟩
  | cons y r=>
   cases hu:y.used with
   | false=>exact⟨some y,r,rfl,fun z hz=>(by injection hz with hz;rw[<-hz];exact hu),fun h=>(by cases h)⟩
   | true=>exact⟨none,y::r,rfl,fun y hy=>(by cases hy),fun _ z r2 h=>(by injection h with h1 _;rw[<-h1];exact hu)⟩
 obtain⟨A1,p,e1,e2,e3⟩:=h1;obtain⟨n,B1,f1,f2,f3⟩:=h2;exact⟨A1,p,n,B1,e1,f1,e2,f2,e3,f3⟩
def ad6 (p:Option Bk) (x:Bk) (n:Option Bk):Bk:=⟨(p.getD x).off,(p.map Bk.size).getD 0+x.size+(n.map Bk.size).getD 0,false⟩
theorem alr{H:Hp}{A1 B1:List Bk}{p n:Option Bk}{x:Bk}(hb:H.blks=(A1++p.toList)++x::(n.toList++B1)) (hN:alp A1 p n B1):
 (H.give (A1++p.toList).length).blks=A1++ad6 p x n::B1/\(H.give (A1++p.toList).length).lists=ptL (tkO (tkO H.lists n) p) (ad6 p x n):=by
 obtain⟨A,hA⟩:=nmE (A1++p.toList);rw[hA]at hb ⊢;obtain⟨H0,hH0⟩:=nmE ((H.use A.length false).wipe A.length);have b0:H0.blks=A++{x with used:=false}::(n.toList++B1):=by rw[<-hH0];exact agC hb false
 have l0:H0.lists=H.lists:=by rw[<-hH0];rfl
 have h1:(H0.giveB A.length).blks=A++⟨x.off,x.size+(n.map Bk.size).getD 0,false⟩::B1/\(H0.giveB A.length).lists=tkO H.lists n:=by
  unfold Hp.giveB;rw[b0,agE]
  cases n with
  | none=>
   have e:(match (none:Option Bk).toList++B1 with
    | []=>false
    | n::_=> !n.used)=false:=by
    cases B1 with
    | nil=>rfl
    | cons y r=>
     show(!y.used)=false;rw[hN.nu rfl y r rfl];rfl
   rw[e,if_neg (by simp)];exact⟨b0,l0⟩
  | some m=>
   have hm:=hN.nf m rfl;show(if (!m.used)=true then _ else _:Hp).blks=_/\(if (!m.used)=true then _ else _:Hp).lists=_;rw[hm,if_pos (by rfl)];constructor
   · exact aiV (H:=H0.out (A.length+1)) (y:={x with used:=false}) (z:=m) b0
   · have b0':H0.blks=(A++ [{x with used:=false}])++m::B1:=by rw[b0];simp
     have:=agD b0';rw[List.length_append,List.length_singleton]at this;show(H0.out (A.length+1)).lists=_;rw[this,l0];rfl
 obtain⟨b1,l1⟩:=h1;have e:H.give A.length=(H0.giveB A.length).giveC A.length:=by rw[<-hH0];rfl
 rw[e];obtain⟨G,hG⟩:=nmE (H0.giveB A.length);rw[hG]at b1 l1 ⊢;unfold Hp.giveC
 cases p with
 | none=>
  have hA:A1=A:=by rw[<-hA];simp
  have hp:aiJ G.blks A.length=false:=by
   rcases List.eq_nil_or_concat A with e | ⟨r,y,e⟩
   · rw[b1,e];rfl
   · rw[List.concat_eq_append]at e;have hu:=hN.pu rfl y r (by rw[hA];exact e);rw[b1,e,List.append_assoc,List.length_append];exact(aj5 r y _ B1).trans (by rw[hu];rfl)
  rw[hp,if_neg (by simp)];have hw:ad6 none x n=⟨x.off,x.size+(n.map Bk.size).getD 0,false⟩:=by unfold ad6;simp
  rw[hw];refine⟨by rw[hA];exact b1,?_⟩;rw[as1 b1,l1];rfl
 | some q=>
  have hq:=hN.pf q rfl;have hA':A=A1++ [q]:=by rw[<-hA];rfl
  have b1':G.blks=A1++q::⟨x.off,x.size+(n.map Bk.size).getD 0,false⟩::B1:=by rw[b1,hA'];simp
  have hlen:A.length=A1.length+1:=by rw[hA'];simp
  rw[hlen,Nat.add_sub_cancel,b1',aj5,hq,if_pos (by rfl)];have hw:ad6 (some q) x n={q with size:=q.size+(x.size+(n.map Bk.size).getD 0)}:=by
   unfold ad6;show Bk.mk q.off (q.size+x.size+(n.map Bk.size).getD 0) false=Bk.mk q.off (q.size+(x.size+(n.map Bk.size).getD 0)) q.used;rw[hq,Nat.add_assoc]
  have b2:((G.out A1.length).join A1.length).blks=A1++ad6 (some q) x n::B1:=by
   rw[hw];exact aiV (H:=G.out A1.length) b1'
  refine⟨b2,?_⟩;rw[as1 b2];show ptL (G.out A1.length).lists _=_;rw[agD b1',l1];rfl
def au8:List Bk->List Dt->List (List UInt8)
 | x::L,d::ds=>if x.used then d.2::au8 L ds else au8 L ds
 | _,_=> []
section
variable {F G:Nat->Prop} {w:World} {p:Nat} {H:Hp}
end
end Go.Proofs.YtncadccbepjekaaGreatDoor
