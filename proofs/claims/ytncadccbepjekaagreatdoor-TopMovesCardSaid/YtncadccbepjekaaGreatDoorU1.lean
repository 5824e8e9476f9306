/- Texts of mine, joined. -/
import Derived.KernelRfl
import Derived.WalkKit
import Derived.Below
import Derived.Laws.OwnMore
import Derived.Laws.BytesArg
import Derived.Deep.Draws
import Derived.Lib.Hide
import Derived.Laws.Rows
import Derived.Deep.OwnRows
import Derived.OrdersHeld
import Derived.BigQuiet
import Derived.BigCall
import Derived.StillTail
namespace Go.Proofs.YtncadccbepjekaaGreatDoor
open Go.RowKit
def Ext (w w':World):Prop:=Below w.heap.size w w'
theorem Ext.refl (w:World):Ext w w:=Below.refl _ _
def avx (w:World):Type:={w':World//Ext w w'}
instance (w:World):Nonempty (avx w):=⟨⟨w,Ext.refl w⟩⟩
def ajz:Op->Bool
 | .move _=>true
 | .assign _=>true
 | .pick _ _ _=>true
 | .load _ _=>true
 | .binOp _ _ _ _ _=>true
 | .unOp _ _ _=>true
 | .convert _ _ _=>true
 | .slice _ _ _ _ _=>true
 | .fieldAddr _ _ _=>true
 | .field _ _ _=>true
 | .indexAddr _ _ _=>true
 | .index _ _ _=>true
 | .extract _ _=>true
 | _=>false
theorem agu{P:Program}{w w':World}{s:Sem Value}{n:Next}(h:(do pure (Next.value (<-s)):Sem Next).run P w= .ok n w'):∃v,n= .value v:=by
 rw[Sem.run_bind]at h;generalize s.run P w=r at h
 cases r with
 | ok v w1=>
  simp only[Result.andThen,Sem.run_pure]at h;injection h with h1 h2;exact⟨v,h1.symm⟩
 | halt x w1=>simp[Result.andThen]at h
theorem ann{P:Program}{ρ:Operand->Value}{o:Oper}{w w':World}{n:Next}(hr:ajz o.op=true) (h:(execOp ρ o).run P w= .ok n w'):∃v,n= .value v:=by
 unfold execOp at h
 cases ho:o.op<;>simp only[ho,ajz,Bool.false_eq_true]at hr<;>simp only[ho]at h;all_goals first
  | exact agu h
  | (simp only[Sem.run_pure]at h;injection h with h1 h2;exact⟨_,h1.symm⟩)
  | (rw[Sem.run_bind]at h
     generalize Sem.run P (asBool _) w=r at h
     cases r with
     | ok v w1=>simp only[Result.andThen,Sem.run_pure]at h;injection h with h1 h2;exact⟨_,h1.symm⟩
     | halt x w1=>simp[Result.andThen]at h)
def pick (ops:Array Oper):List Nat->List Oper
 | []=> []
 | i::r=>match ops[i]? with
  | some o=>o::pick ops r
  | none=>pick ops r
def ajA (l:Array Bool):List Nat->Array Bool
 | []=>l
 | i::r=>ajA (l.setIfInBounds i true) r
section
variable {P:Program} {ops:Array Oper} {Q:Exit->Act->World->Prop}
end
def LaterB (B:Nat) (w:World):Type:={w':World//Below B w w'}
def LaterB.val{B:Nat}{w:World}(x:LaterB B w):World:=x.1
theorem LaterB.ext{B:Nat}{w:World}(x:LaterB B w):Below B w x.val:=x.2
instance (B:Nat) (w:World):Nonempty (LaterB B w):=⟨⟨w,Below.refl _ _⟩⟩
def ace (B:Nat) (w:World) (w':World):Prop:=∃x:LaterB B w,w'=x.val
attribute [go_sem] ace
def as6:Op->Bool
 | .nilCheck _=>true
 | .build _ _=>true
 | .makeInterface _ _=>true
 | .call {callee:= .builtin .len,args:=_,argTypes:=_}=>true
 | o=>ajz o
theorem aoG{P:Program}{ρ:Operand->Value}{o:Oper}{xs:Array Operand}{ats:Array TypeId}{w w':World}{n:Next}(ho:o.op= .call {callee:= .builtin .len,args:=xs,argTypes:=ats}) (h:(execOp ρ o).run P w= .ok n w'):∃v,n= .value v:=by
 obtain⟨dst,op,ty,pos,after,guard⟩:=o;dsimp only at ho;subst ho;exact agu (s:=Builtin.len_ ats ty (xs.map ρ)) h
theorem ajB{P:Program}{ρ:Operand->Value}{o:Oper}{w w':World}{n:Next}(hr:as6 o.op=true) (h:(execOp ρ o).run P w= .ok n w'):∃v,n= .value v:=by
 by_cases hi:ajz o.op=true
 · exact ann hi h
 · have hr0:=hr;have h0:=h;unfold execOp at h
   cases ho:o.op<;>simp only[ho,as6,ajz,Bool.false_eq_true,not_true_eq_false]at hr hi<;>simp only[ho]at h
   case nilCheck x=>
    generalize ρ x=y at h;split at h
    · simp[runtimePanic,goPanic]at h
    · simp[runtimePanic,goPanic]at h
    · simp[runtimePanic,goPanic]at h
    · split at h
      · simp[runtimePanic,goPanic]at h
      · rw[Sem.run_bind]at h;generalize Sem.run P program w=r at h
        cases r with
        | halt x w1=>simp[Result.andThen]at h
        | ok v w1=>
         simp only[Result.andThen]at h;rw[Sem.run_bind]at h;generalize Sem.run P (nilAhead _ _ _ _) w1=r at h
         cases r with
         | halt x w2=>simp[Result.andThen]at h
         | ok b w2=>
          simp only[Result.andThen]at h;by_cases hb:(b !=some false)=true
          · simp[hb]at h
          · simp[hb]at h;exact⟨_,h.1.symm⟩
      · simp at h;exact⟨_,h.1.symm⟩
    · simp at h;exact⟨_,h.1.symm⟩
   case call c=>
    obtain⟨callee,xs,ats⟩:=c;rw[ho]at hr0
    cases callee with
    | builtin b=>
     cases b;all_goals first
      | exact aoG ho h0
      | cases hr0
    | _=>cases hr0
   all_goals exact agu h
def mv (ops:Array Oper) (i:Nat):Bool:=match ops[i]? with
 | some o=>(match o.op with
  | .move _=>true
  | .assign _=>true
  | _=>false)
 | none=>false
def abU (P:Program) (ops:Array Oper) (Q:Exit->Act->World->Prop) (S:World->Prop) (T:List Nat):Nat->Array Bool->Act->World->Prop
 | 0,l,a,w=>Region.ready .any ops l= []/\Q .normal a w
 | n+1,l,a,w=>(Region.ready .any ops l= []->Q .normal a w)/\
  ∀i∈Region.ready .any ops l,wpOp P ops Q i (fun a' w'=>(i∉T->mv ops i=false->S w')/\(mv ops i=true->w'=w)/\abU P ops Q S T n (l.setIfInBounds i true) a' w') a w
section
variable {P:Program} {ops:Array Oper} {Q:Exit->Act->World->Prop} {S S':World->Prop} {T:List Nat}
theorem ac7:∀(n:Nat) (l:Array Bool) (a:Act) (w:World),abU P ops Q S T n l a w->wpAny P .any ops Q n l a w
 | 0,_,_,_,h=>h
 | n+1,_,_,_,h=>⟨h.1,fun i hi=>wpOp_mono (fun a' w' h'=>ac7 n _ a' w' h'.2.2) (h.2 i hi)⟩
theorem aa7 (hS:∀w,S' w->S w):∀(n:Nat) (l:Array Bool) (a:Act) (w:World),abU P ops Q S' T n l a w->abU P ops Q S T n l a w
 | 0,_,_,_,h=>h
 | n+1,_,_,_,h=>⟨h.1,fun i hi=>wpOp_mono (fun a' w' h'=>⟨fun k k'=>hS _ (h'.1 k k'),h'.2.1,aa7 hS n _ a' w' h'.2.2⟩) (h.2 i hi)⟩
theorem as7{i:Nat}(h:mv ops i=true):∃o x,ops[i]?=some o/\(o.op= .move x\/o.op= .assign x):=by
 unfold mv at h;split at h
 · rename_i o ho;split at h
   · exact⟨o,_,ho, .inl (by assumption)⟩
   · exact⟨o,_,ho, .inr (by assumption)⟩
   · cases h
 · cases h
theorem aoH{o:Oper}{x:Operand}(h:o.op= .move x\/o.op= .assign x) (ρ:Operand->Value) (w:World):(execOp ρ o).run P w= .ok (.value (ρ x)) w:=by
 rcases h with h | h<;>simp[execOp,h]
theorem as8{i:Nat}{K:Act->World->Prop}{a:Act}{w:World}(h:wpOp P ops Q i K a w):wpOp P ops Q i (fun a' w'=>(mv ops i=true->w'=w)/\K a' w') a w:=by
 by_cases hm:mv ops i=true
 · obtain⟨o,x,ho,hx⟩:=as7 hm;unfold wpOp at h ⊢;simp only[ho]at h ⊢;split
   · rename_i hw;rw[if_pos hw]at h;rcases h with h | h
     · left;unfold Oper.wp at h ⊢;rw[aoH hx]at h ⊢;exact⟨fun _=>rfl,h⟩
     · exact .inr h
   · rename_i hw;rw[if_neg hw]at h;exact⟨fun _=>by first | rfl | trivial,h⟩
 · exact wpOp_mono (fun a' w' h=>⟨fun h'=>absurd h' hm,h⟩) h
def amk (ops:Array Oper) (i:Nat) (D:List Nat):Bool:=
 D.all fun j=>match ops[j]? with
  | some o=>o.after.any fun e=>Region.binds .any e&&(e.on==i || D.contains e.on)
  | none=>false
theorem aoI{i j:Nat}{D:List Nat}(h:amk ops i D=true) (hj:j∈D):∃o,ops[j]?=some o/\∃e∈o.after,Region.binds .any e=true/\(e.on=i\/e.on∈D):=by
 have h1:=List.all_eq_true.1 h j hj;split at h1
 · rename_i o ho;obtain⟨e,he,hb⟩:=Array.any_eq_true'.1 h1;simp only[Bool.and_eq_true,Bool.or_eq_true,beq_iff_eq,List.contains_iff_mem]at hb;exact⟨o,ho,e,he,hb.1,hb.2⟩
 · cases h1
theorem as9{i j:Nat}{D:List Nat}{l:Array Bool}(h:amk ops i D=true) (hu:∀k∈D,l.getD k true=false) (hi:l.getD i true=false) (hj:j∈D):j∉Region.ready .any ops l:=by
 intro hr;obtain⟨o,ho,e,he,hb,hon⟩:=aoI h hj;obtain⟨_,o',ho',hall⟩:=mem_ready.1 hr;obtain rfl:o'=o:=Option.some.inj (ho'.symm.trans ho);have h2:=hall e he hb;rcases hon with rfl | hon
 · rw[getD_both hi]at h2;cases h2
 · rw[getD_both (hu _ hon)]at h2;cases h2
theorem ata{i:Nat}{oi:Oper}{v:Value}{D:List Nat}(hi:ops[i]?=some oi) (hsel:Region.noSelect ops=true) (hQ:∀c a w,Q (.panic c) (a.put oi.dst v) w->Q (.panic c) a w)
 (hD:mv ops i=true\/(amk ops i D=true/\∀j∈T,j∈D)):∀(n:Nat) (l:Array Bool) (a:Act) (w:World),
  (∀j oj,ops[j]?=some oj->j≠i->l.getD j true=false->(∀e∈oj.after,Region.binds .any e=true->e.on≠i)->oi.apart ops oj=true)->(mv ops i=true\/∀k∈D,l.getD k true=false)->
  i∈Region.ready .any ops l->YieldsIf P ops (fun w'=>mv ops i=true\/S w') oi v a->(mv ops i=true\/S w)->abU P ops Q S T n (l.setIfInBounds i true) (a.put oi.dst v) w->abU P ops Q S T (n+1) l a w
 | 0,l,a,w,_,_,hr,hy,hS,H=>by
  refine⟨fun h=>absurd (h▸hr) (by simp),fun j hj=> ?_⟩;by_cases e:j=i
  · subst e;exact hy.wpOp hi hS ⟨fun _ h=>hS.resolve_left (by simp[h]),fun _=>rfl,H⟩
  · have:=ready_mono hj e;rw[H.1]at this
    cases this
 | n+1,l,a,w,hf,hu,hr,hy,hS,H=>by
  refine⟨fun h=>absurd (h▸hr) (by simp),fun j hj=> ?_⟩;by_cases e:j=i
  · subst e;exact hy.wpOp hi hS ⟨fun _ h=>hS.resolve_left (by simp[h]),fun _=>rfl,H⟩
  · have hiu:=(mem_ready.1 hr).1;have hjD:mv ops i=true\/j∉D:=by
     rcases hD with h | ⟨h,_⟩
     · exact .inl h
     · rcases hu with h' | h'
       · exact .inl h'
       · exact .inr fun hj'=>as9 h h' hiu hj' hj
    obtain⟨hju,oj,hoj,hall⟩:=mem_ready.1 hj;have hno:∀e∈oj.after,Region.binds .any e=true->e.on≠i:=fun e he hb h=>by
     have:=hall e he hb;rw[h,getD_both hiu]at this
     cases this
    have h2:=wpOp_putIf hoj (hf j oj hoj e hju hno) (fun cs b=>Region.noSelect_spec hsel i oi cs b hi) (fun cs b=>Region.noSelect_spec hsel j oj cs b hoj) hQ hy (H.2 j (ready_mono hj e));refine wpOp_mono (fun a' w' h3=>⟨h3.2.1,h3.2.2.1,ata hi hsel hQ hD n _ a' w' (fun k ok hk hki hku hkn=>hf k ok hk hki ?_ hkn) ?_ (ready_mono hr (Ne.symm e)) h3.1 ?_ ?_⟩) h2
    · by_cases h:j=k
      · subst h;exact hju
      · rw[getD_set_ne true h]at hku;exact hku
    · rcases hjD with h | h
      · exact .inl h
      · exact hu.imp id fun hu k hk=>by rw[getD_set_ne true (fun h'=>h (by rw[h'];exact hk))];exact hu k hk
    · rcases hD with h | ⟨_,h⟩
      · exact .inl h
      · rcases hjD with h' | h'
        · exact .inl h'
        · rcases hS with hS | hS
          · exact .inl hS
          · right;by_cases hm:mv ops j=true
            · rw[h3.2.2.1 hm];exact hS
            · exact h3.2.1 (fun h4=>h' (h j h4)) (by simpa using hm)
    · rw[Array.setIfInBounds_comm _ _ e];exact h3.2.2.2
def dset (ops:Array Oper) (l:Array Bool) (i:Nat):List Nat:=
 (List.range ops.size).foldl (fun D j=>if l.getD j true==false&&(match ops[j]? with
  | some o=>o.after.any fun e=>Region.binds .any e&&(e.on==i || D.contains e.on)
  | none=>false) then j::D else D) []
def ak2 (ops:Array Oper) (l:Array Bool) (i:Nat) (T D:List Nat):Bool:=amk ops i D&&(D.all (fun k=>l.getD k true==false)&&T.all fun t=>D.contains t)
def aoB (ops:Array Oper) (T:List Nat):Array Bool->List Nat->Bool
 | _,[]=>true
 | l,i::r=>(Region.ready .any ops l).contains i&&(Region.free .any ops l i&&(((ops[i]?).map fun o=>as6 o.op).getD false&&((mv ops i || ak2 ops l i T (dset ops l i))&&aoB ops T (l.setIfInBounds i true) r)))
def atb (ops:Array Oper):Array Bool->List Nat->Bool
 | l,[]=>(Region.ready .any ops l).isEmpty
 | l,i::r=>Region.ready .any ops l== [i]&&((ops[i]?).isSome&&atb ops (l.setIfInBounds i true) r)
def aiB (ops:Array Oper) (last T:List Nat):Array Bool->List (List Nat × Nat)->Bool
 | l,[]=>aoB ops T l last&&atb ops (ajA l last) T
 | l,(rs,i)::more=>aoB ops T l rs&&(Region.ready .any ops (ajA l rs)== [i]&& !mv ops i&&aiB ops last T ((ajA l rs).setIfInBounds i true) more)
def ads (last T:List Nat):List (List Nat × Nat)->Nat
 | []=>T.length+last.length
 | (rs,_)::more=>1+ads last T more+rs.length
def wpT (P:Program) (ops:Array Oper) (Q:Exit->Act->World->Prop) (last T:List Nat):List (List Nat × Nat)->Nat->Act->World->Prop
 | [],B,a,w=>wpQuiet P ops (ace B w) (fun a'=>wpList P ops Q (pick ops T) a' w) (pick ops last) a
 | (rs,i)::more,B,a,w=>wpQuiet P ops (ace B w) (fun a'=>wpOp P ops Q i (fun a'' w''=>Below B w w''/\∃B',B<=B'/\wpT P ops Q last T more B' a'' w'') a' w) (pick ops rs) a
theorem aeS (hsub:∀j∈T,j∈T):∀(t:List Nat) (l:Array Bool) (a:Act) (w:World),(∀j∈t,j∈T)->atb ops l t=true->wpList P ops Q (pick ops t) a w->abU P ops Q S T t.length l a w
 | [],l,a,w,_,hc,h=>⟨by simpa[atb]using hc,h⟩
 | i::r,l,a,w,ht,hc,h=>by
  simp only[atb,Bool.and_eq_true,beq_iff_eq,Option.isSome_iff_exists]at hc;obtain⟨h1,⟨o,ho⟩,h3⟩:=hc;simp only[pick,ho]at h;refine⟨fun h0=>(by rw[h1]at h0;cases h0),fun j hj=> ?_⟩;rw[h1]at hj;obtain rfl:j=i:=by simpa using hj
  have hw:wpOp P ops Q j (wpList P ops Q (pick ops r)) a w:=by unfold wpOp;simp only[ho];exact h
  exact wpOp_mono (fun a' w' h'=>⟨fun hn=>absurd (ht j (by simp)) hn,h'.1,aeS hsub r _ a' w' (fun k hk=>ht k (by simp[hk])) h3 h'.2⟩) (as8 hw)
theorem acW (hsel:Region.noSelect ops=true) (hQ:∀c a t v w,Q (.panic c) (Act.put a (some t) v) w->Q (.panic c) a w) (B:Nat) (w:World) (K:Act->Prop) (n:Nat):
 ∀(rs:List Nat) (l:Array Bool) (a:Act),aoB ops T l rs=true->wpQuiet P ops (ace B w) K (pick ops rs) a->
  (∀a',K a'->abU P ops Q (Below B w) T n (ajA l rs) a' w)->abU P ops Q (Below B w) T (n+rs.length) l a w
 | [],l,a,_,h,hk=>hk a h
 | i::r,l,a,hc,h,hk=>by
  simp only[aoB,Bool.and_eq_true]at hc;obtain⟨h1,h2,h3,h5,h4⟩:=hc;simp only[ak2,Bool.and_eq_true,Bool.or_eq_true]at h5
  cases ho:ops[i]? with
  | none=>simp[ho]at h3
  | some o=>
   simp only[ho,Option.map_some,Option.getD_some]at h3;simp only[pick,ho]at h;have step:∃v,YieldsIf P ops (Below B w) o v a/\wpQuiet P ops (ace B w) K (pick ops r) (a.put o.dst v):=by
    unfold wpQuiet at h;by_cases hw:Region.wanted o (yielded ops a.tmps)=true
    · rw[if_pos hw]at h;obtain⟨v,hv,hn⟩:=h;refine⟨v, .inl ⟨hw,fun w' hw'=> ?_⟩,hn⟩;have hq:=hv w' ⟨⟨w',hw'⟩,rfl⟩;unfold Oper.quietAt at hq;generalize hr:(execOp a.eval o).run P w'=res at hq
      cases res with
      | ok m w1=>
       obtain⟨x,rfl⟩:=ajB h3 hr;simp only[Oper.quietUpon]at hq;rw[hq.1,hq.2]
      | halt x w1=>simp only[Oper.quietUpon]at hq
    · rw[if_neg hw]at h;exact⟨undef, .inr ⟨by simpa using hw,rfl⟩,h⟩
   obtain⟨v,hy,hn⟩:=step;have ih:=acW hsel hQ B w K n r (l.setIfInBounds i true) (a.put o.dst v) h4 hn hk;have hQ':∀c a w,Q (.panic c) (a.put o.dst v) w->Q (.panic c) a w:=fun c a' w' hh=>by
    cases hd:o.dst with
    | none=>rw[hd]at hh;exact hh
    | some t=>rw[hd]at hh;exact hQ c a' t v w' hh
   have hy':YieldsIf P ops (fun w'=>mv ops i=true\/Below B w w') o v a:=by
    rcases hy with⟨hw,hv⟩ | hy
    · refine .inl ⟨hw,fun w' hw'=> ?_⟩;rcases hw' with hw' | hw'
      · obtain⟨o',x,ho',hx⟩:=as7 hw';obtain rfl:o'=o:=Option.some.inj (ho'.symm.trans ho);have e:=hv w (Below.refl _ _);rw[aoH hx]at e ⊢;injection e with e1 e2;injection e1 with e1;rw[e1]
      · exact hv w' hw'
    · exact .inr hy
   have:=ata (Q:=Q) (S:=Below B w) (T:=T) ho hsel hQ' (h5.imp id fun g=>⟨g.1,fun j hj=>by have:=List.all_eq_true.1 g.2.2 j hj;simpa using this⟩) (n+r.length) l a w (Region.free_spec ho h2) (h5.imp id fun g k hk=>by have:=List.all_eq_true.1 g.2.1 k hk;simpa using this) (by simpa using h1) hy' (.inr (Below.refl _ _)) ih;simpa[Nat.add_assoc]using this
theorem ajC (hsel:Region.noSelect ops=true) (hQ:∀c a t v w,Q (.panic c) (Act.put a (some t) v) w->Q (.panic c) a w) (last:List Nat):
 ∀(p:List (List Nat × Nat)) (l:Array Bool) (B:Nat) (a:Act) (w:World),aiB ops last T l p=true->wpT P ops Q last T p B a w->abU P ops Q (Below B w) T (ads last T p) l a w
 | [],l,B,a,w,hc,h=>by
  simp only[aiB,Bool.and_eq_true]at hc;exact acW hsel hQ B w _ T.length last l a hc.1 h (fun a' ha=>aeS (fun _ h=>h) T _ a' w (fun _ h=>h) hc.2 ha)
 | (rs,i)::more,l,B,a,w,hc,h=>by
  simp only[aiB,Bool.and_eq_true,beq_iff_eq]at hc;obtain⟨h1,⟨h2,h6⟩,h3⟩:=hc;refine acW hsel hQ B w _ (1+ads last T more) rs l a h1 h (fun a' ha=> ?_);rw[Nat.add_comm];refine⟨fun h0=>(by rw[h2]at h0;cases h0),fun j hj=> ?_⟩;rw[h2]at hj;obtain rfl:j=i:=by simpa using hj
  refine wpOp_mono (fun a'' w'' hh=>⟨fun _ _=>hh.1,fun hm=>by simp[hm]at h6,?_⟩) ha;obtain⟨hb,B',hB,hm⟩:=hh;exact aa7 (fun w3 h4=>hb.trans (h4.mono hB)) _ _ _ _ (ajC hsel hQ last more _ B' a'' w'' h3 hm)
theorem aar{id:Nat}{a:Act}{w:World}(B:Nat) (p:List (List Nat × Nat)) (last T:List Nat) (hm:P.follows .mixedOrders=true) (hsel:Region.noSelect ops=true)
 (hc:(aiB ops last T (Array.replicate ops.size false) p&&ads last T p==ops.size)=true) (hQ:∀c a t v w,Q (.panic c) (Act.put a (some t) v) w->Q (.panic c) a w)
 (h:wpT P ops Q last T p B a w.drew):(Code.region id ops true).wp P Q a w:=by
 simp only[Bool.and_eq_true,beq_iff_eq]at hc;have:=ajC hsel hQ last p _ B a w.drew hc.1 h;rw[hc.2]at this;exact wp_region_any hm (ac7 _ _ _ _ this)
theorem tail_cons{rs:List Nat}{i:Nat}{more:List (List Nat × Nat)}{last:List Nat}{B:Nat}{a:Act}{w:World}{l:List Oper}(hl:pick ops rs=l)
 (h:wpQuiet P ops (ace B w) (fun a'=>wpOp P ops Q i (fun a'' w''=>Below B w w''/\∃B',B<=B'/\wpT P ops Q last T more B' a'' w'') a' w) l a):wpT P ops Q last T ((rs,i)::more) B a w:=by
 subst hl;exact h
theorem aaO{last:List Nat}{B:Nat}{a:Act}{w:World}{l t:List Oper}(hl:pick ops last=l) (ht:pick ops T=t)
 (h:wpQuiet P ops (ace B w) (fun a'=>wpList P ops Q t a' w) l a):wpT P ops Q last T [] B a w:=by
 subst hl ht;exact h
theorem aau{i B:Nat}{dst:Option Tmp}{f:FuncId}{args:Array Operand}{tys:Array TypeId}{ty:TypeId}{pos:String}{after:Array Edge}{guard:Option (Nat × Bool)}{a:Act}{w:World}{K:Nat->Act->World->Prop}
 (hf:∀(xs:Array Value) (w:World),(callFunc f xs).run P w= .ok (.enter f xs) w)
 (ho:ops[i]?=some {dst:=dst,op:= .call {callee:= .value (.func f),args:=args,argTypes:=tys},type:=ty,pos:=pos,after:=after,guard:=guard})
 (hw:Region.wanted {dst:=dst,op:= .call {callee:= .value (.func f),args:=args,argTypes:=tys},type:=ty,pos:=pos,after:=after,guard:=guard} (yielded ops a.tmps)=true)
 {vs:Array Value} (hvl:args.toList.map a.eval=vs.toList)
 {R:Value->World->Prop} (hc:Calls P f vs w (fun e w'=>∃v,e= .returned v/\Below B w w'/\R v w')) (B':Nat) (hB:B<=B') (hk:∀v w',Below B w w'->R v w'->K B' (a.put dst v) w'):
 wpOp P ops Q i (fun a'' w''=>Below B w w''/\∃B',B<=B'/\K B' a'' w'') a w:=by
 unfold wpOp;simp only[ho];rw[if_pos hw];refine .inl ?_;have hvs:args.map a.eval=vs:=Array.ext' (by simpa using hvl);subst hvs;unfold Oper.wp;rw[execOp_call_go,hf];simp only[Oper.upon,Array.empty_append,Array.append_empty];refine hc.mono fun e w' hh=> ?_;obtain⟨v,rfl,h1,h2⟩:=hh;exact⟨h1,B',hB,hk v w' h1 h2⟩
theorem abD{i B:Nat}{dst:Option Tmp}{f:FuncId}{args:Array Operand}{tys:Array TypeId}{ty:TypeId}{pos:String}{after:Array Edge}{guard:Option (Nat × Bool)}{a:Act}{w:World}{K:Nat->Act->World->Prop}
 (hf:∀(xs:Array Value) (w:World),(callFunc f xs).run P w= .ok (.enter f xs) w)
 (ho:ops[i]?=some {dst:=dst,op:= .call {callee:= .value (.func f),args:=args,argTypes:=tys},type:=ty,pos:=pos,after:=after,guard:=guard})
 (hw:Region.wanted {dst:=dst,op:= .call {callee:= .value (.func f),args:=args,argTypes:=tys},type:=ty,pos:=pos,after:=after,guard:=guard} (yielded ops a.tmps)=true)
 {vs:Array Value} (hvl:args.toList.map a.eval=vs.toList)
 {R:Value->World->Prop} (hc:Calls P f vs w (fun e w'=>∃v,e= .returned v/\Below B w w'/\R v w')) (hk:∀v w',Below B w w'->R v w'->∃B',B<=B'/\K B' (a.put dst v) w'):
 wpOp P ops Q i (fun a'' w''=>Below B w w''/\∃B',B<=B'/\K B' a'' w'') a w:=by
 unfold wpOp;simp only[ho];rw[if_pos hw];refine .inl ?_;have hvs:args.map a.eval=vs:=Array.ext' (by simpa using hvl);subst hvs;unfold Oper.wp;rw[execOp_call_go,hf];simp only[Oper.upon,Array.empty_append,Array.append_empty];refine hc.mono fun e w' hh=> ?_;obtain⟨v,rfl,h1,h2⟩:=hh;exact⟨h1,hk v w' h1 h2⟩
theorem acD{o:Oper}{a:Act}{w w1:World}{v:Value}{t:TypeId}{len:Nat}{parts:Array (Nat × Operand)}{ps:Array (Nat × Value)}(ho:o.op= .buildSlice t len parts)
 (hp:parts.toList.map (fun p=>(p.1,a.eval p.2))=ps.toList) (hr:(Instr.buildSlice t len ps).run P w= .ok v w1):(execOp a.eval o).run P w= .ok (.value v) w1:=by
 have e:parts.map (fun(i,x)=>(i,a.eval x))=ps:=Array.ext' (by simpa using hp);unfold execOp;simp only[ho];rw[e,Sem.run_bind,hr];rfl
theorem ab3{i B:Nat}{o:Oper}{a:Act}{w w1:World}{v:Value}{K:Act->World->Prop}(d:Option Tmp) (ho:ops[i]?=some o) (hd:o.dst=d) (hw:Region.wanted o (yielded ops a.tmps)=true)
 (hr:(execOp a.eval o).run P w= .ok (.value v) w1) (hb:Below B w w1) (hk:K (a.put d v) w1):wpOp P ops Q i (fun a'' w''=>Below B w w''/\K a'' w'') a w:=by
 subst hd;unfold wpOp;simp only[ho];rw[if_pos hw];refine .inl ?_;unfold Oper.wp;rw[hr];exact⟨hb,hk⟩
theorem aml{i B:Nat}{o:Oper}{a:Act}{w w1:World}{v:Value}{K:Act->World->Prop}(ho:ops[i]?=some o) (hw:Region.wanted o (yielded ops a.tmps)=true)
 (hr:(execOp a.eval o).run P w= .ok (.value v) w1) (hb:Below B w w1) (hk:K (a.put o.dst v) w1):wpOp P ops Q i (fun a'' w''=>Below B w w''/\K a'' w'') a w:=by
 unfold wpOp;simp only[ho];rw[if_pos hw];refine .inl ?_;unfold Oper.wp;rw[hr];exact⟨hb,hk⟩
end
end Go.Proofs.YtncadccbepjekaaGreatDoor
