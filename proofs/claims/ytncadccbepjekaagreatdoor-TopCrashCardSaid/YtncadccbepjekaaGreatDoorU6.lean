/- Texts of mine, joined. -/
import Derived.Laws.AppendOwnNone
import Derived.Test.YtncadccbepjekaaGreatDoorU1
namespace Go.Proofs.YtncadccbepjekaaGreatDoor
open Go.RowKit
inductive PT where
 | fin (last:List Nat)
 | one (rs:List Nat) (i:Nat) (t:PT)
 | two (rs:List Nat) (i1:Nat) (t1:PT) (i2:Nat) (t2:PT)
 | three (rs:List Nat) (i1:Nat) (t1:PT) (i2:Nat) (t2:PT) (i3:Nat) (t3:PT)
def PT.ok (ops:Array Oper) (T:List Nat):PT->Array Bool->Bool
 | .fin last,l=>aoB ops T l last&&atb ops (ajA l last) T
 | .one rs i t,l=>aoB ops T l rs&&(Region.ready .any ops (ajA l rs)== [i]&& !mv ops i&&t.ok ops T ((ajA l rs).setIfInBounds i true))
 | .two rs i1 t1 i2 t2,l=>aoB ops T l rs&&(Region.ready .any ops (ajA l rs)== [i1,i2]&&(!mv ops i1&& !mv ops i2)&&(t1.ok ops T ((ajA l rs).setIfInBounds i1 true)&&t2.ok ops T ((ajA l rs).setIfInBounds i2 true)))
 | .three rs i1 t1 i2 t2 i3 t3,l=>aoB ops T l rs&&(Region.ready .any ops (ajA l rs)== [i1,i2,i3]&&(!mv ops i1&&(!mv ops i2&& !mv ops i3))&&(t1.ok ops T ((ajA l rs).setIfInBounds i1 true)&&(t2.ok ops T ((ajA l rs).setIfInBounds i2 true)&&t3.ok ops T ((ajA l rs).setIfInBounds i3 true))))
def PT.len (T:List Nat):PT->Nat
 | .fin last=>T.length+last.length
 | .one rs _ t=>1+t.len T+rs.length
 | .two rs _ t1 _ _=>1+t1.len T+rs.length
 | .three rs _ t1 _ _ _ _=>1+t1.len T+rs.length
def PT.even (T:List Nat):PT->Bool
 | .fin _=>true
 | .one _ _ t=>t.even T
 | .two _ _ t1 _ t2=>t1.len T==t2.len T&&(t1.even T&&t2.even T)
 | .three _ _ t1 _ t2 _ t3=>t1.len T==t2.len T&&(t1.len T==t3.len T&&(t1.even T&&(t2.even T&&t3.even T)))
def PT.wp (P:Program) (ops:Array Oper) (Q:Exit->Act->World->Prop) (T:List Nat):PT->Nat->Act->World->Prop
 | .fin last,B,a,w=>wpQuiet P ops (ace B w) (fun a'=>wpList P ops Q (pick ops T) a' w) (pick ops last) a
 | .one rs i t,B,a,w=>wpQuiet P ops (ace B w) (fun a'=>wpOp P ops Q i (fun a'' w''=>Below B w w''/\∃B',B<=B'/\t.wp P ops Q T B' a'' w'') a' w) (pick ops rs) a
 | .two rs i1 t1 i2 t2,B,a,w=>wpQuiet P ops (ace B w) (fun a'=>wpOp P ops Q i1 (fun a'' w''=>Below B w w''/\∃B',B<=B'/\t1.wp P ops Q T B' a'' w'') a' w/\wpOp P ops Q i2 (fun a'' w''=>Below B w w''/\∃B',B<=B'/\t2.wp P ops Q T B' a'' w'') a' w) (pick ops rs) a
 | .three rs i1 t1 i2 t2 i3 t3,B,a,w=>wpQuiet P ops (ace B w) (fun a'=>wpOp P ops Q i1 (fun a'' w''=>Below B w w''/\∃B',B<=B'/\t1.wp P ops Q T B' a'' w'') a' w/\wpOp P ops Q i2 (fun a'' w''=>Below B w w''/\∃B',B<=B'/\t2.wp P ops Q T B' a'' w'') a' w/\wpOp P ops Q i3 (fun a'' w''=>Below B w w''/\∃B',B<=B'/\t3.wp P ops Q T B' a'' w'') a' w) (pick ops rs) a
section
variable {P:Program} {ops:Array Oper} {Q:Exit->Act->World->Prop} {T:List Nat}
theorem PT.any (hsel:Region.noSelect ops=true) (hQ:∀c a t v w,Q (.panic c) (Act.put a (some t) v) w->Q (.panic c) a w):
 ∀(p:PT) (l:Array Bool) (B:Nat) (a:Act) (w:World),p.even T=true->p.ok ops T l=true->p.wp P ops Q T B a w->abU P ops Q (Below B w) T (p.len T) l a w
 | .fin last,l,B,a,w,_,hc,h=>by
  simp only[PT.ok,Bool.and_eq_true]at hc;exact acW hsel hQ B w _ T.length last l a hc.1 h (fun a' ha=>aeS (fun _ h=>h) T _ a' w (fun _ h=>h) hc.2 ha)
 | .one rs i t,l,B,a,w,he,hc,h=>by
  simp only[PT.ok,Bool.and_eq_true,beq_iff_eq]at hc;simp only[PT.even]at he;obtain⟨h1,⟨h2,h6⟩,h3⟩:=hc;refine acW hsel hQ B w _ (1+t.len T) rs l a h1 h (fun a' ha=> ?_);rw[Nat.add_comm];refine⟨fun h0=>(by rw[h2]at h0;cases h0),fun j hj=> ?_⟩;rw[h2]at hj;obtain rfl:j=i:=by simpa using hj
  refine wpOp_mono (fun a'' w'' hh=>⟨fun _ _=>hh.1,fun hm=>by simp[hm]at h6,?_⟩) ha;obtain⟨hb,B',hB,hm⟩:=hh;exact aa7 (fun w3 h4=>hb.trans (h4.mono hB)) _ _ _ _ (PT.any hsel hQ t _ B' a'' w'' he h3 hm)
 | .two rs i1 t1 i2 t2,l,B,a,w,he,hc,h=>by
  simp only[PT.ok,Bool.and_eq_true,beq_iff_eq]at hc;simp only[PT.even,Bool.and_eq_true,beq_iff_eq]at he;obtain⟨h1,⟨h2,m1,m2⟩,k1,k2⟩:=hc;obtain⟨e0,e1,e2⟩:=he;refine acW hsel hQ B w _ (1+t1.len T) rs l a h1 h (fun a' ha=> ?_);rw[Nat.add_comm];refine⟨fun h0=>(by rw[h2]at h0;cases h0),fun j hj=> ?_⟩;rw[h2]at hj;rcases List.mem_cons.1 hj with rfl | hj
  · refine wpOp_mono (fun a'' w'' hh=>⟨fun _ _=>hh.1,fun hm=>by simp[hm]at m1,?_⟩) ha.1;obtain⟨hb,B',hB,hm⟩:=hh;exact aa7 (fun w3 h4=>hb.trans (h4.mono hB)) _ _ _ _ (PT.any hsel hQ t1 _ B' a'' w'' e1 k1 hm)
  · obtain rfl:j=i2:=by simpa using hj
    rw[e0];refine wpOp_mono (fun a'' w'' hh=>⟨fun _ _=>hh.1,fun hm=>by simp[hm]at m2,?_⟩) ha.2;obtain⟨hb,B',hB,hm⟩:=hh;exact aa7 (fun w3 h4=>hb.trans (h4.mono hB)) _ _ _ _ (PT.any hsel hQ t2 _ B' a'' w'' e2 k2 hm)
 | .three rs i1 t1 i2 t2 i3 t3,l,B,a,w,he,hc,h=>by
  simp only[PT.ok,Bool.and_eq_true,beq_iff_eq]at hc;simp only[PT.even,Bool.and_eq_true,beq_iff_eq]at he;obtain⟨h1,⟨h2,m1,m2,m3⟩,k1,k2,k3⟩:=hc;obtain⟨e0,e3,e1,e2,e4⟩:=he;refine acW hsel hQ B w _ (1+t1.len T) rs l a h1 h (fun a' ha=> ?_);rw[Nat.add_comm];refine⟨fun h0=>(by rw[h2]at h0;cases h0),fun j hj=> ?_⟩;rw[h2]at hj;rcases List.mem_cons.1 hj with rfl | hj
  · refine wpOp_mono (fun a'' w'' hh=>⟨fun _ _=>hh.1,fun hm=>by simp[hm]at m1,?_⟩) ha.1;obtain⟨hb,B',hB,hm⟩:=hh;exact aa7 (fun w3 h4=>hb.trans (h4.mono hB)) _ _ _ _ (PT.any hsel hQ t1 _ B' a'' w'' e1 k1 hm)
  · rcases List.mem_cons.1 hj with rfl | hj
    · rw[e0];refine wpOp_mono (fun a'' w'' hh=>⟨fun _ _=>hh.1,fun hm=>by simp[hm]at m2,?_⟩) ha.2.1;obtain⟨hb,B',hB,hm⟩:=hh;exact aa7 (fun w3 h4=>hb.trans (h4.mono hB)) _ _ _ _ (PT.any hsel hQ t2 _ B' a'' w'' e2 k2 hm)
    · obtain rfl:j=i3:=by simpa using hj
      rw[e3];refine wpOp_mono (fun a'' w'' hh=>⟨fun _ _=>hh.1,fun hm=>by simp[hm]at m3,?_⟩) ha.2.2;obtain⟨hb,B',hB,hm⟩:=hh;exact aa7 (fun w3 h4=>hb.trans (h4.mono hB)) _ _ _ _ (PT.any hsel hQ t3 _ B' a'' w'' e4 k3 hm)
theorem ac4{id:Nat}{a:Act}{w:World}(B:Nat) (p:PT) (T:List Nat) (hm:P.follows .mixedOrders=true) (hsel:Region.noSelect ops=true)
 (hc:(p.ok ops T (Array.replicate ops.size false)&&(p.even T&&p.len T==ops.size))=true) (hQ:∀c a t v w,Q (.panic c) (Act.put a (some t) v) w->Q (.panic c) a w)
 (h:p.wp P ops Q T B a w.drew):(Code.region id ops true).wp P Q a w:=by
 simp only[Bool.and_eq_true,beq_iff_eq]at hc;obtain⟨h1,h2,h3⟩:=hc;have:=PT.any hsel hQ p _ B a w.drew h2 h1 h;rw[h3]at this;exact wp_region_any hm (ac7 _ _ _ _ this)
theorem aeT{rs:List Nat}{i:Nat}{t:PT}{B:Nat}{a:Act}{w:World}{l:List Oper}(hl:pick ops rs=l)
 (h:wpQuiet P ops (ace B w) (fun a'=>wpOp P ops Q i (fun a'' w''=>Below B w w''/\∃B',B<=B'/\t.wp P ops Q T B' a'' w'') a' w) l a):(PT.one rs i t).wp P ops Q T B a w:=by
 subst hl;exact h
theorem aeU{rs:List Nat}{i1 i2:Nat}{t1 t2:PT}{B:Nat}{a:Act}{w:World}{l:List Oper}(hl:pick ops rs=l)
 (h:wpQuiet P ops (ace B w) (fun a'=>wpOp P ops Q i1 (fun a'' w''=>Below B w w''/\∃B',B<=B'/\t1.wp P ops Q T B' a'' w'') a' w/\wpOp P ops Q i2 (fun a'' w''=>Below B w w''/\∃B',B<=B'/\t2.wp P ops Q T B' a'' w'') a' w) l a):(PT.two rs i1 t1 i2 t2).wp P ops Q T B a w:=by
 subst hl;exact h
theorem anp{rs:List Nat}{i1 i2 i3:Nat}{t1 t2 t3:PT}{B:Nat}{a:Act}{w:World}{l:List Oper}(hl:pick ops rs=l)
 (h:wpQuiet P ops (ace B w) (fun a'=>wpOp P ops Q i1 (fun a'' w''=>Below B w w''/\∃B',B<=B'/\t1.wp P ops Q T B' a'' w'') a' w/\wpOp P ops Q i2 (fun a'' w''=>Below B w w''/\∃B',B<=B'/\t2.wp P ops Q T B' a'' w'') a' w/\wpOp P ops Q i3 (fun a'' w''=>Below B w w''/\∃B',B<=B'/\t3.wp P ops Q T B' a'' w'') a' w) l a):(PT.three rs i1 t1 i2 t2 i3 t3).wp P ops Q T B a w:=by
 subst hl;exact h
theorem aeV{last:List Nat}{B:Nat}{a:Act}{w:World}{l t:List Oper}(hl:pick ops last=l) (ht:pick ops T=t)
 (h:wpQuiet P ops (ace B w) (fun a'=>wpList P ops Q t a' w) l a):(PT.fin last).wp P ops Q T B a w:=by
 subst hl ht;exact h
def Src (w:World) (A:Option Addr) (m c:Nat) (news:List Value):Prop:=(A=none->m=0/\c=0/\news= [])/\∀ad,A=some ad->∀j u,news[j]?=some u->w.cell? (ad.add j)=some u
theorem avt{i B:Nat}{o:Oper}{a:Act}{w:World}{K:Nat->Act->World->Prop}(d:Option Tmp) (s x:Operand) (t e:TypeId) (hoi:ops[i]?=some o) (hd:o.dst=d) (hw:Region.wanted o (yielded ops a.tmps)=true)
 (ho:o.op= .call {callee:= .builtin .append,args:= #[s,x],argTypes:= #[t,t]}) (ht:P.underlying t=some (.slice e)) (z:Value) (size bytes:Nat) (hinfo:(P.info? e).map (fun i=>(i.zero,i.size,i.bytes))=some (some z,size,bytes)) (hzs:z.cells.size=size) (hsz:0<size)
 (base:Nat) (v:Value) (n:Nat) (xs:List Value) (hs:a.eval s=v) (hown:w.ownsRow base e size v n xs) (hbB:B<=base) (hB:base<=w.heap.size)
 (A:Option Addr) (m c:Nat) (news:List Value) (hx:a.eval x= .slice A m c) (hl:news.length=m*size) (hr:Src w A m c news) (h1:∀u∈news,u.oneCell'=true) (h63:n+m<=1000000) (hby:bytes<=1000)
 (h:∀v' w',w'.ownsRow base e size v' (n+m) (xs++news)->Below B w w'->w.grownBy w' v.ownBlock->∃B',B<=B'/\K B' (a.put d v') w'):wpOp P ops Q i (fun a'' w''=>Below B w w''/\∃B',B<=B'/\K B' a'' w'') a w:=by
 subst hd;obtain⟨i0,hi,hz0,hz1,hz2⟩:=info_parts hinfo;unfold wpOp;simp only[hoi];rw[if_pos hw];rcases A with _ | ad
 · obtain⟨rfl,rfl,rfl⟩:=hr.1 rfl;have hrun:=run_append_owned_none (P:=P) (w:=w) base t o.type e i0 size ht hi v n xs hown;left;unfold Oper.wp;simp[execOp,ho,resolve,invoke,builtin,hs,hx,hrun,Result.andThen];exact⟨Below.refl _ _,h v w (by simpa using hown) (Below.refl _ _) (World.grownBy.refl w _)⟩
 · refine .inl (wp_append_own w s x t ho base e i0 z size bytes ht hi hz0 hz1 hz2 hzs hsz v n _ hs hown ad m c news hx hl (hr.2 ad rfl) h1 (by unfold maxLen;omega) ?_ hB ?_)
   · exact Nat.le_trans (Nat.mul_le_mul h63 hby) (by omega)
   · intro v' w' k1 k2 _;have hb':Below B w w':=(Below.refl _ _).grown k2 (Nat.le_trans hbB hB) (fun k hk=>Nat.le_trans hbB (hown.lt k hk).1);exact⟨hb',h v' w' k1 hb' k2⟩
end
def abg (d:Nat->Tmp) (f:Nat->Value):List Nat->Act->Act
 | [],a=>a
 | i::r,a=>(abg d f r a).put (some (d i)) (f i)
section
variable {d:Nat->Tmp} {f f':Nat->Value}
theorem aej:∀(l:List Nat) (a:Act),(abg d f l a).tmps.size=a.tmps.size
 | [],_=>rfl
 | i::r,a=>by
  show((abg d f r a).tmps.setIfInBounds _ _).size=_;rw[Array.size_setIfInBounds];exact aej r a
theorem adZ:∀(l:List Nat) (a:Act),(abg d f l a).defers=a.defers
 | [],_=>rfl
 | _::r,a=>adZ r a
theorem ak9{l:List Nat}(h:∀j∈l,f' j=f j) (a:Act):abg d f' l a=abg d f l a:=by
 induction l with
 | nil=>rfl
 | cons i r ih=>
  unfold abg;rw[ih fun j hj=>h j (List.mem_cons_of_mem _ hj),h i (List.mem_cons_self ..)]
theorem af8{t:Tmp}:∀{l:List Nat}(_:∀i∈l,d i≠t) (a:Act),(abg d f l a).tmps[t]?=a.tmps[t]?
 | [],_,_=>rfl
 | i::r,h,a=>by
  show((abg d f r a).tmps.setIfInBounds _ _)[t]?=_;rw[Array.getElem?_setIfInBounds_ne (h i (List.mem_cons_self ..))];exact af8 (fun j hj=>h j (List.mem_cons_of_mem _ hj)) a
theorem af9{I:List Nat}(hd:∀i∈I,∀j∈I,d i=d j->i=j){i:Nat}:∀{l:List Nat}(_:∀j∈l,j∈I) (_:i∈l) (a:Act) (_:d i<a.tmps.size),(abg d f l a).tmps[d i]?=some (f i)
 | k::r,hl,hi,a,hs=>by
  show((abg d f r a).tmps.setIfInBounds _ _)[d i]?=_;by_cases e:d k=d i
  · have:k=i:=hd k (hl k (List.mem_cons_self ..)) i (hl i hi) e;subst this;rw[Array.getElem?_setIfInBounds_self_of_lt (by rw[aej];exact hs)]
  · rw[Array.getElem?_setIfInBounds_ne e];refine af9 hd (fun j hj=>hl j (List.mem_cons_of_mem _ hj)) ?_ a hs;rcases List.mem_cons.1 hi with h | h
    · exact absurd (by rw[h]) e
    · exact h
theorem ahR{I l:List Nat}(hd:∀i∈I,∀j∈I,d i=d j->i=j) (hl:∀j∈l,j∈I){i:Nat}(hi:i∈l) (a:Act) (hs:d i<a.tmps.size):(abg d f l a).eval (.tmp (d i))=f i:=by
 show(abg d f l a).tmps.getD (d i) undef=_;rw[Array.getD_eq_getD_getElem?,af9 hd hl hi a hs];rfl
theorem ajK{l:List Nat}{t:Tmp}(h:∀i∈l,d i≠t) (a:Act):(abg d f l a).eval (.tmp t)=a.eval (.tmp t):=by
 show(abg d f l a).tmps.getD t undef=a.tmps.getD t undef;rw[Array.getD_eq_getD_getElem?,Array.getD_eq_getD_getElem?,af8 h]
theorem anq{I l:List Nat}(hd:∀i∈I,∀j∈I,d i=d j->i=j) (h1:∀j∈l,j∈I) (h2:∀j∈I,j∈l) (a:Act):abg d f l a=abg d f I a:=by
 have e:(abg d f l a).tmps=(abg d f I a).tmps:=by
  apply Array.ext_getElem?;intro t;by_cases h:∃i∈I,d i=t
  · obtain⟨i,hi,rfl⟩:=h;by_cases hs:d i<a.tmps.size
    · rw[af9 hd h1 (h2 i hi) a hs,af9 hd (fun _ h=>h) hi a hs]
    · rw[Array.getElem?_eq_none (by rw[aej];exact Nat.not_lt.1 hs),Array.getElem?_eq_none (by rw[aej];exact Nat.not_lt.1 hs)]
  · have hn:∀i∈I,d i≠t:=fun i hi e=>h ⟨i,hi,e⟩;rw[af8 (fun i hi=>hn i (h1 i hi)),af8 hn]
 have e2:(abg d f l a).defers=(abg d f I a).defers:=by rw[adZ,adZ]
 generalize abg d f l a=x at e e2 ⊢;generalize abg d f I a=y at e e2 ⊢;obtain⟨x1,x2⟩:=x;obtain⟨y1,y2⟩:=y
 cases e;cases e2;rfl
end
def PT.inv (I:List Nat) (dp:Nat->List Nat) (last:List Nat):List Nat->PT->Bool
 | dn, .fin l=>l==last&&I.all fun i=>dn.contains i
 | dn, .one rs i t=>rs.isEmpty&&(I.contains i&&(!dn.contains i&&((dp i).all (fun j=>dn.contains j)&&t.inv I dp last (i::dn))))
 | dn, .two rs i1 t1 i2 t2=>rs.isEmpty&&((I.contains i1&&(!dn.contains i1&&((dp i1).all (fun j=>dn.contains j)&&t1.inv I dp last (i1::dn))))&&
  (I.contains i2&&(!dn.contains i2&&((dp i2).all (fun j=>dn.contains j)&&t2.inv I dp last (i2::dn)))))
 | dn, .three rs i1 t1 i2 t2 i3 t3=>rs.isEmpty&&((I.contains i1&&(!dn.contains i1&&((dp i1).all (fun j=>dn.contains j)&&t1.inv I dp last (i1::dn))))&&
  ((I.contains i2&&(!dn.contains i2&&((dp i2).all (fun j=>dn.contains j)&&t2.inv I dp last (i2::dn))))&&
  (I.contains i3&&(!dn.contains i3&&((dp i3).all (fun j=>dn.contains j)&&t3.inv I dp last (i3::dn))))))
section
variable {P:Program} {ops:Array Oper} {Q:Exit->Act->World->Prop} {T I last:List Nat} {d:Nat->Tmp} {dp:Nat->List Nat} {Inv:(Nat->Prop)->(Nat->Value)->World->Prop} {B:Nat} {a0:Act} {w0:World}
def ark (P:Program) (ops:Array Oper) (Q:Exit->Act->World->Prop) (I:List Nat) (d:Nat->Tmp) (dp:Nat->List Nat) (Inv:(Nat->Prop)->(Nat->Value)->World->Prop) (B:Nat) (a0:Act) (w0:World) (i:Nat):Prop:=
 ∀(dn:List Nat) (f:Nat->Value) (w:World),i∉dn->(∀j∈dn,j∈I)->(∀j∈dp i,j∈dn)->Inv (· ∈dn) f w->Below B w0 w->
  wpOp P ops Q i (fun a w'=>Below B w w'/\∃v,a=(abg d f dn a0).put (some (d i)) v/\∀f',(∀j∈dn,f' j=f j)->f' i=v->Inv (fun j=>j=i\/j∈dn) f' w') (abg d f dn a0) w
theorem ac9{K:Act->World->Prop}{i:Nat}(hs:ark P ops Q I d dp Inv B a0 w0 i){dn:List Nat}{f:Nat->Value}{w:World}(hni:i∉dn) (hdI:∀j∈dn,j∈I) (hdp:∀j∈dp i,j∈dn) (hI:Inv (· ∈dn) f w) (hb:Below B w0 w)
 (hk:∀f' w',Inv (· ∈i::dn) f' w'->Below B w0 w'->K (abg d f' (i::dn) a0) w'):
 wpOp P ops Q i (fun a'' w''=>Below B w w''/\∃B',B<=B'/\(B'=B->K a'' w'')/\B'=B) (abg d f dn a0) w:=by
 refine wpOp_mono (fun a w' h=> ?_) (hs dn f w hni hdI hdp hI hb);obtain⟨hb',v,rfl,hv⟩:=h;refine⟨hb',B,Nat.le_refl _,fun _=> ?_,rfl⟩;have e1:∀j∈dn,(fun j=>if j=i then v else f j) j=f j:=fun j hj=>if_neg fun e:j=i=>hni (e▸hj);have e2:(fun j=>if j=i then v else f j) i=v:=if_pos rfl;have h3:=hk (fun j=>if j=i then v else f j) w' (by
  have:=hv _ e1 e2;simpa only[List.mem_cons]using this) (hb.trans hb')
 have e3:abg d (fun j=>if j=i then v else f j) (i::dn) a0=(abg d f dn a0).put (some (d i)) v:=by
  show(abg d _ dn a0).put (some (d i)) (if i=i then v else f i)=_;rw[ak9 e1,if_pos rfl]
 rw[e3]at h3;exact h3
theorem PT.any_inv (hd:∀i∈I,∀j∈I,d i=d j->i=j) (hs:∀i∈I,ark P ops Q I d dp Inv B a0 w0 i)
 (hf:∀f w,Inv (· ∈I) f w->Below B w0 w->(PT.fin last).wp P ops Q T B (abg d f I a0) w):
 ∀(t:PT) (dn:List Nat) (f:Nat->Value) (w:World),t.inv I dp last dn=true->(∀j∈dn,j∈I)->Inv (· ∈dn) f w->Below B w0 w->t.wp P ops Q T B (abg d f dn a0) w
 | .fin l,dn,f,w,hc,hdI,hI,hb=>by
  simp only[PT.inv,Bool.and_eq_true,beq_iff_eq,List.all_eq_true,List.contains_iff_mem]at hc;obtain⟨rfl,hall⟩:=hc;rw[anq hd hdI hall];refine hf f w ?_ hb;have:(fun j=>j∈I)=fun j=>j∈dn:=funext fun j=>propext ⟨hall j,hdI j⟩;rw[this];exact hI
 | .one rs i t,dn,f,w,hc,hdI,hI,hb=>by
  simp only[PT.inv,Bool.and_eq_true,List.isEmpty_iff,Bool.not_eq_true',List.all_eq_true,List.contains_iff_mem]at hc;obtain⟨rfl,hi,hn,hdp,ht⟩:=hc;have hn:i∉dn:=fun h=>by rw[<-List.contains_iff_mem]at h;rw[h]at hn;cases hn
  refine aeT (l:= []) rfl (wpQuiet_nil ?_);refine wpOp_mono (fun a'' w'' h=>⟨h.1,?_⟩) (ac9 (K:=fun a'' w''=>t.wp P ops Q T B a'' w'') (hs i hi) hn hdI hdp hI hb fun f' w' h1 h2=>PT.any_inv hd hs hf t (i::dn) f' w' ht (fun j hj=>(List.mem_cons.1 hj).elim (fun e=>e▸hi) (hdI j)) h1 h2);obtain⟨_,B',hB,hk,e⟩:=h;subst e;exact⟨_,hB,hk rfl⟩
 | .two rs i1 t1 i2 t2,dn,f,w,hc,hdI,hI,hb=>by
  simp only[PT.inv,Bool.and_eq_true,List.isEmpty_iff,Bool.not_eq_true',List.all_eq_true,List.contains_iff_mem]at hc;obtain⟨rfl,⟨hi,hn,hdp,ht⟩,hi2,hn2,hdp2,ht2⟩:=hc;have hn:i1∉dn:=fun h=>by rw[<-List.contains_iff_mem]at h;rw[h]at hn;cases hn
  have hn2:i2∉dn:=fun h=>by rw[<-List.contains_iff_mem]at h;rw[h]at hn2;cases hn2
  refine aeU (l:= []) rfl (wpQuiet_nil ⟨?_,?_⟩)
  · refine wpOp_mono (fun a'' w'' h=>⟨h.1,?_⟩) (ac9 (K:=fun a'' w''=>t1.wp P ops Q T B a'' w'') (hs i1 hi) hn hdI hdp hI hb fun f' w' h1 h2=>PT.any_inv hd hs hf t1 (i1::dn) f' w' ht (fun j hj=>(List.mem_cons.1 hj).elim (fun e=>e▸hi) (hdI j)) h1 h2);obtain⟨_,B',hB,hk,e⟩:=h;subst e;exact⟨_,hB,hk rfl⟩
  · refine wpOp_mono (fun a'' w'' h=>⟨h.1,?_⟩) (ac9 (K:=fun a'' w''=>t2.wp P ops Q T B a'' w'') (hs i2 hi2) hn2 hdI hdp2 hI hb fun f' w' h1 h2=>PT.any_inv hd hs hf t2 (i2::dn) f' w' ht2 (fun j hj=>(List.mem_cons.1 hj).elim (fun e=>e▸hi2) (hdI j)) h1 h2);obtain⟨_,B',hB,hk,e⟩:=h;subst e;exact⟨_,hB,hk rfl⟩
 | .three rs i1 t1 i2 t2 i3 t3,dn,f,w,hc,hdI,hI,hb=>by
  simp only[PT.inv,Bool.and_eq_true,List.isEmpty_iff,Bool.not_eq_true',List.all_eq_true,List.contains_iff_mem]at hc;obtain⟨rfl,⟨hi,hn,hdp,ht⟩,⟨hi2,hn2,hdp2,ht2⟩,hi3,hn3,hdp3,ht3⟩:=hc;have hn:i1∉dn:=fun h=>by rw[<-List.contains_iff_mem]at h;rw[h]at hn;cases hn
  have hn2:i2∉dn:=fun h=>by rw[<-List.contains_iff_mem]at h;rw[h]at hn2;cases hn2
  have hn3:i3∉dn:=fun h=>by rw[<-List.contains_iff_mem]at h;rw[h]at hn3;cases hn3
  refine anp (l:= []) rfl (wpQuiet_nil ⟨?_,?_,?_⟩)
  · refine wpOp_mono (fun a'' w'' h=>⟨h.1,?_⟩) (ac9 (K:=fun a'' w''=>t1.wp P ops Q T B a'' w'') (hs i1 hi) hn hdI hdp hI hb fun f' w' h1 h2=>PT.any_inv hd hs hf t1 (i1::dn) f' w' ht (fun j hj=>(List.mem_cons.1 hj).elim (fun e=>e▸hi) (hdI j)) h1 h2);obtain⟨_,B',hB,hk,e⟩:=h;subst e;exact⟨_,hB,hk rfl⟩
  · refine wpOp_mono (fun a'' w'' h=>⟨h.1,?_⟩) (ac9 (K:=fun a'' w''=>t2.wp P ops Q T B a'' w'') (hs i2 hi2) hn2 hdI hdp2 hI hb fun f' w' h1 h2=>PT.any_inv hd hs hf t2 (i2::dn) f' w' ht2 (fun j hj=>(List.mem_cons.1 hj).elim (fun e=>e▸hi2) (hdI j)) h1 h2);obtain⟨_,B',hB,hk,e⟩:=h;subst e;exact⟨_,hB,hk rfl⟩
  · refine wpOp_mono (fun a'' w'' h=>⟨h.1,?_⟩) (ac9 (K:=fun a'' w''=>t3.wp P ops Q T B a'' w'') (hs i3 hi3) hn3 hdI hdp3 hI hb fun f' w' h1 h2=>PT.any_inv hd hs hf t3 (i3::dn) f' w' ht3 (fun j hj=>(List.mem_cons.1 hj).elim (fun e=>e▸hi3) (hdI j)) h1 h2);obtain⟨_,B',hB,hk,e⟩:=h;subst e;exact⟨_,hB,hk rfl⟩
theorem arl{i:Nat}(h:∀(dn:List Nat) (f:Nat->Value) (w:World),i∉dn->(∀j∈dn,j∈I)->(∀j∈dp i,j∈dn)->Inv (· ∈dn) f w->Below B w0 w->
 wpOp P ops Q i (fun a'' w''=>Below B w w''/\∃B',B<=B'/\(fun(_:Nat) a w'=>∃v,a=(abg d f dn a0).put (some (d i)) v/\∀f',(∀j∈dn,f' j=f j)->f' i=v->Inv (fun j=>j=i\/j∈dn) f' w') B' a'' w'') (abg d f dn a0) w):ark P ops Q I d dp Inv B a0 w0 i:=
 fun dn f w h1 h2 h3 h4 h5=>wpOp_mono (fun _ _ h=>⟨h.1,h.2.choose_spec.2⟩) (h dn f w h1 h2 h3 h4 h5)
theorem ams{R:Nat->(Nat->Prop)->Value->World->Prop}{i:Nat}(h:∀(dn:List Nat) (f:Nat->Value) (w:World),i∉dn->(∀j∈dn,j∈I)->(∀j∈dp i,j∈dn)->(∀j∈dn,R j (· ∈dn) (f j) w)->Below B w0 w->
 wpOp P ops Q i (fun a'' w''=>Below B w w''/\∃B',B<=B'/\(fun(_:Nat) a w'=>∃v,a=(abg d f dn a0).put (some (d i)) v/\R i (fun j=>j=i\/j∈dn) v w'/\∀j∈dn,R j (fun j=>j=i\/j∈dn) (f j) w') B' a'' w'') (abg d f dn a0) w):
 ark P ops Q I d dp (fun D f w=>∀j,D j->R j D (f j) w) B a0 w0 i:=
 arl fun dn f w h1 h2 h3 h4 h5=>wpOp_mono (fun a w' h=>by
  obtain⟨hb,B',hB,v,e,r1,r2⟩:=h;refine⟨hb,B',hB,v,e,fun f' e1 e2 j hj=> ?_⟩;rcases hj with rfl | hj
  · rw[e2];exact r1
  · rw[e1 j hj];exact r2 j hj) (h dn f w h1 h2 h3 h4 h5)
theorem amt{i1 i2:Nat}{t1 t2:PT}{a:Act}{w:World}(h:(PT.two [] i1 t1 i2 t2).wp P ops Q T B a w):
 wpOp P ops Q i1 (fun a'' w''=>Below B w w''/\∃B',B<=B'/\t1.wp P ops Q T B' a'' w'') a w/\wpOp P ops Q i2 (fun a'' w''=>Below B w w''/\∃B',B<=B'/\t2.wp P ops Q T B' a'' w'') a w:=h
end
end Go.Proofs.YtncadccbepjekaaGreatDoor
