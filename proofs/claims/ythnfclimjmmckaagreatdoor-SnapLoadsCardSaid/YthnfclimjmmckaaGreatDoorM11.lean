/- Texts of mine, joined. -/
import Derived.RegionTactic
import Derived.ChangeAlike
import Derived.BigRegion
import Derived.Test.YthnfclimjmmckaaGreatDoorM10
set_option maxRecDepth 100000
set_option maxHeartbeats 8000000
namespace Go.Proofs.YthnfclimjmmckaaGreatDoor
open Go.RowKit
def ag1 (s:Dst):Prop:=s.off=false/\s.left<0
section
variable {s:Dst}
theorem af9 (h:ag1 s) (p:Nat) (d:List UInt8):(dwr s p d).1=0/\ag1 (dwr s p d).2:=by
 unfold dwr;rw[if_neg (by rintro(e | e);· rw[h.1]at e;cases e
                          · have:=h.2;omega)]
 exact⟨rfl,h.1,by show aa9 _ _<0;unfold aa9;rw[if_pos h.2];exact h.2⟩
theorem aff (h:ag1 s):(dfl s).1=0/\ag1 (dfl s).2/\(dfl s).2.wt= []:=by
 unfold dfl;rw[if_neg (by rw[h.1];decide)];exact⟨rfl,h,rfl⟩
theorem ajH (h:ag1 s) (p:Nat) (b:List UInt8):(agI s p b).1=0/\ag1 (agI s p b).2:=by
 have e:wk (need b.length) s.left s.off=need b.length:=by unfold wk;rw[if_neg (by rw[h.1];decide),if_pos h.2]
 unfold agI;rw[e];refine⟨if_neg (Nat.lt_irrefl _),?_,?_⟩
 · show(s.off || decide (need b.length<need b.length))=false;rw[h.1];simp
 · show aa9 _ _<0;unfold aa9;rw[if_pos h.2];exact h.2
theorem ahP (h:ag1 s) (p:Nat) (b rec:List UInt8):(adO p b rec s).1=0/\ag1 (adO p b rec s).2/\(adO p b rec s).2.wt= []:=by
 obtain⟨a1,h1⟩:=af9 h p (List.replicate 512 0);obtain⟨a2,h2,_⟩:=aff h1;obtain⟨a3,h3⟩:=ajH h2 (p+1) b;obtain⟨a4,h4,_⟩:=aff h3;obtain⟨a5,h5⟩:=af9 h4 p rec;unfold adO;rw[aao a1,aao a2,aao a3,aao a4,aao a5];exact aff h5
theorem amW (h:ag1 s) (hw:s.wt= []) (x y:Sk) (half:Nat) (b:List UInt8):((afW x y half b s).1=0\/(afW x y half b s).1=7)/\ag1 (afW x y half b s).2/\(afW x y half b s).2.wt= []:=by
 unfold afW;split
 · exact⟨.inr rfl,h,hw⟩
 · obtain⟨a,b,c⟩:=ahP h ((if aeg x y=0 then 1 else 0)*half) b (abA (max x.G y.G+1) b.length (abn 0 b));exact⟨.inl a,b,c⟩
theorem alK (p:Nat) (d:List UInt8) (hd:d.length=512):agI s p d=dwr s p d:=by
 have hn:need d.length=1:=by rw[hd];rfl
 have hp:afk d 0=d:=by
  unfold afk;rw[hd,Nat.zero_mul,List.drop_zero,List.take_of_length_le (by omega)];simp
 obtain⟨bs,wt,left,off⟩:=s;unfold agI dwr;rw[hn];dsimp only;by_cases hb:off=true\/left=0
 · have e:wk 1 left off=0:=by
    unfold wk;split
    · rfl
    · rcases hb with h | h
      · rename_i h2;exact absurd h h2
      · subst h;rfl
   rw[if_pos hb,e,if_pos (by omega),afy];simp[afx]
 · have e:wk 1 left off=1:=by
    unfold wk;rw[if_neg (fun h=>hb (.inl h))];split
    · rfl
    · have:left≠0:=fun h=>hb (.inr h);omega
   have ho:off=false:=by cases off;rfl;exact absurd (.inl rfl) hb
   subst ho;rw[if_neg hb,e,if_neg (by omega)];simp[afx,hp,List.range_succ]
end
theorem aga (b:List UInt8) (half:Nat) (a:Nat->List UInt8):(ajt b half a).ok=true->acG ((ajt b half a).n:Int) (ajt b half a).l (ajt b half a).d=true:=by
 unfold ajt;split
 · exact fun h=>by cases h
 split
 · exact fun h=>by cases h
 unfold apb;split
 · rename_i h;intro _;have hg:acO (a (slN b))=(0,(acO (a (slN b))).2.1,(acO (a (slN b))).2.2.1,(acO (a (slN b))).2.2.2):=by rw[<-h.1]
   exact(aoi hg).put.2
 · exact fun h=>by cases h
theorem akQ (x y:Sk):(aeg x y=0->x.ok=true)/\(aeg x y=1->y.ok=true):=by
 unfold aeg;constructor
 · split
   · rename_i h;exact fun _=>h.1
   · split
     · intro h;cases h
     · intro h;cases h
 · split
   · intro h;cases h
   · split
     · rename_i h;exact fun _=>h
     · intro h;cases h
theorem aqP{x y:Sk}{base:Nat}{cap:Int}(hx:x.ok=true->acG (x.n:Int) x.l x.d=true) (hy:y.ok=true->acG (y.n:Int) y.l y.d=true) (h:(aco x y base cap).1=0):
 acG ((aco x y base cap).2.1:Int) (aco x y base cap).2.2.1 (aco x y base cap).2.2.2=true/\base%16=0/\base<=4611686018427387904/\1024<=cap/\cap<=16384/\((aco x y base cap).2.1:Int)<=cap:=by
 unfold aco at h ⊢;split
 · rename_i h1;rw[if_pos h1]at h;cases h
 rename_i h1;rw[if_neg h1]at h;split
 · rename_i h2;rw[if_pos h2]at h;cases h
 rename_i h2;rw[if_neg h2]at h;have h2':=Decidable.not_not.1 h2;split
 · rename_i h3;rw[if_pos h3]at h;split
   · rename_i h4;rw[if_pos h4]at h;cases h
   · rename_i h4;exact⟨hx ((akQ x y).1 h3),h2'.1,h2'.2.1,h2'.2.2.1,h2'.2.2.2,by show(x.n:Int)<=cap;omega⟩
 · rename_i h3;rw[if_neg h3]at h;split
   · rename_i h4;rw[if_pos h4]at h;cases h
   · rename_i h4;have:aeg x y=1:=by rcases adw x y with e | e | e<;>omega
     exact⟨hy ((akQ x y).2 this),h2'.1,h2'.2.1,h2'.2.2.1,h2'.2.2.2,by show(y.n:Int)<=cap;omega⟩
theorem amX (x y:Sk) (base:Nat) (cap:Int):(aco x y base cap).1<=10:=by
 unfold aco;repeat' split
 all_goals omega
def toB (x:Rk):Bk:=⟨x.o.toNat,x.s.toNat,x.u⟩
def agb:List UInt8->List Bk->List (List UInt8)->List UInt8
 | bs,[],_=>bs
 | bs,x::r,d=>if x.used then agb (lay (ac6 bs x) (x.off+8) (d.headD [])) r d.tail else agb (ac6 bs x) r d
def afT:List Bk->List (List UInt8)->Prop
 | [],d=>d= []
 | x::r,d=>if x.used then (match d with | []=>False | y::d'=>y.length+16=x.size/\afT r d') else afT r d
theorem afg{n:Int}:∀{l:List Rk}{o:Nat}{f:Bool},abe n (o:Int) f l=true->ach o (l.map toB) n.toNat/\l=(l.map toB).map toR/\(∀x∈l,0<=x.o/\32<=x.s/\x.o+x.s<=n)
 | [],o,f,h=>by
  unfold abe at h;have:(o:Int)=n:=by simpa using h
  refine⟨?_,rfl,fun x hx=>by cases hx⟩;show o=n.toNat;omega
 | x::r,o,f,h=>by
  unfold abe at h;simp only[Bool.and_eq_true,beq_iff_eq]at h;obtain⟨ho,hs,hle,_,hr⟩:=h;have hle:=of_decide_eq_true hle;have h3:=(aae _).1 hs;have hr2:abe n ((o+x.s.toNat:Nat):Int) (!x.u) r=true:=by
   rw[show((o+x.s.toNat:Nat):Int)=(o:Int)+x.s from by omega];exact hr
  obtain⟨t1,t2,t3⟩:=afg hr2;refine⟨⟨?_,?_,?_⟩,?_,?_⟩
  · show x.o.toNat=o;omega
  · show aa3 ((x.s.toNat:Nat):Int)=true;rw[show((x.s.toNat:Nat):Int)=x.s from by omega];exact hs
  · exact t1
  · rw[List.map_cons,List.map_cons,<-t2];congr 1;unfold toR toB;obtain⟨xo,xs,xu⟩:=x;dsimp only at ho h3 ⊢;rw[show((xo.toNat:Nat):Int)=xo from by omega,show((xs.toNat:Nat):Int)=xs from by omega]
  · intro y hy;rcases List.mem_cons.1 hy with rfl | hy
    · omega
    · exact t3 y hy
theorem afh:∀{l:List Rk}{d:List (List UInt8)},(∀x∈l,0<=x.o/\32<=x.s)->datOk l d=true->afT (l.map toB) d
 | [],d,_,h=>by
  unfold datOk at h;rw[List.isEmpty_iff]at h;exact h
 | x::l,d,hz,h=>by
  have hx:=hz x (by simp);have hz2:∀y∈l,0<=y.o/\32<=y.s:=fun y hy=>hz y (by simp[hy]);unfold datOk at h;rw[List.map_cons];unfold afT;show if x.u then _ else _
  cases hu:x.u with
  | false=>
   rw[hu]at h;simp only[Bool.false_eq_true,if_false]at h ⊢;exact afh hz2 h
  | true=>
   rw[hu]at h;simp only[if_true]at h ⊢
   cases d with
   | nil=>cases h
   | cons y d'=>
    simp only[Bool.and_eq_true,beq_iff_eq]at h;refine⟨?_,afh hz2 h.2⟩;show y.length+16=x.s.toNat;omega
theorem alL{bs:List UInt8}{x:Bk}(h:x.off+x.size<=bs.length) (hs:32<=x.size):(ac6 bs x).length=bs.length:=by
 unfold ac6;rw[aap _ _ _ (by rw[aap _ _ _ (by omega)];omega),aap _ _ _ (by omega)]
theorem alM{bs:List UInt8}{x:Bk}(h:x.off+x.size<=bs.length) (hs:32<=x.size){q:Nat}(hq:q<x.off\/x.off+x.size<=q):(ac6 bs x)[q]?=bs[q]?:=by
 unfold ac6;rw[afp _ _ _ _ (by rw[aap _ _ _ (by omega)];omega) (by omega),afp _ _ _ _ (by omega) (by omega)]
theorem agV:∀(l:List Bk) (bs:List UInt8) (o:Nat) (d:List (List UInt8)),184<=o->o%16=8->ach o l bs.length->afT l d->
 (agb bs l d).length=bs.length/\(∀q,q<o->(agb bs l d)[q]?=bs[q]?)/\(∀x∈l,abV (agb bs l d) (x.off:Int)=some x)/\ofD (agb bs l d) l=d
 | [],bs,o,d,_,_,_,hd=>⟨rfl,fun _ _=>rfl,fun x hx=>(by cases hx),hd.symm⟩
 | x::r,bs,o,d,ho,ho2,⟨h1,h2,h3⟩,hd=>by
  have q:=(aae _).1 h2;have hle:=(aau r _ _ h3).1;have hxo:x.off=o:=h1;have hs1:=agl [x] bs o (o+x.size) ho ho2 ⟨h1,h2,rfl⟩ (by omega);have hgx:abV (ac6 bs x) (x.off:Int)=some x:=hs1.2.1 x (by simp);have hl1:=alL (bs:=bs) (x:=x) (by omega) (by omega);unfold afT at hd;unfold agb ofD
  cases hu:x.used with
  | false=>
   rw[hu]at hd;simp only[Bool.false_eq_true,if_false]at hd ⊢;obtain⟨r1,r2,r3,r4⟩:=agV r (ac6 bs x) (o+x.size) d (by omega) (by omega) (by rw[hl1];exact h3) hd;refine⟨by rw[r1,hl1],fun p hp=>by rw[r2 p (by omega),alM (by omega) (by omega) (.inl (by omega))],fun y hy=> ?_,r4⟩;rcases List.mem_cons.1 hy with rfl | hy
   · refine ab6 (ac6 bs y) _ y r1 hgx (aaZ _ _ _ fun i _ hi=>r2 i (by omega)) (aaZ _ _ _ fun i _ hi=>r2 i (by omega))
   · exact r3 y hy
  | true=>
   rw[hu]at hd;simp only[if_true]at hd ⊢
   cases d with
   | nil=>exact hd.elim
   | cons y d'=>
    obtain⟨hyl,hd'⟩:=hd;simp only[List.headD_cons,List.tail_cons];have hag:=ajz (bs:=ac6 bs x) (x:=x) (x.off+8) y (Nat.le_refl _) (by omega) (by rw[hl1];omega);have hl2:(lay (ac6 bs x) (x.off+8) y).length=bs.length:=by rw[hag.1,hl1]
    obtain⟨r1,r2,r3,r4⟩:=agV r (lay (ac6 bs x) (x.off+8) y) (o+x.size) d' (by omega) (by omega) (by rw[hl2];exact h3) hd';have hgx2:abV (lay (ac6 bs x) (x.off+8) y) (x.off:Int)=some x:=ab6 (ac6 bs x) _ x hag.1 hgx (aaZ _ _ _ fun i _ hi=>hag.2 i (.inl (by omega))) (aaZ _ _ _ fun i h1 _=>hag.2 i (.inr (by omega)));refine⟨by rw[r1,hl2],fun p hp=>by rw[r2 p (by omega),hag.2 p (.inl (by omega)),alM (by omega) (by omega) (.inl (by omega))],fun z hz=> ?_,?_⟩
    · rcases List.mem_cons.1 hz with rfl | hz
      · exact ab6 _ _ z r1 hgx2 (aaZ _ _ _ fun i _ hi=>r2 i (by omega)) (aaZ _ _ _ fun i _ hi=>r2 i (by omega))
      · exact r3 z hz
    · rw[r4];congr 1;apply List.ext_getElem?;intro i;rw[List.getElem?_take,List.getElem?_drop];by_cases hi:i<x.size-16
      · rw[if_pos hi,r2 _ (by omega),ara _ _ _ (by rw[hl1];omega) i (by omega)]
      · rw[if_neg hi,List.getElem?_eq_none (by omega)]
theorem aoW{n:Int}:∀{l:List Rk}{o:Int}{f:Bool},abe n o f l=true->(∀j x y,l[j]?=some x->l[j+1]?=some y->x.u=true\/y.u=true)/\(f=true->∀x,l[0]?=some x->x.u=true)
 | [],o,f,h=>⟨fun j x y hx=>by simp at hx,fun _ x hx=>by simp at hx⟩
 | z::r,o,f,h=>by
  unfold abe at h;simp only[Bool.and_eq_true]at h;obtain⟨_,_,_,hf,hr⟩:=h;obtain⟨i1,i2⟩:=aoW hr;refine⟨fun j x y hx hy=> ?_,fun hft x hx=> ?_⟩
  · cases j with
    | zero=>
     simp at hx;subst hx
     cases hu:z.u with
     | true=>exact .inl rfl
     | false=>exact .inr (i2 (by rw[hu];rfl) y (by simpa using hy))
    | succ j=>exact i1 j x y (by simpa using hx) (by simpa using hy)
  · simp at hx;subst hx;rw[hft]at hf
    cases hu:z.u with
    | true=>rfl
    | false=>rw[hu]at hf;cases hf
theorem aoX{n:Int}{l:List Rk}{o:Int}{f:Bool}(h:abe n o f l=true):aeX (l.map toB)=true:=by
 obtain⟨h1,_⟩:=aoW h;unfold aeX;rw[List.all_eq_true];intro i hi;have hi:=List.mem_range.1 hi;rw[List.length_map]at hi;unfold ad5 ad4
 cases i with
 | zero=>rfl
 | succ i=>
  have e1:(l.map toB)[i+1]?=some (toB l[i+1]):=by rw[List.getElem?_map,List.getElem?_eq_getElem hi];rfl
  have e2:(l.map toB)[i]?=some (toB (l[i]'(by omega))):=by rw[List.getElem?_map,List.getElem?_eq_getElem (show i<l.length by omega)];rfl
  have e3:i+1-1=i:=by omega
  rw[e3];rcases h1 i _ _ (List.getElem?_eq_getElem (show i<l.length by omega)) (List.getElem?_eq_getElem hi)with hu | hu
  · simp[e1,e2,toB,hu]
  · simp[e1,e2,toB,hu]
theorem ajI{bs bs':List UInt8}:∀{l:List Bk},(∀x∈l,x.used=true->∀i,x.off+8<=i->i<x.off+8+(x.size-16)->bs'[i]?=bs[i]?)->ofD bs' l=ofD bs l
 | [],_=>rfl
 | x::l,h=>by
  have ih:=ajI (l:=l) fun y hy=>h y (by simp[hy]);unfold ofD;rw[ih]
  cases hu:x.used with
  | false=>rfl
  | true=>
   simp only[if_true];congr 1;apply List.ext_getElem?;intro i;rw[List.getElem?_take,List.getElem?_take,List.getElem?_drop,List.getElem?_drop];by_cases hi:i<x.size-16
   · rw[if_pos hi,if_pos hi,h x (by simp) hu _ (by omega) (by omega)]
   · rw[if_neg hi,if_neg hi]
theorem ajJ{bs out:List UInt8}{l:List Bk}(h:abJ bs=some l) (hm:bs.length<=16384) (ho:abW bs=some out):∀i,184<=i->(∀y∈l,y.used=false->i<y.off+8\/y.off+24<=i)->out[i]?=bs[i]?:=by
 obtain⟨h184,ht,hg⟩:=aaC h;have hmem:=(aau l _ _ ht).2;have el:(List.replicate 184 (0:UInt8)++bs.drop 184).length=bs.length:=by rw[List.length_append,List.length_replicate,List.length_drop];omega
 have hst:Stands (List.replicate 184 (0:UInt8)++bs.drop 184) l:=by
  refine⟨fun x hx=> ?_,abz l _ _ ht⟩;obtain⟨a,b,c,_⟩:=hmem x hx;have q:=(aae _).1 c;refine ab6 bs _ x el (hg x hx) ?_ ?_
  · exact aaZ _ _ _ fun i h1 _=>aeW bs 184 i (by omega)
  · exact aaZ _ _ _ fun i h1 _=>aeW bs 184 i (by omega)
 have hL:=aes (by rw[el];exact h184) (by rw[el];exact hm) hst (fun p hp _=>acm _ _ _ hp);have e0:(fun _=> [])=abL []:=by funext c;rfl
 rw[e0]at hL;obtain⟨_,_,hk⟩:=aeV l [] _ (fun x hx=>hx) (by simpa using ah5 l _ _ ht) hL;unfold abW at ho;rw[h]at ho;injection ho with ho;dsimp only at ho;rw[ho]at hk;intro i h1 h2;rw[hk i h1 h2];exact aeW bs 184 i h1
theorem afJ{N:Nat}{l:List Rk}{d:List (List UInt8)}(h:acG (N:Int) l d=true):
 ∃out,abJ (agb (List.replicate N 0) (l.map toB) d)=some (l.map toB)/\(agb (List.replicate N 0) (l.map toB) d).length=N/\abW (agb (List.replicate N 0) (l.map toB) d)=some out/\aci out=true/\abJ out=some (l.map toB)/\out.length=N/\ofD out (l.map toB)=d:=by
 unfold acG at h;simp only[Bool.and_eq_true]at h;obtain⟨hlo,hr,hdo⟩:=h;have hN:=(aaN _).1 hlo;obtain⟨ht,_,hz⟩:=afg (o:=184) hr;rw[Int.toNat_natCast]at ht;have hd:=afh (fun x hx=>⟨(hz x hx).1,(hz x hx).2.1⟩) hdo;have hl0:(List.replicate N (0:UInt8)).length=N:=List.length_replicate;obtain⟨r1,_,r3,r4⟩:=agV (l.map toB) (List.replicate N 0) 184 d (Nat.le_refl _) (by omega) (by rw[hl0];exact ht) hd;rw[hl0]at r1;obtain⟨mid,hmid⟩:=nmE (agb (List.replicate N 0) (l.map toB) d);rw[hmid]at r1 r3 r4 ⊢;have hw:abJ mid=some (l.map toB):=adn (by rw[r1];exact ht) r3;obtain⟨out,e,_,h2,h3,_,h5⟩:=afM hw (by omega);refine⟨out,hw,r1,e,by rw[h5];exact aoX hr,h3,h2.trans r1,?_⟩;rw[<-r4];refine ajI fun x hx hu i i1 i2=>ajJ hw (by omega) e i ?_ fun y hy hyu=> ?_
 · have:=((aau _ _ _ ht).2 x hx).1;omega
 · have hxs:=(aae _).1 ((aau _ _ _ ht).2 x hx).2.2.1;have hys:=(aae _).1 ((aau _ _ _ ht).2 y hy).2.2.1;rcases abz _ _ _ ht x hx y hy with e | e | e
   · rw[e,hyu]at hu;cases hu
   · omega
   · omega
theorem ard{n:Nat}:∀(l:List Bk) (o:Nat) (u:Bool),ach o l n->ar5 u l=true->abe (n:Int) (o:Int) (!u) (l.map toR)=true
 | [],o,u,h,_=>by
  have h:o=n:=h;subst h;simp[abe]
 | x::r,o,u,⟨h1,h2,h3⟩,hn=>by
  unfold ar5 at hn;rw[Bool.and_eq_true]at hn;have ih:=ard r (o+x.size) x.used h3 hn.2;have hle:=(aau r _ _ h3).1;rw[List.map_cons,abe];simp only[Bool.and_eq_true];refine⟨by unfold toR;rw[h1];simp,h2,decide_eq_true ?_,?_,ih⟩
  · show(x.size:Int)<=(n:Int)-(o:Int);omega
  · show(!(!u&& !x.used))=true;have:=hn.1
    cases u<;>cases hx:x.used<;>simp_all
theorem arf{bs:List UInt8}:∀l:List Bk,(∀x∈l,x.off+x.size<=bs.length/\32<=x.size)->datOk (l.map toR) (ofD bs l)=true
 | [],_=>rfl
 | x::r,h=>by
  have ih:=arf r fun y hy=>h y (List.mem_cons_of_mem _ hy);obtain⟨h1,h2⟩:=h x (List.mem_cons_self ..);rw[List.map_cons,datOk.eq_def,ofD];dsimp only
  cases hu:x.used with
  | false=>rw[if_neg (by unfold toR;rw[hu];exact Bool.false_ne_true),if_neg Bool.false_ne_true];exact ih
  | true=>
   rw[if_pos (by unfold toR;exact hu),if_pos rfl];dsimp only;rw[Bool.and_eq_true];refine⟨?_,ih⟩;rw[beq_iff_eq,List.length_take,List.length_drop];show((min (x.size-16) (bs.length-(x.off+8)):Nat):Int)=(x.size:Int)-16;omega
theorem alN:∀(l:List Bk) (o e:Nat),ach o l e->∃k,e=o+16*k
 | [],o,e,h=>⟨0,by have h:o=e:=h;omega⟩
 | x::r,o,e,⟨_,h2,h3⟩=>by
  obtain⟨k,hk⟩:=alN r _ _ h3;have hs:=(aae _).1 h2;exact⟨x.size/16+k,by omega⟩
theorem ajK{bs:List UInt8}{l:List Bk}(hw:abJ bs=some l) (hl:bs.length<=16384) (hn:aeX l=true):acG (bs.length:Int) (l.map toR) (ofD bs l)=true:=by
 obtain⟨h1,ht,_⟩:=aaC hw;obtain⟨k,hk⟩:=alN _ _ _ ht;unfold acG;rw[amN]at hn;simp only[Bool.and_eq_true];refine⟨(aaN _).2 ⟨by omega,by omega,by omega⟩,ard l 184 true ht hn,arf l fun x hx=> ?_⟩;obtain⟨_,a,b,_⟩:=(aau _ _ _ ht).2 x hx;have:=(aae _).1 b;exact⟨a,by omega⟩
theorem alO{bs:List UInt8}:∀(L:List Bk) (ds:List Dt),ds.length=L.length->(∀(j:Nat) (x:Bk) (d:Dt),L[j]?=some x->ds[j]?=some d->x.used=true->d.2.length+16=x.size/\∀k,k<d.2.length->bs[x.off+8+k]?=d.2[k]?)->ofD bs L=afl L ds
 | [],[],_,_=>rfl
 | x::L,d::ds,hl,h=>by
  have ih:=alO L ds (by simpa using hl) fun j x d hx hd=>h (j+1) x d hx hd;rw[ofD,afl,ih]
  cases hu:x.used with
  | false=>rfl
  | true=>
   obtain⟨h1,h2⟩:=h 0 x d rfl rfl hu;have e:(bs.drop (x.off+8)).take (x.size-16)=d.2:=by
    refine List.ext_getElem? fun k=> ?_;rw[List.getElem?_take];split
    · rw[List.getElem?_drop];exact h2 k (by omega)
    · rw[List.getElem?_eq_none (by omega)]
   rw[if_pos rfl,if_pos rfl,e]
theorem aqQ{bs:List UInt8}{H:Hp}(h:RtD bs H):ofD bs H.blks=afl H.blks H.ds:=
 alO _ _ h.dl fun j x d hx hd hu=>h.ho j x d ⟨hx,hd⟩ hu
def Find (s:Sk) (w:World) (e:Ending) (w':World):Prop:=
 ∃A1 c1 A2 c2,e= .returned (.tuple #[skV s A1 c1 A2 c2, .nilIface])/\RkRd w' w'.heap.size A1 s.l/\DtRd w' w'.heap.size A2 s.d/\(∀a,A2=some a->w.heap.size<=a.block)/\Below w.heap.size w w'
theorem Find.plain{w w':World}(G N S:Nat){e:Ending}(he:e= .returned (.tuple #[.agg #[.int .u64 (G:Int), .int .u64 (N:Int), .int .u32 (S:Int), .bool false, .int .i64 0, .slice none 0 0, .slice none 0 0], .nilIface])) (hb:Below w.heap.size w w'):Find ⟨G,N,S,false,0,[],[]⟩ w e w':=
 ⟨none,0,none,0,he,fun h=>absurd h (by simp),fun h=>absurd h (by simp),fun _ h=>(by cases h),hb⟩
theorem aoY{fn:Func}{R:Ending->World->Prop}{a:Act}{w:World}{p u:Tmp}{g:Nat}{x y0 y1 y2 y3 y4 y5 y6:Value}(hres:fn.results= #[.cell p 112, .tmp u]) (hp:a.tmps.getD p undef= .pointer (some ⟨g,0,none⟩)) (hx:a.tmps.getD u undef=x) (hd:a.defers= [])
 (hg:w.heap[g]?=some (.cells #[y0,y1,y2,y3,y4,y5,y6] 112 (0,0))) (hR:R (.returned (.tuple #[.agg #[y0,y1,y2,y3,y4,y5,y6],x])) w):bodyPost Tryz.prog fn R .ret a w:=by
 obtain⟨⟨c0,c1,c2,c3,c4,c5,c6⟩,_⟩:=acH hg;refine bodyPost_ret (v:= .tuple #[.agg #[y0,y1,y2,y3,y4,y5,y6],x]) ?_ hd hR;rw[results_cell_tmp hres,hp,hx];simp[go_sem,c0,c1,c2,c3,c4,c5,c6]
theorem aqR{b:List UInt8}(h:(acO b).1≠0):(acO b).2=(0,[],[]):=by
 unfold acO at h ⊢;repeat' split
 all_goals first
  | rfl
  | (exfalso;simp_all)
theorem alP{G N S s:Nat}{Γ:Nat × Nat × List Rk × List (List UInt8)}(h:¬(Γ.1=0/\s=S)):apb G N S s Γ=⟨G,N,S,false,0,[],[]⟩:=if_neg h
section
variable {N:Nat} {S:Nat->Prop} {w:World} {g:Nat} {s:Dst}
theorem DS.sectors (h:DS N S w g s) (hN2:N<=128):Calls Tryz.prog 120 #[.pointer (some ⟨g,0,none⟩)] w fun e w'=>e= .returned (.int .i64 (N:Int))/\w=w':=by
 obtain⟨q,c,W,cw,ws,k,e1,e2,hs⟩:=h;have:=aeb k (by omega);rw[e2,Nat.mul_div_cancel_left _ (by omega)]at this;exact this
theorem agW (h:DS N S w g s) (hN2:N<=128) (half:Nat) (hh:N/2=half):
 Calls Tryz.prog 61 #[.pointer (some ⟨g,0,none⟩)] w fun e w'=>e= .returned (.int .i64 (half:Int))/\w=w':=by
 have HS:=hE0 (h.sectors hN2);have hhi:(N:Int)/2=(half:Int):=by omega
 clear h;go_enter Tryz.func61,Tryz.ntmps61
 go_wp2_with fail
 refine HS.out.mono ?_;rintro e w1 ⟨rfl,rfl⟩;go_wp2
 go_ret
 exact⟨akm (by omega),rfl⟩
theorem ajL (h:DS N S w g s) (hN2:N<=128) (half M:Nat) (hh:N/2=half) (h1:1<=half) (hM:512*(half-1)=M):
 Calls Tryz.prog 58 #[.pointer (some ⟨g,0,none⟩)] w fun e w'=>e= .returned (.int .i64 (M:Int))/\w=w':=by
 have HS:=hE0 (agW h hN2 half hh);clear h;go_enter Tryz.func58,Tryz.ntmps58
 go_wp2_with fail
 refine HS.out.mono ?_;rintro e w1 ⟨rfl,rfl⟩;go_wp2
 go_ret
 exact⟨akm (by omega),rfl⟩
end
theorem arg{fn:Func}{R:Ending->World->Prop}{a:Act}{w:World}{p u:Tmp}{g:Nat}{x y0 y1 y2:Value}(hres:fn.results= #[.cell p 110, .tmp u]) (hp:a.tmps.getD p undef= .pointer (some ⟨g,0,none⟩)) (hx:a.tmps.getD u undef=x) (hd:a.defers= [])
 (hg:w.heap[g]?=some (.cells #[y0,y1,y2] 110 (0,0))) (hR:R (.returned (.tuple #[.agg #[y0,y1,y2],x])) w):bodyPost Tryz.prog fn R .ret a w:=by
 obtain⟨⟨c0,c1,c2⟩,_⟩:=abO hg;refine bodyPost_ret (v:= .tuple #[.agg #[y0,y1,y2],x]) ?_ hd hR;rw[results_cell_tmp hres,hp,hx];simp[go_sem,c0,c1,c2]
theorem amY (w:World) (A:Option Addr) (n c:Nat) (b:List UInt8) (hr:Rd w w.heap.size A n b) (hnc:n<=c) (hc:c<=9223372036854775807) (hn:n<=900000) (G Q M:Nat) (hM:M<4294967296) (k:Sk) (hk:apb G Q M (abn 0 b) (acO b)=k):
 Calls Tryz.prog 167 #[.slice A n c, .int .u32 (M:Int)] w fun e w'=>∃A1 c1 A2 c2,e= .returned (.tuple #[.agg #[.int .i64 (k.n:Int), .slice A1 k.l.length c1, .slice A2 k.d.length c2], .bool k.ok])/\RkRd w' w'.heap.size A1 k.l/\DtRd w' w'.heap.size A2 k.d/\(∀a,A2=some a->w.heap.size<=a.block)/\Below w.heap.size w w':=by
 obtain⟨w1,ha1,n1,b1⟩:=ac0 w 110 (.int .i64 0) (.slice none 0 0) (.slice none 0 0);have hr1:=(hr.below b1.out).more b1.out.size;obtain⟨sm,hsm⟩:=nmE (abn 0 b);have hsml:sm<4294967296:=by rw[<-hsm];exact acI _ _
 have hs:=agh A n c w1.heap.size b w1 hr1 (by omega);rw[hsm]at hs hk;have HS:=hE0 hs;have HG:=hE0 (amw w1 A n c w1.heap.size b hr1 (Nat.le_refl _) hnc hc hn);obtain⟨Γ,hΓ⟩:=nmE (acO b);have hge:Γ.1≠0->Γ.2=(0,[],[]):=by rw[<-hΓ];exact aqR
 rw[hΓ]at HG hk;have HK:=hE0 hk;have HGE:=hE0 hge;clear hr hr1 hs hsm hΓ hk hge;obtain⟨kd,im,il,id⟩:=Γ;dsimp only at HG HK HGE;obtain⟨i1,hi1⟩:=nmE il.length;obtain⟨i2,hi2⟩:=nmE id.length;rw[hi1,hi2]at HG;have HI1:=hE0 hi1;have HI2:=hE0 hi2;clear hi1 hi2;by_cases he:sm=M
 · subst he;have gs:((sm:Int)==(sm:Int))=true:=by simp
   go_enter Tryz.func167,Tryz.ntmps167
   go_wp2_with (first | (rw[ha1.out]) | fail)
   refine HS.out.mono ?_;rintro e w2 ⟨rfl,rfl⟩;go_wp2_with fail
   refine HG.out.mono ?_;rintro e w2 ⟨A9,B9,a9,c9,rfl,hr9,hd9,hA9,b9⟩;have n2:=hE0 ((b9.block _ (aaa n1.out)).trans n1.out);have HA9:Hid (∀a,B9=some a->w.heap.size<a.block):=(show ∀a,_->_ from fun a e=>by have:=hA9 a e;have:=aaa n1.out;omega);have HB2:=hE0 (b1.out.trans (b9.mono b1.out.size));obtain⟨wa,ha2,m2,b2⟩:=ac0 w2 110 (.int .i64 0) (.slice none 0 0) (.slice none 0 0);obtain⟨wb,hp2,m3,b3,⟨z0,z1,z2⟩,⟨e0,e1,e2⟩,hle⟩:=afj m2 (.int .i64 (im:Int)) (.slice A9 i1 a9) (.slice B9 i2 c9);have hb23:=b3.out w2.heap.size w2 (Nat.le_refl _) b2.out;have HB3:=hE0 (HB2.out.trans (hb23.mono HB2.out.size));have n3:=hE0 ((hb23.block _ (aaa n2.out)).trans n2.out);have HIM:Hid (RkRd wb wb.heap.size A9 il/\DtRd wb wb.heap.size B9 id):=⟨(hr9.below hb23).more hb23.size,(hd9.below hb23).more hb23.size⟩;clear hr9 hd9 hA9 b9 hb23 HG;have hev:(ag8 kd= .nilIface/\kd=0)\/(ag8 kd= .iface 90 (.int .i64 (kd:Int))/\kd≠0):=by
    unfold ag8;by_cases h:kd=0
    · exact .inl ⟨if_pos h,h⟩
    · exact .inr ⟨if_neg h,h⟩
   rcases hev with⟨e,h0⟩ | ⟨e,h0⟩;all_goals
    rw[e];have H0:=hE0 h0;clear e h0;go_wp2_with (first | (rw[ha2.out]) | (rw[hp2.out]) | fail)
    clear z0 z1 z2 e0 e1 e2 hle;obtain⟨⟨t0,t1,t2⟩,_,hlt⟩:=abO m3.out;obtain⟨wz,hz,nz,bz,⟨u0,u1,u2⟩,⟨g0,g1,g2⟩,hlu⟩:=afj n3 (.int .i64 (im:Int)) (.slice A9 i1 a9) (.slice B9 i2 c9);have HFIN:Hid (RkRd wz wz.heap.size A9 il/\DtRd wz wz.heap.size B9 id):=akv HIM.out (fun a e=>by have:=HA9.out a e;omega) n3.out (by rw[<-hz.out];simp[World.setCell]) (fun k hk=>by rw[<-hz.out,heap_setCell_other _ _ _ _ hk,heap_setCell_other _ _ _ _ hk,heap_setCell_other _ _ _ _ hk]);go_region
    all_goals
     go_wp2_with (first | (rw[hz.out]) | fail)
    refine arg (g:=w.heap.size) Tryz.results167 rfl rfl rfl nz.out ?_;have hk:=HK.out;have hbd:Below wz.heap.size wz wz.drew:=(Below.refl _ _).drew;first
     | (have h0:kd=0:=H0.out
        unfold apb at hk;rw[if_pos ⟨h0,rfl⟩]at hk;subst hk;exact⟨A9,a9,B9,c9,by dsimp only;rw[HI1.out,HI2.out];rfl,HFIN.out.1.below hbd,HFIN.out.2.below hbd,(fun a e=>Nat.le_of_lt (HA9.out a e)),(bz.out _ _ (Nat.le_refl _) HB3.out).drew⟩)
     | (have h0:kd≠0:=H0.out
        rw[alP (fun h=>h0 h.1)]at hk;subst hk;have he:=HGE.out h0;injection he with e1 e2;injection e2 with e2 e3;subst e1 e2 e3;exact⟨A9,a9,B9,c9,by dsimp only;rw[HI1.out,HI2.out];rfl,HFIN.out.1.below hbd,HFIN.out.2.below hbd,(fun a e=>Nat.le_of_lt (HA9.out a e)),(bz.out _ _ (Nat.le_refl _) HB3.out).drew⟩)
 · have gs:((sm:Int)==(M:Int))=false:=by rw[beq_eq_false_iff_ne];omega
   have hk:=HK.out;rw[alP (fun h=>he h.2)]at hk;subst hk;obtain⟨wz,hz,nz,bz,⟨u0,u1,u2⟩,⟨g0,g1,g2⟩,hlu⟩:=afj n1 (.int .i64 0) (.slice none 0 0) (.slice none 0 0);clear he HK HGE HG;go_enter Tryz.func167,Tryz.ntmps167
   go_wp2_with (first | (rw[ha1.out]) | fail)
   refine HS.out.mono ?_;rintro e w2 ⟨rfl,rfl⟩;go_wp2_with (first | (rw[hz.out]) | fail)
   (try simp only[Exit.inBlock,Exit.then])
   refine arg (g:=w.heap.size) (x:= .bool false) Tryz.results167 ?_ ?_ ?_ nz.out ?_
   · rfl
   · rfl
   · rfl
   · exact⟨none,0,none,0,rfl,fun h=>absurd h (by simp),fun h=>absurd h (by simp),fun _ h=>(by cases h),bz.out _ _ (Nat.le_refl _) b1.out⟩
section
variable {N:Nat} {S:Nat->Prop} {w:World} {g:Nat} {s:Dst}
theorem alQ (h:DS N S w g s) (hN2:N<=128) (ho:s.off=false) (half:Nat) (hh:N/2=half) (h1:1<=half) (p:Nat) (hp2:p+half<=N) (sk:Sk) (hsk:ajt (aa7 s.bs s.wt p) half (fun n=>(ac2 s.bs s.wt (p+1) (need n)).take n)=sk):
 Calls Tryz.prog 110 #[.pointer (some ⟨g,0,none⟩), .int .i64 (p:Int)] w fun e w'=>Find sk w e w':=by
 obtain⟨w1,ha1,n1,b1⟩:=adS w 112 (.int .u64 0) (.int .u64 0) (.int .u32 0) (.bool false) (.int .i64 0) (.slice none 0 0) (.slice none 0 0);have hrd:=(h.below b1.out).read hN2 ho p (by omega);obtain⟨b,hb⟩:=nmE (aa7 s.bs s.wt p);have hb5:b.length=512:=by
  obtain⟨_,_,_,_,ws,k,e1,e2,_⟩:=h;rw[<-hb,<-e1];exact acv _ _ _ k.fits (by omega)
 unfold aqW at hrd;rw[hb,hb5]at hrd;rw[hb]at hsk;have HRD:=hE0 hrd;obtain⟨M,hM⟩:=nmE (512*(half-1));have hMl:M<=65536:=by omega
 have HROOM:=hE0 (fun W (hW:Below w.heap.size w W)=>ajL (h.below hW) hN2 half M hh h1 hM);have HREADS:=hE0 (fun W (hW:Below w.heap.size w W) (Q:Nat) (hQ:Q<=M)=>(h.below hW).reads hN2 ho (p+1) Q (by unfold need;omega));have HSK:=hE0 hsk;have HM:=hE0 hM;have hpl:p<=128:=by omega
 clear h hrd hb hsk hh h1 hp2 hM;go_enter Tryz.func110,Tryz.ntmps110
 go_wp2_with (first | (rw[ha1.out]) | fail)
 refine HRD.out.mono ?_;rintro e w2 ⟨A2,c2,rfl,o2,b2⟩;have hc2:=aeE o2;unfold maxLen at hc2;have HB2:=hE0 (b1.out.trans (b2.mono b1.out.size));have HG:=hE0 (anY w2 A2 512 c2 b (aak o2) hc2.1);have n2:=hE0 ((b2.block _ (aaa n1.out)).trans n1.out);clear o2 b2 HRD hc2;go_wp2_with fail
 refine HG.out.mono ?_;rintro e w3 ⟨rfl,hb3⟩;obtain⟨ok,hok⟩:=nmE (abP b);obtain⟨G,hG⟩:=nmE (aeO b (slG b));obtain⟨Q,hQ⟩:=nmE (aeO b (slN b));obtain⟨C,hC⟩:=nmE (aeO b (slS b));have HOK:Hid (abP b=ok/\aeO b (slG b)=G/\aeO b (slN b)=Q/\aeO b (slS b)=C):=⟨hok,hG,hQ,hC⟩;rw[hok,hG,hQ,hC];have HB3:=hE0 (HB2.out.trans (hb3.mono HB2.out.size));have n3:=hE0 ((hb3.block _ (aaa n2.out)).trans n2.out);obtain⟨w4,ha4,m4,b4⟩:=ac0 w3 109 (.int .u64 0) (.int .u64 0) (.int .u32 0);obtain⟨w5,hp5,m5,b5,⟨z0,z1,z2⟩,⟨e0,e1,e2⟩,hle⟩:=afj m4 (.int .u64 (G:Int)) (.int .u64 (Q:Int)) (.int .u32 (C:Int));have hb5':=b5.out w3.heap.size w3 (Nat.le_refl _) b4.out;have HB5:=hE0 (HB3.out.trans (hb5'.mono HB3.out.size));have n5:=hE0 ((hb5'.block _ (aaa n3.out)).trans n3.out);clear hb3 hb5' HG hok hG hQ hC;have HPLAIN:Hid (abP b=false\/(abP b=true/\M<Q)->sk=⟨G,Q,C,false,0,[],[]⟩):=(show _->_ from fun hc=>by
  obtain⟨h1,h2,h3,h4⟩:=HOK.out;have hsk:=HSK.out;unfold ajt at hsk;rcases hc with hc | ⟨hc,hf⟩
  · rw[if_pos hc]at hsk;subst hsk;have a1:=acD b (slG b) hc;have a2:=acD b (slN b) hc;have a3:=acD b (slS b) hc;have b1:G=0:=by omega
    have b2:Q=0:=by omega
    have b3:C=0:=by omega
    subst b1 b2 b3;rfl
  · obtain⟨-,f1,f2,f3⟩:=ae3 hc;rw[f1]at h2;rw[f2]at h3;rw[f3]at h4;rw[if_neg (by rw[hc];decide),h2,h3,h4,if_pos (by rw[HM.out];exact hf)]at hsk;exact hsk.symm)
 go_wp2_with (first | (rw[ha4.out]) | (rw[hp5.out]) | fail)
 clear z0 z1 z2 e0 e1 e2 hle
 cases ok with
 | false=>
  have e:=HPLAIN.out (.inl HOK.out.1);subst e;clear HPLAIN;go_quiet (fail)
  obtain⟨wk,hwk⟩:=nmE (w5.drewN nq);have hbk:Below w5.heap.size w5 wk:=by rw[<-hwk];exact ade _ _
  have n6:=hE0 ((hbk.block _ (aaa n5.out)).trans n5.out);obtain⟨⟨v0,v1,v2⟩,_,hlv⟩:=abO ((hbk.block _ (aaa m5.out)).trans m5.out);have HB6:=hE0 (HB5.out.trans (hbk.mono HB5.out.size));rw[hwk];clear hwk hbk;obtain⟨wz,hz,nz,bz,⟨u0,u1,u2,u3,u4,u5,u6⟩,⟨g0,g1,g2,g3,g4,g5,g6⟩,hlu⟩:=ajX n6 (.int .u64 (G:Int)) (.int .u64 (Q:Int)) (.int .u32 (C:Int)) (.bool false) (.int .i64 0) (.slice none 0 0) (.slice none 0 0);go_wp2_with (first | (rw[hz.out]) | fail)
  (try simp only[Exit.inBlock,Exit.then])
  refine aoY (g:=w.heap.size) (x:= .nilIface) Tryz.results110 ?_ ?_ ?_ nz.out ?_
  · rfl
  · rfl
  · rfl
  · exact Find.plain G Q C rfl (bz.out _ _ (Nat.le_refl _) HB6.out)
 | true=>
  have hrec:=alv HOK.out.1;obtain⟨-,f1,f2,f3⟩:=ae3 HOK.out.1;obtain⟨-,k1,k2,k3⟩:=HOK.out;have hQl:Q<=65536:=by rw[<-k2,f2];exact hrec.2
  have hCl:C<4294967296:=by rw[<-k3,f3];exact asw b
  have k1':slG b=G:=f1.symm.trans k1;have k2':slN b=Q:=f2.symm.trans k2;have k3':slS b=C:=f3.symm.trans k3;have HKK:Hid (slG b=G/\slN b=Q/\slS b=C):=⟨k1',k2',k3'⟩;clear hrec f1 f2 f3 k1 k2 k3 k1' k2' k3';obtain⟨y,gy⟩:=nmE (decide (M<Q));have gy':decide ((M:Int)<(Q:Int))=y:=by rw[<-gy];exact decide_eq_decide.2 (by omega)
  have GY:=hE0 gy;obtain⟨wd,hwd⟩:=nmE w5.drew;have hbd:=adE hwd;have n6:=hE0 ((hbd.block _ (aaa n5.out)).trans n5.out);have m6:=hE0 ((hbd.block _ (aaa m5.out)).trans m5.out);have HB6:=hE0 (HB5.out.trans (hbd.mono HB5.out.size));refine aad wd.heap.size [([0,1,2,3,4,5],6)] [7,8,9] [] (by kernel_rfl) (by kernel_rfl) (by kernel_rfl) (fun _ _ _ _ _ h=>h) ?_;rw[hwd];clear hwd hbd;obtain⟨⟨t0,t1,t2⟩,_,hlt⟩:=abO m6.out;have q1:=tfE t1 hlt;refine tail_cons (l:= ?segA) ?hsegA ?_
  case hsegA=>simp only[pick,lE1,lE2,lE3];rfl
  repeat (go_big_quiet_step (fail))
  refine wpQuiet_nil ?_;clear q1 t0 t1 t2 hlt;refine aas (vs:= #[.pointer (some ⟨g,0,none⟩)]) Tryz.call58 rfl rfl rfl (R:=fun r w'=>r= .int .i64 (M:Int)/\wd=w') ((HROOM.out wd HB6.out).mono ?_) ?_
  · rintro e w' ⟨rfl,rfl⟩;exact⟨_,rfl,Below.refl _ _,rfl,rfl⟩
  rintro r w' _ ⟨rfl,rfl⟩;refine⟨wd.heap.size,Nat.le_refl _,?_⟩;simp only[Act.put,lE4,lE5,lE6];refine aam (l:= ?lastB) (t:= []) ?hlastB rfl ?_
  case hlastB=>simp only[pick,lE1,lE2,lE3];rfl
  repeat (go_big_quiet_step (fail))
  refine wpQuiet_nil ?_;clear gy gy'
  cases y with
  | true=>
   have e:=HPLAIN.out (.inr ⟨HOK.out.1,of_decide_eq_true GY.out⟩);subst e;clear HPLAIN;obtain⟨⟨v0,v1,v2⟩,_,hlv⟩:=abO m6.out;obtain⟨wz,hz,nz,bz,⟨u0,u1,u2,u3,u4,u5,u6⟩,⟨g0,g1,g2,g3,g4,g5,g6⟩,hlu⟩:=ajX n6 (.int .u64 (G:Int)) (.int .u64 (Q:Int)) (.int .u32 (C:Int)) (.bool false) (.int .i64 0) (.slice none 0 0) (.slice none 0 0);go_wp2_with (first | (rw[hz.out]) | fail)
   (try simp only[Exit.inBlock,Exit.then])
   refine aoY (g:=w.heap.size) (x:= .nilIface) Tryz.results110 ?_ ?_ ?_ nz.out ?_
   · rfl
   · rfl
   · rfl
   · exact Find.plain G Q C rfl (bz.out _ _ (Nat.le_refl _) HB6.out)
  | false=>
   have hQM:Q<=M:=Nat.le_of_not_lt (of_decide_eq_false GY.out);obtain⟨o,hob⟩:=nmE ((ac2 s.bs s.wt (p+1) (need Q)).take Q);have hrds:=HREADS.out wd HB6.out Q hQM;unfold aqW at hrds;rw[hob]at hrds;have hsk:apb G Q C (abn 0 o) (acO o)=sk:=by
    have hsk:=HSK.out;obtain⟨k1,k2,k3⟩:=HKK.out;unfold ajt at hsk;rw[if_neg (by rw[HOK.out.1];decide),k1,k2,k3,if_neg (by rw[HM.out];exact Nat.not_lt.2 hQM)]at hsk;dsimp only at hsk;rw[hob]at hsk;exact hsk
   have HSK2:=hE0 hsk;have HRDS:=hE0 hrds;have hQi:Hid (((p:Int)+1)=((p+1:Nat):Int)):=(show _=_ from rfl);obtain⟨ol,hol⟩:=nmE o.length;have holl:ol<=65536:=by rw[<-hol,<-hob,List.length_take];omega
   rw[hol]at HRDS;obtain⟨⟨v0,v1,v2⟩,_,hlv⟩:=abO m6.out;clear hrds hsk hob hol HREADS HROOM HPLAIN;go_wp2_with fail
   rw[hQi.out];refine HRDS.out.mono ?_;rintro e w8 ⟨A8,c8,rfl,o8,b8⟩;have hc8:=aeE o8;unfold maxLen at hc8;have HB8:=hE0 (HB6.out.trans (b8.mono HB6.out.size));have n8:=hE0 ((b8.block _ (aaa n6.out)).trans n6.out);have m8:=hE0 ((b8.block _ (aaa m6.out)).trans m6.out);have HIM:=hE0 (amY w8 A8 ol c8 o (aak o8) hc8.1 (by omega) (by omega) G Q C hCl sk HSK2.out);obtain⟨⟨x0,x1,x2⟩,_,hlx⟩:=abO m8.out;clear v0 v1 v2 hlv o8 b8 hc8 HRDS;go_wp2_with fail
   refine HIM.out.mono ?_;rintro e w9 ⟨A9,a9,B9,c9,rfl,hr9,hd9,hA9,b9⟩;clear x0 x1 x2 hlx;have HS4:Hid (sk.G=G/\sk.N=Q/\sk.S=C):=(show _/\_ from by
    rw[<-HSK2.out];unfold apb;split<;>exact⟨rfl,rfl,rfl⟩)
   obtain⟨sG,sN,sS,so,sn,sl,sd⟩:=sk;obtain⟨rfl,rfl,rfl⟩:=HS4.out;dsimp only at hr9 hd9;dsimp only;have HA9:Hid (∀a,B9=some a->w.heap.size<a.block):=(show ∀a,_->_ from fun a e=>by have:=hA9 a e;have:=aaa n8.out;omega);obtain⟨wa,ha10,m10,b10⟩:=ac0 w9 110 (.int .i64 0) (.slice none 0 0) (.slice none 0 0);obtain⟨wb,hp11,m11,b11,⟨z0,z1,z2⟩,⟨e0,e1,e2⟩,hle⟩:=afj m10 (.int .i64 (sn:Int)) (.slice A9 sl.length a9) (.slice B9 sd.length c9);have hb911:=b11.out w9.heap.size w9 (Nat.le_refl _) b10.out;have hb811:=b9.trans (hb911.mono b9.size);have HB11:=hE0 (HB8.out.trans (hb811.mono HB8.out.size));have n11:=hE0 ((hb811.block _ (aaa n8.out)).trans n8.out);have r11:=hE0 ((hb811.block _ (aaa m8.out)).trans m8.out);have HIM11:Hid (RkRd wb wb.heap.size A9 sl/\DtRd wb wb.heap.size B9 sd):=⟨(hr9.below hb911).more hb911.size,(hd9.below hb911).more hb911.size⟩;obtain⟨⟨x0,x1,x2⟩,_,hlx⟩:=abO m11.out;obtain⟨⟨v0,v1,v2⟩,_,hlv⟩:=abO r11.out;obtain⟨wz,hz,nz,bz,⟨u0,u1,u2,u3,u4,u5,u6⟩,⟨g0,g1,g2,g3,g4,g5,g6⟩,hlu⟩:=ajX n11 (.int .u64 (sG:Int)) (.int .u64 (sN:Int)) (.int .u32 (sS:Int)) (.bool so) (.int .i64 (sn:Int)) (.slice A9 sl.length a9) (.slice B9 sd.length c9);have HFIN:Hid (RkRd wz wz.heap.size A9 sl/\DtRd wz wz.heap.size B9 sd):=by
    have hz2:wz.heap.size=wb.heap.size:=by rw[<-hz.out];simp[World.setCell]
    have hk2:∀k,k≠w.heap.size->wz.heap[k]?=wb.heap[k]?:=fun k hk=>by
     rw[<-hz.out,heap_setCell_other _ _ _ _ hk,heap_setCell_other _ _ _ _ hk,heap_setCell_other _ _ _ _ hk,heap_setCell_other _ _ _ _ hk,heap_setCell_other _ _ _ _ hk,heap_setCell_other _ _ _ _ hk,heap_setCell_other _ _ _ _ hk]
    rw[hz2];exact⟨HIM11.out.1.offS n11.out hk2,HIM11.out.2.offS (fun a e=>by have:=HA9.out a e;omega) n11.out hk2⟩
   have HBZ:=hE0 (bz.out _ _ (Nat.le_refl _) HB11.out);clear hr9 hd9 hA9 b9 hb911 hb811 HIM;go_wp2_with (first | (rw[ha10.out]) | (rw[hp11.out]) | (rw[hz.out]) | fail)
   (try simp only[Exit.inBlock,Exit.then])
   refine aoY (g:=w.heap.size) (x:= .nilIface) Tryz.results110 ?_ ?_ ?_ nz.out ?_
   · rfl
   · rfl
   · rfl
   · exact⟨A9,a9,B9,c9,rfl,HFIN.out.1,HFIN.out.2,(fun a e=>Nat.le_of_lt (HA9.out a e)),HBZ.out⟩
end
structure Sm (wB W:World) (g base cap:Nat) (A:Option Addr) (c:Nat) (bs:List UInt8) (gm:Nat) (o:Obj):Prop where
 st:St wB W g base cap A c bs []
 ob:W.heap[gm]?=some o
 nf:¬foot g A gm
section
variable {wB W W':World} {g base cap c gm:Nat} {A:Option Addr} {bs out:List UInt8} {o:Obj}
theorem ajM{w:World}{g:Nat}{o:Obj}(h:w.heap[g]?=some o):g<w.heap.size:=(Array.getElem?_eq_some_iff.1 h).1
theorem Sm.below (h:Sm wB W g base cap A c bs gm o) (hb:Below W.heap.size W W'):Sm wB W' g base cap A c bs gm o:=
 ⟨h.st.below hb,(hb.block _ (ajM h.ob)).trans h.ob,h.nf⟩
theorem Sm.became (h:Sm wB W g base cap A c bs gm o) (hb:Became 160 g base cap A out W W'):∃A' c',Sm wB W' g base cap A' c' out gm o:=by
 obtain⟨A',c',har,ht,hA⟩:=hb;have hlow:∀a,A'=some a->wB.heap.size<=a.block:=fun a ha=>by
  rcases hA with e | e
  · exact h.st.aB a (e▸ha)
  · exact Nat.le_trans h.st.size (e a ha)
 refine⟨A',c',⟨h.st.bel.trans (ht.below (fun k hk=> ?_) h.st.size),har,h.st.gB,hlow,fun q hq=>by cases hq⟩,?_,?_⟩
 · rcases hk with rfl | ⟨a,e,rfl⟩
   · exact h.st.gB
   · exact h.st.aB a e
 · exact(ht.block _ (ajM h.ob) h.nf).trans h.ob
 · intro hf;rcases hf with rfl | ⟨a,e,rfl⟩
   · exact h.nf (.inl rfl)
   · rcases hA with e2 | e2
     · exact h.nf (.inr ⟨a,e2▸e,rfl⟩)
     · have h1:=e2 a e;have:=ajM h.ob;omega
end
theorem aoZ{bs:List UInt8}{x:Bk}{r:List Bk}{d:List (List UInt8)}{y:List UInt8}(hu:x.used=true):agb bs (x::r) (y::d)=agb (lay (ac6 bs x) (x.off+8) y) r d:=by
 rw[agb,if_pos hu];rfl
theorem ao0{bs:List UInt8}{x:Bk}{r:List Bk}{d:List (List UInt8)}(hu:x.used=false):agb bs (x::r) d=agb (ac6 bs x) r d:=by
 rw[agb,if_neg (by rw[hu];simp)]
theorem ao1 (wB W:World) (g base cap c:Nat) (A:Option Addr) (bs:List UInt8) (n:Nat) (L:List Bk) (d:List (List UInt8)) (A1 A2:Option Addr) (k1 k2:Nat) (N:Int) (hst:St wB W g base cap A c bs []) (hb62:base<=4611686018427387904) (hn:bs.length=n) (hn16:n<=16384) (ht:ach 184 L n) (hd:afT L d) (hr:RkRd wB wB.heap.size A1 (L.map toR)) (hdr:DtRd wB wB.heap.size A2 d):
 Calls Tryz.prog 128 #[.pointer (some ⟨g,0,none⟩), .agg #[.int .i64 N, .slice A1 L.length k1, .slice A2 d.length k2]] W fun e w'=>e= .returned (.tuple #[])/\∃A' c',St wB w' g base cap A' c' (agb bs L d) []:=by
 obtain⟨m,hm⟩:=nmE L.length;obtain⟨dl,hdl⟩:=nmE d.length;obtain⟨F,hF⟩:=nmE (agb bs L d);rw[hm,hdl,hF];have htm:=(aau _ _ _ ht).2;have hm512:m<=512:=by have:=af8 _ _ _ ht;omega
 obtain⟨w1,hw1⟩:=nmE (W.alloc (.cells #[.int .i64 N, .slice A1 m k1, .slice A2 dl k2] 110));have hb1:=abE hw1;have n1:=anE hw1;have HS1:Hid (Sm wB w1 g base cap A c bs W.heap.size (.cells #[.int .i64 N, .slice A1 m k1, .slice A2 dl k2] 110 (0,0))):=⟨hst.below hb1,n1,fun hf=>by have:=hst.ar.foot_lt hf;omega⟩;have HSET:=hE0 (fun W' A' c' bs' (x:Bk) (h:Ar W' 160 g base cap A' c' bs') (hl:bs'.length<=16384) (h1:184<=x.off) (h2:x.off%16=8) (h3:x.off+x.size<=bs'.length) (h4:aa3 (x.size:Int)=true) (h5:x.off<=100000) (h6:x.size<=100000)=>atG W' g base cap c' A' bs' (x.off:Int) (x.size:Int) x.used (some (ac6 bs' x)) h hb62 hl (by omega) (by omega) (aoj bs' x h1 h2 h3 h4));have HR:=hE0 hr;have HDR:=hE0 hdr;have HM:=hE0 hm;have HDL:=hE0 hdl;have HTM:=hE0 htm;have HT:=hE0 ht;have HD:=hE0 hd;have HF0:=hE0 hF;have HN:=hE0 hn;have HW1:=hE0 hw1;obtain⟨c0,c1,c2⟩:=aac n1;have hl1:=aaa n1;clear hm hdl hF ht hd hr hdr hn htm hw1 n1 hst hb1;go_enter Tryz.func128,Tryz.ntmps128
 go_wp2_with (first | (rw[HW1.out]) | fail)
 clear c0 c1 c2 hl1;go_loopw [4,10] (fun u t wr=>∃(j v:Nat) (A:Option Addr) (c:Nat) (bs:List UInt8) (o:Nat),t= .int .i64 (j:Int)/\u= .int .i64 (v:Int)/\j<=m/\v<=j/\Sm wB wr g base cap A c bs W.heap.size (.cells #[.int .i64 N, .slice A1 m k1, .slice A2 dl k2] 110 (0,0))/\bs.length=n/\agb bs (L.drop j) (d.drop v)=F/\afT (L.drop j) (d.drop v)) (fun _ t _=>m-(intOf t).toNat)
 case atStart=>exact⟨0,0,A,c,bs,184,rfl,rfl,Nat.zero_le _,Nat.zero_le _,HS1.out,HN.out,HF0.out,HD.out⟩
 case round=>
  obtain⟨j,v,A,c,bs,o,rfl,rfl,hj,hvj,hsm,hbl,hlay,hdat⟩:=hrel;by_cases hlt:j<m
  · obtain⟨x,hx⟩:∃x,L[j]?=some x:=⟨L[j]'(by rw[HM.out];exact hlt),List.getElem?_eq_getElem _⟩;obtain⟨m1,m2,m3,m4⟩:=HTM.out x (List.mem_of_getElem? hx);have m5:=(aae _).1 m3;obtain⟨b2,o2,rfl,hbb,hcl⟩:=HR.out (by rw[List.length_map,HM.out];omega);obtain⟨p0,p1,p2,_,_⟩:=hcl j (toR x) (by rw[List.getElem?_map,hx];rfl);have hbe:=hsm.st.bel;have r0:=(hbe.cell (p:=⟨b2,o2+j*3,none⟩) hbb).trans p0;have r1:=(hbe.cell (p:=⟨b2,o2+j*3+1,none⟩) hbb).trans p1;have r2:=(hbe.cell (p:=⟨b2,o2+j*3+2,none⟩) hbb).trans p2;rw[acC hx]at hlay hdat;obtain⟨w4,hw4⟩:=nmE (wr.alloc (.cells #[.int .i64 (x.off:Int), .int .i64 (x.size:Int), .bool x.used] 132));have hb4:=abE hw4;have n4:=anE hw4;have hsm4:=hsm.below hb4;have hset:=HSET.out w4 A c bs x hsm4.st.ar (by omega) m1 (by omega) (by omega) m3 (by omega) (by omega);dsimp only[ap7,abm]at hset;have hsl:=alL (bs:=bs) (x:=x) (by omega) (by omega);have hnfx:¬foot g A wr.heap.size:=fun hf=>by have:=hsm.st.ar.foot_lt hf;omega
    obtain⟨xo,xz,xu⟩:=x;dsimp only[toR]at p0 p1 p2 r0 r1 r2 m1 m2 m3 m4 m5 hset n4 hw4;obtain⟨e0,e1,e2⟩:=aac n4;have hl4:=aaa n4;have HSETX:=hE0 hset;have HSM4:=hE0 hsm4;have HN4:=hE0 n4;have HW4:=hE0 hw4;have HLAY:=hE0 hlay;have HDAT:=hE0 hdat;have HNFX:=hE0 hnfx;have HSL:=hE0 (hsl.trans hbl);clear hx hcl p0 p1 p2 hbe hb4 hw4 n4 hsm4 hset hsm hlay hdat hnfx hsl hbl hbb
    cases xu with
    | false=>
     go_wp2_with (first | (rw[HW4.out]) | fail)
     refine HSETX.out.mono ?_;rintro e w5 ⟨rfl,hbec⟩;obtain⟨A5,c5,s5⟩:=HSM4.out.became hbec;have hx5:w5.heap[wr.heap.size]?=_:=(by obtain⟨_,_,_,ht5,_⟩:=hbec;exact(ht5.block _ (aaa HN4.out) HNFX.out).trans HN4.out);have HSM5:=hE0 s5;have HF2:Hid (agb (ac6 bs ⟨xo,xz,false⟩) (L.drop (j+1)) (d.drop v)=F):=(show _=_ by rw[<-HLAY.out,ao0 rfl]);have HD2:Hid (afT (L.drop (j+1)) (d.drop v)):=(show afT _ _ by have:=HDAT.out;unfold afT at this;simpa using this);clear e0 e1 e2 hl4 hbec s5 r0 r1 r2;obtain⟨e0,e1,e2⟩:=aac hx5;have hl5:=aaa hx5;clear hx5;go_wp2_with fail
     go_roundw
     case rel=>exact⟨j+1,v,A5,c5,_,o,by go_num,rfl,by omega,by omega,HSM5.out,HSL.out,HF2.out,HD2.out⟩
     case measure=>simp only[intOf];omega
    | true=>
     obtain⟨y,d',hdv⟩:∃y d',d.drop v=y::d':=by
      have:=HDAT.out;unfold afT at this;simp only[if_true]at this
      cases hdd:d.drop v with
      | nil=>rw[hdd]at this;exact this.elim
      | cons y d'=>exact⟨y,d',rfl⟩
     have hyd:d[v]?=some y:=by
      have:(d.drop v)[0]?=some y:=by rw[hdv];rfl
      rwa [List.getElem?_drop,Nat.add_zero]at this
     have hd':d.drop (v+1)=d':=by rw[<-List.drop_drop,hdv];rfl
     have hvd:v<dl:=by rw[<-HDL.out];exact(List.getElem?_eq_some_iff.1 hyd).1
     have hda:=HDAT.out;rw[hdv]at hda;unfold afT at hda;simp only[if_true]at hda;obtain⟨hyl,hd2⟩:=hda;have HF2:Hid (agb (lay (ac6 bs ⟨xo,xz,true⟩) (xo+8) y) (L.drop (j+1)) (d.drop (v+1))=F):=(show _=_ by rw[<-HLAY.out,hdv,hd',aoZ rfl]);have HD2:Hid (afT (L.drop (j+1)) (d.drop (v+1))):=(show afT _ _ by rw[hd'];exact hd2);obtain⟨b3,o3,rfl,hb3,hc3⟩:=HDR.out (by rw[HDL.out];omega);obtain⟨A',kz,z0,zr,zl,_,_⟩:=hc3 v y hyd;obtain⟨yn,hyn⟩:=nmE y.length;rw[hyn]at z0 zr hyl;have HYN:=hE0 hyn;have HZR:=hE0 zr;have hlay2:(lay (ac6 bs ⟨xo,xz,true⟩) (xo+8) y).length=n:=by rw[acj _ _ _ (by rw[HSL.out,hyn];omega)];exact HSL.out
     have HLL2:=hE0 hlay2;obtain⟨ad,had⟩:=nmE (base+xo+8);obtain⟨bx,hbx⟩:=nmE (base+xo);have i3:(base:Int)+(xo:Int)=(bx:Int):=by omega
     have i1:(bx:Int)+8=(ad:Int):=by omega
     have i2:ad<18446744073709551616:=by omega
     have i4:bx<18446744073709551616:=by omega
     have hvi:(v:Int)<(dl:Int):=by omega
     have HSTO:=hE0 (fun W' A5 c5 (h:Ar W' 160 g base cap A5 c5 (ac6 bs ⟨xo,xz,true⟩)) (hr:Rd W' wB.heap.size A' y.length y)=>ak2 h (by rw[HSL.out];omega) ad (xo+8) A' kz y wB.heap.size hr (by omega) (by omega) (by omega) (by rw[HSL.out,hyn];omega));rw[hyn]at HSTO;clear hdv hyd hd' hd2 hyn hlay2 zr hc3 had hbx zl hyl m1 m2 m3 m4 m5;go_wp2_with (first | (rw[HW4.out]) | fail)
     refine HSETX.out.mono ?_;rintro e w5 ⟨rfl,hbec⟩;obtain⟨A5,c5,s5⟩:=HSM4.out.became hbec;have hx5:w5.heap[wr.heap.size]?=_:=(by obtain⟨_,_,_,ht5,_⟩:=hbec;exact(ht5.block _ (aaa HN4.out) HNFX.out).trans HN4.out);clear e0 e1 e2 hl4 hbec r0 r1 r2;obtain⟨e0,e1,e2⟩:=aac hx5;have hl5:=aaa hx5;obtain⟨wd,hwd⟩:=nmE w5.drew;have hbd:=adE hwd;have hsmd:=s5.below hbd;obtain⟨q0,q1,q2⟩:=aac ((hbd.block _ hl5).trans hx5);have hld:=Nat.lt_of_lt_of_le hl5 hbd.size;obtain⟨u0,u1,u2⟩:=aac hsmd.ob;have hlu:=ajM hsmd.ob;have hbB:=hsmd.st.bel;have z4:=(hbB.cell (p:=⟨b3,o3+v,none⟩) hb3).trans z0;have hb3d:=Nat.lt_of_lt_of_le hb3 hbB.size;have HBASE:=hE0 (ac7 hsmd.st.ar);have HSTOX:=hE0 (HSTO.out wd A5 c5 hsmd.st.ar (HZR.out.below hbB));have HSMD:=hE0 hsmd;have HWD:=hE0 hwd;clear hx5 hwd hbd s5 hsmd hbB z0;go_wp2_with fail
     refine aad wd.heap.size [([0,1,3,4,5,8,9,10,11,12],2)] [6,7] [13] (by kernel_rfl) (by kernel_rfl) (by kernel_rfl) (fun _ _ _ _ _ h=>h) ?_;rw[HWD.out];have v0:=tfE q0 hld;have v1:=tfE u2 hlu;have v2:=tfE z4 hb3d;refine tail_cons (l:= ?segA) ?hsegA ?_
     case hsegA=>simp only[pick,lE1,lE2,lE3];rfl
     repeat (go_big_quiet_step (fail))
     refine wpQuiet_nil ?_;clear v0 v1 v2;refine aaf (vs:= #[.pointer (some ⟨g,0,none⟩)]) Tryz.call76 rfl rfl rfl (R:=fun r w'=>r= .int .u64 (base:Int)/\w'=wd) (HBASE.out.mono ?_) wd.heap.size (Nat.le_refl _) ?_
     · rintro e w' ⟨rfl,rfl⟩;exact⟨_,rfl,Below.refl _ _,rfl,rfl⟩
     rintro r w' _ ⟨rfl,rfl⟩;simp only[Act.put,lE4,lE5,lE6];refine aam (l:= ?lastA) (t:= ?tailA) ?hlastA ?htailA ?_
     case hlastA=>simp only[pick,lE1,lE2,lE3];rfl
     case htailA=>simp only[pick,lE1,lE2,lE3];rfl
     repeat (go_big_quiet_step (fail))
     refine wpQuiet_nil ?_;clear q0 q1 q2 hld u0 u1 u2 hlu z4 hb3d e0 e1 e2 hl5;go_wp2_with fail
     refine HSTOX.out.mono ?_;rintro e w6 ⟨rfl,hbe6⟩;obtain⟨A6,c6,s6⟩:=HSMD.out.became hbe6;have HSM6:=hE0 s6;clear hbe6 s6;go_wp2_with fail
     go_roundw
     case rel=>exact⟨j+1,v+1,A6,c6,_,o,by go_num,by go_num,by omega,by omega,HSM6.out,HLL2.out,HF2.out,HD2.out⟩
     case measure=>simp only[intOf];omega
  · have hd0:L.drop j= []:=List.drop_eq_nil_of_le (by rw[HM.out];omega);rw[hd0]at hlay;have hbF:bs=F:=hlay;subst hbF;have HSM:=hE0 hsm.st;clear hsm hlay hdat hd0 hbl;go_wp2
    go_end0
    exact⟨rfl,A,c,HSM.out⟩
def aiL (n:Int) (l:List Rk) (d:List (List UInt8)):Option (List UInt8):=abW (agb (List.replicate n.toNat 0) (l.map toB) d)
theorem ao2 (w:World) (n:Int) (hn: -9223372036854775808<=n/\n<=9223372036854775807) (A1 A2:Option Addr) (k1 k2:Nat) (l:List Rk) (d:List (List UInt8)) (hr:RkRd w w.heap.size A1 l) (hd:DtRd w w.heap.size A2 d) (hl:l.length<=1000000) (hdl:d.length<=1000000) (base:Nat) (hb:base<18446744073709551616) (cap:Int) (hc: -9223372036854775808<=cap/\cap<=9223372036854775807) (hm:acG n l d=true) (hno:base%16≠0\/4611686018427387904<base\/cap<1024\/16384<cap):
 Calls Tryz.prog 72 #[.agg #[.int .i64 n, .slice A1 l.length k1, .slice A2 d.length k2], .int .u64 (base:Int), .int .i64 cap] w fun e w'=>e= .returned (.tuple #[.pointer none, .iface 90 (.int .i64 1)])/\Below w.heap.size w w':=by
 obtain⟨w1,hw1⟩:=nmE (w.alloc (.cells #[.int .i64 n, .slice A1 l.length k1, .slice A2 d.length k2] 110));have hb1:=abE hw1;have n1:=anE hw1;have hmay:=ae1 w1 n hn A1 A2 k1 k2 l d ((hr.below hb1).more hb1.size) ((hd.below hb1).more hb1.size) hl hdl _ hm;unfold imV at hmay;obtain⟨c0,c1,c2⟩:=aac n1;have hl1:=aaa n1;have HMAY:=hE0 hmay;have HB1:=hE0 hb1;have HN1:=hE0 n1;have HW1:=hE0 hw1;have HR:=hE0 hr;have HD:=hE0 hd;have HNO:=hE0 (fun W=>asp W base cap hb hc hno);clear hmay hb1 n1 hw1 hr hd hm hno;go_enter Tryz.func72,Tryz.ntmps72
 go_wp2_with (first | (rw[HW1.out]) | fail)
 refine HMAY.out.mono ?_;rintro e w2 ⟨rfl,hb2⟩;have HB2:=hE0 (HB1.out.trans (hb2.mono HB1.out.size));have n2:=(hb2.block _ (aaa HN1.out)).trans HN1.out;have HN2:=hE0 n2;clear c0 c1 c2 hl1 hb2;obtain⟨c0,c1,c2⟩:=aac n2;have hl2:=aaa n2;clear n2;go_wp2_with fail
 refine(HNO.out w2).mono ?_;rintro e w3 ⟨rfl,rfl⟩;go_wp2
 go_ret2
 exact⟨rfl,HB2.out⟩
theorem amZ (w:World) (n:Int) (hn: -9223372036854775808<=n/\n<=9223372036854775807) (A1 A2:Option Addr) (k1 k2:Nat) (l:List Rk) (d:List (List UInt8)) (hr:RkRd w w.heap.size A1 l) (hd:DtRd w w.heap.size A2 d) (hl:l.length<=1000000) (hdl:d.length<=1000000) (base:Nat) (_hb:base<18446744073709551616) (cap:Int) (hc: -9223372036854775808<=cap/\cap<=9223372036854775807) (hm:acG n l d=true) (h1:base%16=0) (h2:base<=4611686018427387904) (h3:1024<=cap) (h4:cap<=16384) (hlg:cap<n):
 Calls Tryz.prog 72 #[.agg #[.int .i64 n, .slice A1 l.length k1, .slice A2 d.length k2], .int .u64 (base:Int), .int .i64 cap] w fun e w'=>e= .returned (.tuple #[.pointer none, .iface 90 (.int .i64 10)])/\Below w.heap.size w w':=by
 obtain⟨cn,rfl⟩:∃cn:Nat,cap=(cn:Int):=⟨cap.toNat,by omega⟩;have g1:decide ((cn:Int)<n)=true:=decide_eq_true hlg;obtain⟨w1,hw1⟩:=nmE (w.alloc (.cells #[.int .i64 n, .slice A1 l.length k1, .slice A2 d.length k2] 110));have hb1:=abE hw1;have n1:=anE hw1;have hmay:=ae1 w1 n hn A1 A2 k1 k2 l d ((hr.below hb1).more hb1.size) ((hd.below hb1).more hb1.size) hl hdl _ hm;unfold imV at hmay;obtain⟨c0,c1,c2⟩:=aac n1;have hl1:=aaa n1;have HMAY:=hE0 hmay;have HB1:=hE0 hb1;have HN1:=hE0 n1;have HW1:=hE0 hw1;have HR:=hE0 hr;have HD:=hE0 hd;have HNEW:=hE0 (fun W=>aj2 W base cn h1 h2 (by omega) (by omega));clear hmay hb1 n1 hw1 hr hd hm;go_enter Tryz.func72,Tryz.ntmps72
 go_wp2_with (first | (rw[HW1.out]) | fail)
 refine HMAY.out.mono ?_;rintro e w2 ⟨rfl,hb2⟩;have HB2:=hE0 (HB1.out.trans (hb2.mono HB1.out.size));have n2:=(hb2.block _ (aaa HN1.out)).trans HN1.out;have HN2:=hE0 n2;clear c0 c1 c2 hl1 hb2;obtain⟨c0,c1,c2⟩:=aac n2;have hl2:=aaa n2;clear n2;go_wp2_with fail
 refine(HNEW.out w2).mono ?_;rintro e w3 ⟨rfl,har,hb3⟩;have HB3:=hE0 (HB2.out.trans (hb3.mono HB2.out.size));have n3:=(hb3.block _ (aaa HN2.out)).trans HN2.out;clear har hb3 c0 c1 c2 hl2;obtain⟨c0,c1,c2⟩:=aac n3;have hl3:=aaa n3;clear n3;go_wp2
 go_ret2
 exact⟨rfl,HB3.out⟩
theorem asd (w:World) (n:Int) (hn: -9223372036854775808<=n/\n<=9223372036854775807) (A1 A2:Option Addr) (k1 k2:Nat) (l:List Rk) (d:List (List UInt8)) (hr:RkRd w w.heap.size A1 l) (hd:DtRd w w.heap.size A2 d) (hl:l.length<=1000000) (hdl:d.length<=1000000) (base:Nat) (_hb:base<18446744073709551616) (cap:Int) (hc: -9223372036854775808<=cap/\cap<=9223372036854775807) (hm:acG n l d=true) (h1:base%16=0) (h2:base<=4611686018427387904) (h3:1024<=cap) (h4:cap<=16384) (hlg:n<=cap):
 Calls Tryz.prog 72 #[.agg #[.int .i64 n, .slice A1 l.length k1, .slice A2 d.length k2], .int .u64 (base:Int), .int .i64 cap] w fun e w'=>∃out H q g A c,aiL n l d=some out/\e= .returned (.tuple #[.pointer (some ⟨q,0,none⟩), .nilIface])/\PH w' q g base cap.toNat A c out H/\w.heap.size<=q/\w.heap.size<=g/\(∀a,A=some a->w.heap.size<=a.block)/\Below w.heap.size w w':=by
 obtain⟨cn,rfl⟩:∃cn:Nat,cap=(cn:Int):=⟨cap.toNat,by omega⟩;have hlo:ab3 n=true:=by unfold acG at hm;rw[Bool.and_eq_true]at hm;exact hm.1
 have hlB:=(aaN n).1 hlo;obtain⟨N,rfl⟩:∃N:Nat,n=(N:Int):=⟨n.toNat,by omega⟩;have g1:decide ((cn:Int)<(N:Int))=false:=decide_eq_false (by omega);have g1':decide (cn<N)=false:=decide_eq_false (by omega);obtain⟨out,hw0,hl0,hre,hck,hwk,hol,_⟩:=afJ hm;have hrow:abe (N:Int) 184 false l=true:=by unfold acG at hm;simp only[Bool.and_eq_true]at hm;exact hm.2.1
 have hdat:datOk l d=true:=by unfold acG at hm;simp only[Bool.and_eq_true]at hm;exact hm.2.2
 obtain⟨htile,hmap,hz⟩:=afg (o:=184) hrow;rw[Int.toNat_natCast]at htile;have hdb:=afh (fun x hx=>⟨(hz x hx).1,(hz x hx).2.1⟩) hdat;have HLAYOF:Hid (aiL (N:Int) l d=some out):=(show _=_ by unfold aiL;rw[Int.toNat_natCast];exact hre);obtain⟨mid,hmid⟩:=nmE (agb (List.replicate N 0) (l.map toB) d);rw[hmid]at hl0 hre;obtain⟨L,hL⟩:=nmE (l.map toB);have hLl:L.length=l.length:=by rw[<-hL,List.length_map]
 rw[hL]at htile hdb hmap hmid;have HLY:=hE0 (fun wB W g A c (hst:St wB W g base cn A c (List.replicate N 0) []) (hrr:RkRd wB wB.heap.size A1 l) (hdd:DtRd wB wB.heap.size A2 d)=>ao1 wB W g base cn c A (List.replicate N 0) N L d A1 A2 k1 k2 (N:Int) hst h2 (by simp) (by omega) htile hdb (by rw[<-hmap];exact hrr) hdd);rw[hLl,hmid]at HLY;have HRE:=hE0 (fun W g A c (h:Ar W 160 g base cn A c mid)=>aqc W g base cn c A mid _ h h2 (by omega) hre);dsimp only[ap7,abm]at HRE;have HOF:=hE0 (fun W g A c (h:Ar W 160 g base cn A c out)=>aqJ h h2 (by omega) (by omega) hck);obtain⟨w1,hw1⟩:=nmE (w.alloc (.cells #[.int .i64 (N:Int), .slice A1 l.length k1, .slice A2 d.length k2] 110));have hb1:=abE hw1;have n1:=anE hw1;have hmay:=ae1 w1 (N:Int) hn A1 A2 k1 k2 l d ((hr.below hb1).more hb1.size) ((hd.below hb1).more hb1.size) hl hdl _ hm;unfold imV at hmay;obtain⟨c0,c1,c2⟩:=aac n1;have hl1:=aaa n1;have HMAY:=hE0 hmay;have HB1:=hE0 hb1;have HN1:=hE0 n1;have HW1:=hE0 hw1;have HR:=hE0 hr;have HD:=hE0 hd;have HNEW:=hE0 (fun W=>aj2 W base cn h1 h2 (by omega) (by omega));clear hmay hb1 n1 hw1 hr hd hm hlo hw0 hl0 hre hck hwk hol hrow hdat htile hmap hz hdb hmid hL hLl hl hdl;go_enter Tryz.func72,Tryz.ntmps72
 go_wp2_with (first | (rw[HW1.out]) | fail)
 refine HMAY.out.mono ?_;rintro e w2 ⟨rfl,hb2⟩;have HB2:=hE0 (HB1.out.trans (hb2.mono HB1.out.size));have n2:=(hb2.block _ (aaa HN1.out)).trans HN1.out;have HN2:=hE0 n2;clear c0 c1 c2 hl1 hb2;obtain⟨c0,c1,c2⟩:=aac n2;have hl2:=aaa n2;clear n2;go_wp2_with fail
 refine(HNEW.out w2).mono ?_;rintro e w3 ⟨rfl,har,hb3⟩;have HB3:=hE0 (HB2.out.trans (hb3.mono HB2.out.size));have n3:=(hb3.block _ (aaa HN2.out)).trans HN2.out;obtain⟨g,hg⟩:=nmE w2.heap.size;rw[hg]at har;have hgm:w.heap.size<g:=by rw[<-hg];exact aaa HN2.out
 have HS3:Hid (Sm w2 w3 g base cn none 0 [] w.heap.size (.cells #[.int .i64 (N:Int), .slice A1 l.length k1, .slice A2 d.length k2] 110 (0,0))):=⟨⟨hb3,har,by omega,(fun a e=>by cases e),(fun q hq=>by cases hq)⟩,n3,fun hf=>by
  rcases hf with e | ⟨a,e,_⟩
  · omega
  · cases e⟩
 have HGR:=hE0 (aj3 har N (by simp) (by omega) (by simp;omega));rw[List.nil_append]at HGR;have HR2:=hE0 ((HR.out.below HB2.out).more HB2.out.size);have HD2:=hE0 ((HD.out.below HB2.out).more HB2.out.size);have HGEQ:=hE0 hg;clear har hb3 c0 c1 c2 hl2;rw[hg];clear hg;obtain⟨c0,c1,c2⟩:=aac n3;have hl3:=aaa n3;clear n3;go_wp2_with fail
 refine HGR.out.mono ?_;rintro e w4 ⟨rfl,hbe⟩;obtain⟨A4,c4,s4⟩:=HS3.out.became hbe;have HS4:=hE0 s4;clear c0 c1 c2 hl3 hbe s4;obtain⟨c0,c1,c2⟩:=aac HS4.out.ob;have hl4:=ajM HS4.out.ob;go_wp2_with fail
 refine(HLY.out w2 w4 g A4 c4 HS4.out.st HR2.out HD2.out).mono ?_;rintro e w5 ⟨rfl,A5,c5,s5⟩;have HS5:=hE0 s5;clear s5 c0 c1 c2 hl4 HLY;go_wp2_with fail
 refine(HRE.out w5 g A5 c5 HS5.out.ar).mono ?_;rintro e w6 ⟨rfl,hbe6⟩;obtain⟨A6,c6,s6⟩:=HS5.out.became hbe6;have HS6:=hE0 s6;clear hbe6 s6 HRE;go_wp2_with fail
 refine(HOF.out w6 g A6 c6 HS6.out.ar).mono ?_;rintro e w7 ⟨H,bs',⟨q1,g1x,A1x,c1x,bs1,he1,hp1,hb7,hq1,hg1x,hA1x⟩,_,hbs,q2,g2,A2x,c2x,he,hph⟩;rw[he]at he1;injection he1 with he1;injection he1 with he1;have he2:(Value.pointer (some ⟨q2,0,none⟩))= .pointer (some ⟨q1,0,none⟩):=by
  have:=congrArg (fun a=>a[0]?) he1;simpa using this
 injection he2 with he2;injection he2 with he2;injection he2 with he2 _ _;subst he2;have hgg:g2=g1x:=by
  have e1:=hph.obj;rw[hp1.obj]at e1;injection e1 with e1;injection e1 with e1 _ _;have:=congrArg (fun a=>a[0]?) e1;simp at this;exact this.symm
 subst hgg;have hAA:A2x=A1x:=by
  have e1:=hph.ar.obj;rw[hp1.ar.obj]at e1;injection e1 with e1;injection e1 with e1 _ _;have:=congrArg (fun a=>a[2]?) e1;simp at this;exact this.1.symm
 subst hAA;subst he;have HPH:=hE0 hph;have HBF:=hE0 (HB2.out.trans ((HS6.out.bel.trans (hb7.mono HS6.out.size)).mono HB2.out.size));have hlow:=Nat.le_trans HB2.out.size HS6.out.size;have HQ:=hE0 (Nat.le_trans hlow hq1);have HG:=hE0 (Nat.le_trans hlow hg1x);have HA:=hE0 (fun a (e:A2x=some a)=>Nat.le_trans hlow (hA1x a e));clear hp1 hb7 hq1 hg1x hA1x he1 hph hlow hbs HOF;go_wp2
 go_ret2
 exact⟨out,H,q2,g2,A2x,c2x,HLAYOF.out,rfl,by rw[Int.toNat_natCast];exact HPH.out,HQ.out,HG.out,HA.out,HBF.out⟩
theorem acr{w:World}{g:Nat}{t:TypeId}{y0 y1 y2 y3 y4 y5 y6 y7 y8 y9 y10 y11 y12 y13:Value}(h:w.heap[g]?=some (.cells #[y0,y1,y2,y3,y4,y5,y6,y7,y8,y9,y10,y11,y12,y13] t (0,0))):(w.cell? ⟨g,0,none⟩=some y0/\w.cell? ⟨g,1,none⟩=some y1/\w.cell? ⟨g,2,none⟩=some y2/\w.cell? ⟨g,3,none⟩=some y3/\w.cell? ⟨g,4,none⟩=some y4/\w.cell? ⟨g,5,none⟩=some y5/\w.cell? ⟨g,6,none⟩=some y6/\w.cell? ⟨g,7,none⟩=some y7/\w.cell? ⟨g,8,none⟩=some y8/\w.cell? ⟨g,9,none⟩=some y9/\w.cell? ⟨g,10,none⟩=some y10/\w.cell? ⟨g,11,none⟩=some y11/\w.cell? ⟨g,12,none⟩=some y12/\w.cell? ⟨g,13,none⟩=some y13)/\(w.frozen? ⟨g,0,none⟩=false/\w.frozen? ⟨g,1,none⟩=false/\w.frozen? ⟨g,2,none⟩=false/\w.frozen? ⟨g,3,none⟩=false/\w.frozen? ⟨g,4,none⟩=false/\w.frozen? ⟨g,5,none⟩=false/\w.frozen? ⟨g,6,none⟩=false/\w.frozen? ⟨g,7,none⟩=false/\w.frozen? ⟨g,8,none⟩=false/\w.frozen? ⟨g,9,none⟩=false/\w.frozen? ⟨g,10,none⟩=false/\w.frozen? ⟨g,11,none⟩=false/\w.frozen? ⟨g,12,none⟩=false/\w.frozen? ⟨g,13,none⟩=false)/\g<w.heap.size:=by
 have hc:∀(i:Nat) (v:Value),(#[y0,y1,y2,y3,y4,y5,y6,y7,y8,y9,y10,y11,y12,y13]:Array Value)[i]?=some v->w.cell? ⟨g,i,none⟩=some v:=fun i v e=>by rw[cell_of_row w g i _ _ (0,0) h];exact e
 have hf:∀i:Nat,w.frozen? ⟨g,i,none⟩=false:=fun i=>frozen_of_row w g i _ _ h;exact⟨⟨hc 0 _ rfl,hc 1 _ rfl,hc 2 _ rfl,hc 3 _ rfl,hc 4 _ rfl,hc 5 _ rfl,hc 6 _ rfl,hc 7 _ rfl,hc 8 _ rfl,hc 9 _ rfl,hc 10 _ rfl,hc 11 _ rfl,hc 12 _ rfl,hc 13 _ rfl⟩,⟨hf _,hf _,hf _,hf _,hf _,hf _,hf _,hf _,hf _,hf _,hf _,hf _,hf _,hf _⟩,aaa h⟩
theorem alR{w:World}{g:Nat}{t:TypeId}{y0 y1 y2 y3 y4 y5 y6 y7 y8 y9 y10 y11 y12 y13:Value}(h:Hid (w.heap[g]?=some (.cells #[y0,y1,y2,y3,y4,y5,y6,y7,y8,y9,y10,y11,y12,y13] t (0,0)))) (x0 x1 x2 x3 x4 x5 x6:Value):∃w',Hid ((((((((w.setCell ⟨g,0,none⟩ x0).setCell ⟨g,1,none⟩ x1).setCell ⟨g,2,none⟩ x2).setCell ⟨g,3,none⟩ x3).setCell ⟨g,4,none⟩ x4).setCell ⟨g,5,none⟩ x5).setCell ⟨g,6,none⟩ x6)=w')/\Hid (w'.heap[g]?=some (.cells #[x0,x1,x2,x3,x4,x5,x6,y7,y8,y9,y10,y11,y12,y13] t (0,0)))/\Hid (∀B v,B<=g->Below B v w->Below B v w')/\Hid (∀k,k≠g->w'.heap[k]?=w.heap[k]?)/\Hid (w'.heap.size=w.heap.size):=by
 have h0:=h.out;have h1:(_:Option Obj)=some (.cells #[x0,y1,y2,y3,y4,y5,y6,y7,y8,y9,y10,y11,y12,y13] t (0,0)):=heap_setCell_same _ g 0 _ _ x0 h0;have h2:(_:Option Obj)=some (.cells #[x0,x1,y2,y3,y4,y5,y6,y7,y8,y9,y10,y11,y12,y13] t (0,0)):=heap_setCell_same _ g 1 _ _ x1 h1;have h3:(_:Option Obj)=some (.cells #[x0,x1,x2,y3,y4,y5,y6,y7,y8,y9,y10,y11,y12,y13] t (0,0)):=heap_setCell_same _ g 2 _ _ x2 h2;have h4:(_:Option Obj)=some (.cells #[x0,x1,x2,x3,y4,y5,y6,y7,y8,y9,y10,y11,y12,y13] t (0,0)):=heap_setCell_same _ g 3 _ _ x3 h3;have h5:(_:Option Obj)=some (.cells #[x0,x1,x2,x3,x4,y5,y6,y7,y8,y9,y10,y11,y12,y13] t (0,0)):=heap_setCell_same _ g 4 _ _ x4 h4;have h6:(_:Option Obj)=some (.cells #[x0,x1,x2,x3,x4,x5,y6,y7,y8,y9,y10,y11,y12,y13] t (0,0)):=heap_setCell_same _ g 5 _ _ x5 h5;have h7:(_:Option Obj)=some (.cells #[x0,x1,x2,x3,x4,x5,x6,y7,y8,y9,y10,y11,y12,y13] t (0,0)):=heap_setCell_same _ g 6 _ _ x6 h6;exact⟨_,hE0 rfl,hE0 h7,hE0 (fun B v hB hv=>(Below.setCell (Below.setCell (Below.setCell (Below.setCell (Below.setCell (Below.setCell (Below.setCell hv (p:=⟨g,0,none⟩) hB _) (p:=⟨g,1,none⟩) hB _) (p:=⟨g,2,none⟩) hB _) (p:=⟨g,3,none⟩) hB _) (p:=⟨g,4,none⟩) hB _) (p:=⟨g,5,none⟩) hB _) (p:=⟨g,6,none⟩) hB _)),hE0 (fun k hk=>by rw[heap_setCell_other _ _ _ _ hk,heap_setCell_other _ _ _ _ hk,heap_setCell_other _ _ _ _ hk,heap_setCell_other _ _ _ _ hk,heap_setCell_other _ _ _ _ hk,heap_setCell_other _ _ _ _ hk,heap_setCell_other _ _ _ _ hk]),hE0 (by simp[World.setCell])⟩
theorem alS{w:World}{g:Nat}{t:TypeId}{y0 y1 y2 y3 y4 y5 y6 y7 y8 y9 y10 y11 y12 y13:Value}(h:Hid (w.heap[g]?=some (.cells #[y0,y1,y2,y3,y4,y5,y6,y7,y8,y9,y10,y11,y12,y13] t (0,0)))) (x0 x1 x2 x3 x4 x5 x6:Value):∃w',Hid ((((((((w.setCell ⟨g,7,none⟩ x0).setCell ⟨g,8,none⟩ x1).setCell ⟨g,9,none⟩ x2).setCell ⟨g,10,none⟩ x3).setCell ⟨g,11,none⟩ x4).setCell ⟨g,12,none⟩ x5).setCell ⟨g,13,none⟩ x6)=w')/\Hid (w'.heap[g]?=some (.cells #[y0,y1,y2,y3,y4,y5,y6,x0,x1,x2,x3,x4,x5,x6] t (0,0)))/\Hid (∀B v,B<=g->Below B v w->Below B v w')/\Hid (∀k,k≠g->w'.heap[k]?=w.heap[k]?)/\Hid (w'.heap.size=w.heap.size):=by
 have h0:=h.out;have h1:(_:Option Obj)=some (.cells #[y0,y1,y2,y3,y4,y5,y6,x0,y8,y9,y10,y11,y12,y13] t (0,0)):=heap_setCell_same _ g 7 _ _ x0 h0;have h2:(_:Option Obj)=some (.cells #[y0,y1,y2,y3,y4,y5,y6,x0,x1,y9,y10,y11,y12,y13] t (0,0)):=heap_setCell_same _ g 8 _ _ x1 h1;have h3:(_:Option Obj)=some (.cells #[y0,y1,y2,y3,y4,y5,y6,x0,x1,x2,y10,y11,y12,y13] t (0,0)):=heap_setCell_same _ g 9 _ _ x2 h2;have h4:(_:Option Obj)=some (.cells #[y0,y1,y2,y3,y4,y5,y6,x0,x1,x2,x3,y11,y12,y13] t (0,0)):=heap_setCell_same _ g 10 _ _ x3 h3;have h5:(_:Option Obj)=some (.cells #[y0,y1,y2,y3,y4,y5,y6,x0,x1,x2,x3,x4,y12,y13] t (0,0)):=heap_setCell_same _ g 11 _ _ x4 h4;have h6:(_:Option Obj)=some (.cells #[y0,y1,y2,y3,y4,y5,y6,x0,x1,x2,x3,x4,x5,y13] t (0,0)):=heap_setCell_same _ g 12 _ _ x5 h5;have h7:(_:Option Obj)=some (.cells #[y0,y1,y2,y3,y4,y5,y6,x0,x1,x2,x3,x4,x5,x6] t (0,0)):=heap_setCell_same _ g 13 _ _ x6 h6;exact⟨_,hE0 rfl,hE0 h7,hE0 (fun B v hB hv=>(Below.setCell (Below.setCell (Below.setCell (Below.setCell (Below.setCell (Below.setCell (Below.setCell hv (p:=⟨g,7,none⟩) hB _) (p:=⟨g,8,none⟩) hB _) (p:=⟨g,9,none⟩) hB _) (p:=⟨g,10,none⟩) hB _) (p:=⟨g,11,none⟩) hB _) (p:=⟨g,12,none⟩) hB _) (p:=⟨g,13,none⟩) hB _)),hE0 (fun k hk=>by rw[heap_setCell_other _ _ _ _ hk,heap_setCell_other _ _ _ _ hk,heap_setCell_other _ _ _ _ hk,heap_setCell_other _ _ _ _ hk,heap_setCell_other _ _ _ _ hk,heap_setCell_other _ _ _ _ hk,heap_setCell_other _ _ _ _ hk]),hE0 (by simp[World.setCell])⟩
def aqS (x y:Sk) (A1:Option Addr) (c1:Nat) (A2:Option Addr) (c2:Nat) (B1:Option Addr) (k1:Nat) (B2:Option Addr) (k2:Nat):Value:= .agg #[.int .u64 (x.G:Int), .int .u64 (x.N:Int), .int .u32 (x.S:Int), .bool x.ok, .int .i64 (x.n:Int), .slice A1 x.l.length c1, .slice A2 x.d.length c2, .int .u64 (y.G:Int), .int .u64 (y.N:Int), .int .u32 (y.S:Int), .bool y.ok, .int .i64 (y.n:Int), .slice B1 y.l.length k1, .slice B2 y.d.length k2]
def atR (x y:Sk) (w:World) (e:Ending) (w':World):Prop:=
 ∃A1 c1 A2 c2 B1 k1 B2 k2,e= .returned (.tuple #[aqS x y A1 c1 A2 c2 B1 k1 B2 k2, .nilIface])/\(RkRd w' w'.heap.size A1 x.l/\DtRd w' w'.heap.size A2 x.d)/\(RkRd w' w'.heap.size B1 y.l/\DtRd w' w'.heap.size B2 y.d)/\Below w.heap.size w w'
theorem asX{fn:Func}{R:Ending->World->Prop}{a:Act}{w:World}{p u:Tmp}{g:Nat}{x y0 y1 y2 y3 y4 y5 y6 y7 y8 y9 y10 y11 y12 y13:Value}(hres:fn.results= #[.cell p 113, .tmp u]) (hp:a.tmps.getD p undef= .pointer (some ⟨g,0,none⟩)) (hx:a.tmps.getD u undef=x) (hd:a.defers= [])
 (hg:w.heap[g]?=some (.cells #[y0,y1,y2,y3,y4,y5,y6,y7,y8,y9,y10,y11,y12,y13] 113 (0,0))) (hR:R (.returned (.tuple #[.agg #[y0,y1,y2,y3,y4,y5,y6,y7,y8,y9,y10,y11,y12,y13],x])) w):bodyPost Tryz.prog fn R .ret a w:=by
 obtain⟨⟨pc0,pc1,pc2,pc3,pc4,pc5,pc6,pc7,pc8,pc9,pc10,pc11,pc12,pc13⟩,⟨pf0,pf1,pf2,pf3,pf4,pf5,pf6,pf7,pf8,pf9,pf10,pf11,pf12,pf13⟩,hlp⟩:=acr hg;refine bodyPost_ret (v:= .tuple #[.agg #[y0,y1,y2,y3,y4,y5,y6,y7,y8,y9,y10,y11,y12,y13],x]) ?_ hd hR;rw[results_cell_tmp hres,hp,hx];simp[go_sem,pc0,pc1,pc2,pc3,pc4,pc5,pc6,pc7,pc8,pc9,pc10,pc11,pc12,pc13]
theorem RkRd.off14{w w':World}{B g:Nat}{A:Option Addr}{l:List Rk}{t:TypeId}{fr:Nat × Nat}{a0 a1 a2 a4 b0 b1 b2 b4:Int}{a3 b3:Bool}{S1 S2 S3 S4:Option Addr}{n1 m1 n2 m2 n3 m3 n4 m4:Nat}(h:RkRd w B A l) (hg:w.heap[g]?=some (.cells #[.int .u64 a0, .int .u64 a1, .int .u32 a2, .bool a3, .int .i64 a4, .slice S1 n1 m1, .slice S2 n2 m2, .int .u64 b0, .int .u64 b1, .int .u32 b2, .bool b3, .int .i64 b4, .slice S3 n3 m3, .slice S4 n4 m4] t fr)) (hk:∀k,k≠g->w'.heap[k]?=w.heap[k]?):RkRd w' B A l:=fun hn=>by
 obtain⟨b,o,e,hB,hc⟩:=h hn;have hbg:b≠g:=by
  intro e2;subst e2;obtain⟨x,hx⟩:∃x,l[0]?=some x:=⟨l[0]'hn,List.getElem?_eq_getElem _⟩;obtain⟨h0,h1,_⟩:=hc 0 x hx;rw[cell_of_row _ _ _ _ _ _ hg]at h0 h1;rcases o with _ | _ | _ | _ | _ | _ | _ | _ | _ | _ | _ | _ | _ | _ | o<;>simp at h0 h1
 refine⟨b,o,e,hB,fun j x hx=> ?_⟩;obtain⟨h0,h1,h2,h3⟩:=hc j x hx;have hh:=hk b hbg;refine⟨?_,?_,?_,h3⟩
 · rw[<-h0];simp[World.cell?,hh]
 · rw[<-h1];simp[World.cell?,hh]
 · rw[<-h2];simp[World.cell?,hh]
theorem DtRd.off14{w w':World}{B g:Nat}{A:Option Addr}{l:List (List UInt8)}{t:TypeId}{fr:Nat × Nat}{a0 a1 a2 a4 b0 b1 b2 b4:Int}{a3 b3:Bool}{S1 S2 S3 S4:Option Addr}{n1 m1 n2 m2 n3 m3 n4 m4:Nat}(h:DtRd w B A l) (hA:∀a,A=some a->a.block≠g) (hg:w.heap[g]?=some (.cells #[.int .u64 a0, .int .u64 a1, .int .u32 a2, .bool a3, .int .i64 a4, .slice S1 n1 m1, .slice S2 n2 m2, .int .u64 b0, .int .u64 b1, .int .u32 b2, .bool b3, .int .i64 b4, .slice S3 n3 m3, .slice S4 n4 m4] t fr)) (hk:∀k,k≠g->w'.heap[k]?=w.heap[k]?):DtRd w' B A l:=fun hn=>by
 obtain⟨b,o,e,hB,hc⟩:=h hn;refine⟨b,o,e,hB,fun j x hx=> ?_⟩;obtain⟨A',k,h1,h2,h3⟩:=hc j x hx;refine⟨A',k,by rw[<-h1];simp[World.cell?,hk b (hA _ e)],⟨h2.1,fun hn=> ?_⟩,h3⟩;obtain⟨b2,o2,e2,hB2,hc2⟩:=h2.2 hn;have hbg:b2≠g:=by
  intro e3;subst e3;obtain⟨u,hu⟩:∃u,x[0]?=some u:=⟨x[0]'hn,List.getElem?_eq_getElem _⟩;have h0:=hc2 0 u hu;rw[cell_of_row _ _ _ _ _ _ hg]at h0;rcases o2 with _ | _ | _ | _ | _ | _ | _ | _ | _ | _ | _ | _ | _ | _ | o2<;>simp at h0
 exact⟨b2,o2,e2,hB2,fun j u hu=>by rw[<-hc2 j u hu];simp[World.cell?,hk b2 hbg]⟩
section
variable {N:Nat} {S:Nat->Prop} {w:World} {g:Nat} {s:Dst}
theorem ajN (h:DS N S w g s) (half:Nat) (hh:N/2=half) (h1:1<=half) (hN2:N<=128) (ho:s.off=false) (x y:Sk) (hx:abw s.bs s.wt half 0=x) (hy:abw s.bs s.wt half 1=y):
 Calls Tryz.prog 55 #[.pointer (some ⟨g,0,none⟩)] w fun e w'=>atR x y w e w':=by
 obtain⟨w1,ha1⟩:=nmE (w.alloc (.cells #[.int .u64 0, .int .u64 0, .int .u32 0, .bool false, .int .i64 0, .slice none 0 0, .slice none 0 0, .int .u64 0, .int .u64 0, .int .u32 0, .bool false, .int .i64 0, .slice none 0 0, .slice none 0 0] 113));have n1:=anE ha1;have b1:=abE ha1;obtain⟨w2,ha2⟩:=nmE (w1.alloc (.cells #[.int .u64 0, .int .u64 0, .int .u32 0, .bool false, .int .i64 0, .slice none 0 0, .slice none 0 0, .int .u64 0, .int .u64 0, .int .u32 0, .bool false, .int .i64 0, .slice none 0 0, .slice none 0 0] 113));have m2:=anE ha2;have b2:=abE ha2;have HB2:=hE0 (b1.trans (b2.mono b1.size));have n2:=hE0 ((b2.block _ (aaa n1)).trans n1);have M2:=hE0 m2;have HA1:=hE0 ha1;have HA2:=hE0 ha2;have hqr:Hid (w.heap.size<w1.heap.size):=(show _<_ from aaa n1);have HALF:=hE0 (fun W (hW:Below w.heap.size w W)=>agW (h.below hW) hN2 half hh);have HF0:=hE0 (fun W (hW:Below w.heap.size w W)=>alQ (h.below hW) hN2 ho half hh h1 0 (by omega) x (by unfold abw at hx;rw[Nat.zero_mul]at hx;exact hx));have HF1:=hE0 (fun W (hW:Below w.heap.size w W)=>alQ (h.below hW) hN2 ho half hh h1 half (by omega) y (by unfold abw at hy;rw[Nat.one_mul]at hy;exact hy));obtain⟨xG,xN,xS,xo,xn,xl,xd⟩:=x;obtain⟨yG,yN,yS,yo,yn,yl,yd⟩:=y;clear h ha1 n1 b1 ha2 b2 ho m2 hx hy;obtain⟨q,hq⟩:=nmE w1.heap.size;rw[hq]at M2 hqr;have hh64:half<=64:=by omega
 clear hh;go_enter Tryz.func55,Tryz.ntmps55
 go_wp2_with (first | (rw[HA1.out]) | (rw[HA2.out]) | fail)
 (try rw[hq])
 go_loopw [8] (fun t W=>∃j:Nat,t= .int .i64 (j:Int)/\Below w.heap.size w W/\W.heap[w.heap.size]?=some (.cells #[.int .u64 0, .int .u64 0, .int .u32 0, .bool false, .int .i64 0, .slice none 0 0, .slice none 0 0, .int .u64 0, .int .u64 0, .int .u32 0, .bool false, .int .i64 0, .slice none 0 0, .slice none 0 0] 113 (0,0))/\((j=0/\W.heap[q]?=some (.cells #[.int .u64 0, .int .u64 0, .int .u32 0, .bool false, .int .i64 0, .slice none 0 0, .slice none 0 0, .int .u64 0, .int .u64 0, .int .u32 0, .bool false, .int .i64 0, .slice none 0 0, .slice none 0 0] 113 (0,0)))\/(j=1/\∃A1 c1 A2 c2,W.heap[q]?=some (.cells #[.int .u64 (xG:Int), .int .u64 (xN:Int), .int .u32 (xS:Int), .bool xo, .int .i64 (xn:Int), .slice A1 xl.length c1, .slice A2 xd.length c2, .int .u64 0, .int .u64 0, .int .u32 0, .bool false, .int .i64 0, .slice none 0 0, .slice none 0 0] 113 (0,0))/\(RkRd W W.heap.size A1 xl/\DtRd W W.heap.size A2 xd)/\∀a,A2=some a->q<a.block)\/(j=2/\∃A1 c1 A2 c2 B1 k1 B2 k2,W.heap[q]?=some (.cells #[.int .u64 (xG:Int), .int .u64 (xN:Int), .int .u32 (xS:Int), .bool xo, .int .i64 (xn:Int), .slice A1 xl.length c1, .slice A2 xd.length c2, .int .u64 (yG:Int), .int .u64 (yN:Int), .int .u32 (yS:Int), .bool yo, .int .i64 (yn:Int), .slice B1 yl.length k1, .slice B2 yd.length k2] 113 (0,0))/\((RkRd W W.heap.size A1 xl/\DtRd W W.heap.size A2 xd)/\∀a,A2=some a->q<a.block)/\(RkRd W W.heap.size B1 yl/\DtRd W W.heap.size B2 yd)/\∀a,B2=some a->q<a.block))) (fun t _=>2-(intOf t).toNat)
 case atStart=>exact⟨0,rfl,HB2.out,n2.out, .inl ⟨rfl,M2.out⟩⟩
 case round=>
  obtain⟨j,rfl,hbr,nr,hrel⟩:=hrel;have HBR:=hE0 hbr;have NR:=hE0 nr;have hlr:=aaa nr;clear hbr nr;rcases hrel with⟨rfl,mr⟩ | ⟨rfl,A1,c1,A2,c2,mr,ir,ar⟩ | ⟨rfl,A1,c1,A2,c2,B1,k1,B2,k2,mr,⟨ir,ar⟩,iy,ay⟩
  · have MR:=hE0 mr;have hlq:=aaa MR.out;clear mr;go_wp2_with fail
    refine(HALF.out wr HBR.out).mono ?_;rintro e w3 ⟨rfl,rfl⟩;go_wp2_with fail
    refine(HF0.out wr HBR.out).mono ?_;rintro e w3 ⟨A1,c1,A2,c2,rfl,hr3,hd3,hA3,hb3⟩;unfold skV;dsimp only at hr3 hd3;dsimp only;have n3:=(hb3.block _ (aaa NR.out)).trans NR.out;have m3:=(hb3.block _ (aaa MR.out)).trans MR.out;obtain⟨w4,ha4,m4,b4⟩:=adS w3 112 (.int .u64 0) (.int .u64 0) (.int .u32 0) (.bool false) (.int .i64 0) (.slice none 0 0) (.slice none 0 0);obtain⟨w5,hp5,m5,b5,⟨y0,y1,y2,y3,y4,y5,y6⟩,⟨f0,f1,f2,f3,f4,f5,f6⟩,hlz⟩:=ajX m4 (.int .u64 (xG:Int)) (.int .u64 (xN:Int)) (.int .u32 (xS:Int)) (.bool xo) (.int .i64 (xn:Int)) (.slice A1 xl.length c1) (.slice A2 xd.length c2);have hb35:=b5.out w3.heap.size w3 (Nat.le_refl _) b4.out;have hbr5:=hb3.trans (hb35.mono hb3.size);have HB5:=hE0 (HBR.out.trans (hbr5.mono HBR.out.size));have n5:=hE0 ((hb35.block _ (aaa n3)).trans n3);have q5:=hE0 ((hb35.block _ (aaa m3)).trans m3);have HI5:Hid (RkRd w5 w5.heap.size A1 xl/\DtRd w5 w5.heap.size A2 xd):=⟨(hr3.below hb35).more hb35.size,(hd3.below hb35).more hb35.size⟩;have HA5:Hid (∀a,A2=some a->q<a.block):=(show ∀a,_->_ from fun a e=>by have:=hA3 a e;omega);obtain⟨⟨pc0,pc1,pc2,pc3,pc4,pc5,pc6,pc7,pc8,pc9,pc10,pc11,pc12,pc13⟩,⟨pf0,pf1,pf2,pf3,pf4,pf5,pf6,pf7,pf8,pf9,pf10,pf11,pf12,pf13⟩,hlp⟩:=acr q5.out;obtain⟨⟨v0,v1,v2,v3,v4,v5,v6⟩,_,hlv⟩:=acH m5.out;obtain⟨w6,hp6,n6,b6,k6,s6⟩:=alR q5 (.int .u64 (xG:Int)) (.int .u64 (xN:Int)) (.int .u32 (xS:Int)) (.bool xo) (.int .i64 (xn:Int)) (.slice A1 xl.length c1) (.slice A2 xd.length c2);clear n3 m3 hb3 hb35 hbr5 hr3 hd3 hA3;go_wp2_with (first | (rw[ha4.out]) | (rw[hp5.out]) | (rw[hp6.out]) | fail)
    go_roundw
    case rel=>
     have hqw:=hqr.out;refine⟨1,by go_num,b6.out _ _ (Nat.le_of_lt hqw) HB5.out,(k6.out _ (Nat.ne_of_lt hqw)).trans n5.out, .inr (.inl ⟨rfl,A1,c1,A2,c2,n6.out,⟨by rw[s6.out];exact HI5.out.1.off14 q5.out k6.out,by rw[s6.out];exact HI5.out.2.off14 (fun a e=>Nat.ne_of_gt (HA5.out a e)) q5.out k6.out⟩,HA5.out⟩)⟩
    case measure=>simp only[intOf];omega
  · have MR:=hE0 mr;have HIR:=hE0 ir;have HAR:=hE0 ar;have hlq:=aaa MR.out;clear mr ir ar;go_wp2_with fail
    refine(HALF.out wr HBR.out).mono ?_;rintro e w3 ⟨rfl,rfl⟩;go_wp2_with fail
    refine(HF1.out wr HBR.out).mono ?_;rintro e w3 ⟨B1,k1,B2,k2,rfl,hr3,hd3,hA3,hb3⟩;unfold skV;dsimp only at hr3 hd3;dsimp only;have n3:=(hb3.block _ (aaa NR.out)).trans NR.out;have m3:=(hb3.block _ (aaa MR.out)).trans MR.out;obtain⟨w4,ha4,m4,b4⟩:=adS w3 112 (.int .u64 0) (.int .u64 0) (.int .u32 0) (.bool false) (.int .i64 0) (.slice none 0 0) (.slice none 0 0);obtain⟨w5,hp5,m5,b5,⟨y0,y1,y2,y3,y4,y5,y6⟩,⟨f0,f1,f2,f3,f4,f5,f6⟩,hlz⟩:=ajX m4 (.int .u64 (yG:Int)) (.int .u64 (yN:Int)) (.int .u32 (yS:Int)) (.bool yo) (.int .i64 (yn:Int)) (.slice B1 yl.length k1) (.slice B2 yd.length k2);have hb35:=b5.out w3.heap.size w3 (Nat.le_refl _) b4.out;have hbr5:=hb3.trans (hb35.mono hb3.size);have HB5:=hE0 (HBR.out.trans (hbr5.mono HBR.out.size));have n5:=hE0 ((hb35.block _ (aaa n3)).trans n3);have q5:=hE0 ((hb35.block _ (aaa m3)).trans m3);have HI5:Hid (RkRd w5 w5.heap.size B1 yl/\DtRd w5 w5.heap.size B2 yd):=⟨(hr3.below hb35).more hb35.size,(hd3.below hb35).more hb35.size⟩;have HA5:Hid (∀a,B2=some a->q<a.block):=(show ∀a,_->_ from fun a e=>by have:=hA3 a e;omega);have HX5:Hid (RkRd w5 w5.heap.size A1 xl/\DtRd w5 w5.heap.size A2 xd):=⟨(HIR.out.1.below hbr5).more hbr5.size,(HIR.out.2.below hbr5).more hbr5.size⟩;obtain⟨⟨pc0,pc1,pc2,pc3,pc4,pc5,pc6,pc7,pc8,pc9,pc10,pc11,pc12,pc13⟩,⟨pf0,pf1,pf2,pf3,pf4,pf5,pf6,pf7,pf8,pf9,pf10,pf11,pf12,pf13⟩,hlp⟩:=acr q5.out;obtain⟨⟨v0,v1,v2,v3,v4,v5,v6⟩,_,hlv⟩:=acH m5.out;obtain⟨w6,hp6,n6,b6,k6,s6⟩:=alS q5 (.int .u64 (yG:Int)) (.int .u64 (yN:Int)) (.int .u32 (yS:Int)) (.bool yo) (.int .i64 (yn:Int)) (.slice B1 yl.length k1) (.slice B2 yd.length k2);clear n3 m3 hb3 hb35 hbr5 hr3 hd3 hA3;go_wp2_with (first | (rw[ha4.out]) | (rw[hp5.out]) | (rw[hp6.out]) | fail)
    go_roundw
    case rel=>
     have hqw:=hqr.out;refine⟨2,by go_num,b6.out _ _ (Nat.le_of_lt hqw) HB5.out,(k6.out _ (Nat.ne_of_lt hqw)).trans n5.out, .inr (.inr ⟨rfl,A1,c1,A2,c2,B1,k1,B2,k2,n6.out,⟨⟨by rw[s6.out];exact HX5.out.1.off14 q5.out k6.out,by rw[s6.out];exact HX5.out.2.off14 (fun a e=>Nat.ne_of_gt (HAR.out a e)) q5.out k6.out⟩,HAR.out⟩,⟨by rw[s6.out];exact HI5.out.1.off14 q5.out k6.out,by rw[s6.out];exact HI5.out.2.off14 (fun a e=>Nat.ne_of_gt (HA5.out a e)) q5.out k6.out⟩,HA5.out⟩)⟩
    case measure=>simp only[intOf];omega
  · obtain⟨⟨pc0,pc1,pc2,pc3,pc4,pc5,pc6,pc7,pc8,pc9,pc10,pc11,pc12,pc13⟩,⟨pf0,pf1,pf2,pf3,pf4,pf5,pf6,pf7,pf8,pf9,pf10,pf11,pf12,pf13⟩,hlp⟩:=acr NR.out;obtain⟨⟨qc0,qc1,qc2,qc3,qc4,qc5,qc6,qc7,qc8,qc9,qc10,qc11,qc12,qc13⟩,⟨qf0,qf1,qf2,qf3,qf4,qf5,qf6,qf7,qf8,qf9,qf10,qf11,qf12,qf13⟩,hlq⟩:=acr mr;obtain⟨w6,hp6,n6,b6,k6,s6⟩:=alR NR (.int .u64 (xG:Int)) (.int .u64 (xN:Int)) (.int .u32 (xS:Int)) (.bool xo) (.int .i64 (xn:Int)) (.slice A1 xl.length c1) (.slice A2 xd.length c2);obtain⟨w7,hp7,n7,b7,k7,s7⟩:=alS n6 (.int .u64 (yG:Int)) (.int .u64 (yN:Int)) (.int .u32 (yS:Int)) (.bool yo) (.int .i64 (yn:Int)) (.slice B1 yl.length k1) (.slice B2 yd.length k2);have HIR:=hE0 ir;have HIY:=hE0 iy;have HAR:=hE0 ar;have HAY:=hE0 ay;clear mr ir ar iy ay;go_wp2_with (first | (rw[hp6.out,hp7.out]) | fail)
    (try simp only[Exit.inBlock,Exit.then])
    refine asX (g:=w.heap.size) Tryz.results55 rfl rfl rfl n7.out ?_;have hs:w7.heap.size=wr.heap.size:=s7.out.trans s6.out;have hkk:∀k,k≠w.heap.size->w7.heap[k]?=wr.heap[k]?:=fun k hk=>(k7.out k hk).trans (k6.out k hk);refine⟨A1,c1,A2,c2,B1,k1,B2,k2,rfl,?_,?_,b7.out _ _ (Nat.le_refl _) (b6.out _ _ (Nat.le_refl _) HBR.out)⟩
    · rw[hs];exact⟨HIR.out.1.off14 NR.out hkk,HIR.out.2.off14 (fun a e=>by have:=HAR.out a e;have:=hqr.out;omega) NR.out hkk⟩
    · rw[hs];exact⟨HIY.out.1.off14 NR.out hkk,HIY.out.2.off14 (fun a e=>by have:=HAY.out a e;have:=hqr.out;omega) NR.out hkk⟩
end
theorem ao3{w1 W:World}{a b:Array Value}{t:TypeId}(h:((w1.alloc (.cells a t)).alloc (.cells b t)).drew=W):W.heap[w1.heap.size]?=some (.cells a t (0,0))/\W.heap[w1.heap.size+1]?=some (.cells b t (0,0))/\Below w1.heap.size w1 W:=by
 have hs:(w1.alloc (.cells a t)).heap.size=w1.heap.size+1:=by simp
 have h1:Below w1.heap.size w1 (w1.alloc (.cells a t)):=(Below.refl _ _).alloc (Nat.le_refl _) _;have h2:Below (w1.alloc (.cells a t)).heap.size (w1.alloc (.cells a t)) ((w1.alloc (.cells a t)).alloc (.cells b t)):=(Below.refl _ _).alloc (Nat.le_refl _) _;subst h;refine⟨(h2.block _ (by rw[hs];omega)).trans (heap_alloc_new w1 _),?_,(h1.trans (h2.mono h1.size)).drew⟩;have:=heap_alloc_new (w1.alloc (.cells a t)) (.cells b t);rw[hs]at this;exact this
theorem agX (w:World) (x y:Sk) (A1:Option Addr) (c1:Nat) (A2:Option Addr) (c2:Nat) (B1:Option Addr) (k1:Nat) (B2:Option Addr) (k2:Nat):
 Calls Tryz.prog 71 #[aqS x y A1 c1 A2 c2 B1 k1 B2 k2] w fun e w'=>e= .returned (.int .i64 (aeg x y))/\Below w.heap.size w w':=by
 unfold aqS;obtain⟨v,hv⟩:=nmE (aeg x y);rw[hv];obtain⟨xG,xN,xS,xo,xn,xl,xd⟩:=x;obtain⟨yG,yN,yS,yo,yn,yl,yd⟩:=y;dsimp only;obtain⟨w1,ha1⟩:=nmE (w.alloc (.cells #[.int .u64 (xG:Int), .int .u64 (xN:Int), .int .u32 (xS:Int), .bool xo, .int .i64 (xn:Int), .slice A1 xl.length c1, .slice A2 xd.length c2, .int .u64 (yG:Int), .int .u64 (yN:Int), .int .u32 (yS:Int), .bool yo, .int .i64 (yn:Int), .slice B1 yl.length k1, .slice B2 yd.length k2] 113));have n1:=anE ha1;have b1:=abE ha1;obtain⟨⟨pc0,pc1,pc2,pc3,pc4,pc5,pc6,pc7,pc8,pc9,pc10,pc11,pc12,pc13⟩,⟨pf0,pf1,pf2,pf3,pf4,pf5,pf6,pf7,pf8,pf9,pf10,pf11,pf12,pf13⟩,hlp⟩:=acr n1;have HA1:=hE0 ha1;have HB1:=hE0 b1;have HV:=hE0 hv;clear ha1 b1 hv;go_enter Tryz.func71,Tryz.ntmps71
 go_wp2_with (first | (rw[HA1.out]) | fail)
 have hF:∀(W:World) (u:Int),aeg ⟨xG,xN,xS,xo,xn,xl,xd⟩ ⟨yG,yN,yS,yo,yn,yl,yd⟩=u->Below w1.heap.size w1 W->Ending.returned (.int .i64 u)= .returned (.int .i64 v)/\Below w.heap.size w W:=fun W u hu hb=>⟨by rw[<-hu,HV.out],HB1.out.trans (hb.mono HB1.out.size)⟩;have HF:=hE0 hF;clear hF;go_region
 all_goals
  generalize hW:World.drew _=W;obtain⟨ra,rb,hbw⟩:=ao3 hW;obtain⟨⟨a0,a1,a2,a3,a4,a5,a6⟩,_,hla⟩:=acH ra;obtain⟨⟨b0,b1,b2,b3,b4,b5,b6⟩,_,hlb⟩:=acH rb;have HBW:=hE0 hbw;clear hW ra rb hbw pc0 pc1 pc2 pc3 pc4 pc5 pc6 pc7 pc8 pc9 pc10 pc11 pc12 pc13 pf0 pf1 pf2 pf3 pf4 pf5 pf6 pf7 pf8 pf9 pf10 pf11 pf12 pf13 hlp;by_cases hge:yG<=xG
  · have gg:decide ((yG:Int)<=(xG:Int))=true:=decide_eq_true (by omega)
    cases xo<;>cases yo;all_goals
     go_wp2_with fail
     go_ret
     first | exact HF.out _ 0 (by simp[aeg,hge]) HBW.out | exact HF.out _ 1 (by simp[aeg,hge]) HBW.out | exact HF.out _ (-1) (by simp[aeg,hge]) HBW.out
  · have gg:decide ((yG:Int)<=(xG:Int))=false:=decide_eq_false (by omega)
    cases xo<;>cases yo;all_goals
     go_wp2_with fail
     go_ret
     first | exact HF.out _ 0 (by simp[aeg,hge]) HBW.out | exact HF.out _ 1 (by simp[aeg,hge]) HBW.out | exact HF.out _ (-1) (by simp[aeg,hge]) HBW.out
theorem am0 (w:World) (x y:Sk) (A1:Option Addr) (c1:Nat) (A2:Option Addr) (c2:Nat) (B1:Option Addr) (k1:Nat) (B2:Option Addr) (k2:Nat):
 Calls Tryz.prog 60 #[aqS x y A1 c1 A2 c2 B1 k1 B2 k2] w fun e w'=>e= .returned (.int .i64 ((if aeg x y=0 then 1 else 0:Nat):Int))/\Below w.heap.size w w':=by
 have HNEW:=hE0 (fun W=>agX W x y A1 c1 A2 c2 B1 k1 B2 k2);have hcs:=adw x y;obtain⟨v,hv⟩:=nmE (aeg x y);rw[hv]at HNEW hcs;rw[hv];obtain⟨o,ho⟩:∃o:Nat,(if v=0 then 1 else 0)=o:=⟨_,rfl⟩;rw[ho];unfold aqS at HNEW ⊢;have HO:=hE0 ho;clear hv ho;obtain⟨xG,xN,xS,xo,xn,xl,xd⟩:=x;obtain⟨yG,yN,yS,yo,yn,yl,yd⟩:=y;dsimp only at HNEW ⊢;obtain⟨w1,ha1⟩:=nmE (w.alloc (.cells #[.int .u64 (xG:Int), .int .u64 (xN:Int), .int .u32 (xS:Int), .bool xo, .int .i64 (xn:Int), .slice A1 xl.length c1, .slice A2 xd.length c2, .int .u64 (yG:Int), .int .u64 (yN:Int), .int .u32 (yS:Int), .bool yo, .int .i64 (yn:Int), .slice B1 yl.length k1, .slice B2 yd.length k2] 113));have n1:=anE ha1;have b1:=abE ha1;obtain⟨⟨pc0,pc1,pc2,pc3,pc4,pc5,pc6,pc7,pc8,pc9,pc10,pc11,pc12,pc13⟩,⟨pf0,pf1,pf2,pf3,pf4,pf5,pf6,pf7,pf8,pf9,pf10,pf11,pf12,pf13⟩,hlp⟩:=acr n1;have HA1:=hE0 ha1;have HB1:=hE0 b1;have HCS:=hE0 hcs;clear ha1 b1 hcs;go_enter Tryz.func60,Tryz.ntmps60
 go_wp2_with (first | (rw[HA1.out]) | fail)
 refine(HNEW.out w1).mono ?_;rintro e w2 ⟨rfl,hb2⟩;have HB2:=hE0 (HB1.out.trans (hb2.mono HB1.out.size));clear hb2 pc0 pc1 pc2 pc3 pc4 pc5 pc6 pc7 pc8 pc9 pc10 pc11 pc12 pc13 pf0 pf1 pf2 pf3 pf4 pf5 pf6 pf7 pf8 pf9 pf10 pf11 pf12 pf13 hlp;rcases HCS.out with e | e | e;all_goals
  have ho:=HO.out;rw[e]at ho;obtain rfl:=ho;rw[e];clear e;go_wp2
  go_ret
  exact⟨rfl,HB2.out⟩
def asY (G:Nat × Nat × List Rk × List (List UInt8)) (base:Nat) (cap:Int) (w:World) (e:Ending) (w':World):Prop:=
 Below w.heap.size w w'/\if G.1=0 then ∃out H q g A c,aiL (G.2.1:Int) G.2.2.1 G.2.2.2=some out/\e= .returned (.tuple #[.pointer (some ⟨q,0,none⟩), .nilIface])/\PH w' q g base cap.toNat A c out H/\w.heap.size<=q/\w.heap.size<=g/\∀a,A=some a->w.heap.size<=a.block else e= .returned (.tuple #[.pointer none,ag8 G.1])
theorem ao4{n:Int}:∀{l:List Rk}{e:Int}{f:Bool},abe n e f l=true->32*(l.length:Int)+e<=n
 | [],e,f,h=>by
  have h:(e==n)=true:=h;have:=beq_iff_eq.1 h;simp;omega
 | x::r,e,f,h=>by
  rw[abe]at h;simp only[Bool.and_eq_true]at h;have h1:=(aae _).1 h.2.1;have:=ao4 h.2.2.2.2;rw[List.length_cons];omega
theorem akR:∀{l:List Rk}{d:List (List UInt8)},datOk l d=true->d.length<=l.length
 | [],d,h=>by
  have h:d.isEmpty=true:=h;rw[List.isEmpty_iff]at h;subst h;exact Nat.le_refl _
 | x::r,d,h=>by
  rw[datOk.eq_def]at h;dsimp only at h;split at h
  · cases d with
    | nil=>cases h
    | cons y d=>
     dsimp only at h;rw[Bool.and_eq_true]at h;have:=akR h.2;simp;omega
  · have:=akR h;simp;omega
theorem akS{n:Int}{l:List Rk}{d:List (List UInt8)}(h:acG n l d=true):l.length<=1000/\d.length<=1000/\ -9223372036854775808<=n/\n<=9223372036854775807:=by
 unfold acG at h;simp only[Bool.and_eq_true]at h;have h1:=(aaN n).1 h.1;have h2:=ao4 h.2.1;have h3:=akR h.2.2;omega
theorem ajO (w:World) (n:Int) (A1 A2:Option Addr) (k1 k2:Nat) (l:List Rk) (d:List (List UInt8)) (hr:RkRd w w.heap.size A1 l) (hd:DtRd w w.heap.size A2 d) (base:Nat) (hb:base<18446744073709551616) (cap:Int) (hc: -9223372036854775808<=cap/\cap<=9223372036854775807) (hm:acG n l d=true):
 Calls Tryz.prog 72 #[.agg #[.int .i64 n, .slice A1 l.length k1, .slice A2 d.length k2], .int .u64 (base:Int), .int .i64 cap] w fun e w'=>Below w.heap.size w w'/\∃P er,e= .returned (.tuple #[P,er])/\
  if ¬(base%16=0/\base<=4611686018427387904/\1024<=cap/\cap<=16384) then P= .pointer none/\er=ag8 1 else if cap<n then P= .pointer none/\er=ag8 10 else ∃out H q g A c,aiL n l d=some out/\P= .pointer (some ⟨q,0,none⟩)/\er= .nilIface/\PH w' q g base cap.toNat A c out H/\w.heap.size<=q/\w.heap.size<=g/\∀a,A=some a->w.heap.size<=a.block:=by
 obtain⟨l1,l2,hn⟩:=akS hm;by_cases hno:base%16=0/\base<=4611686018427387904/\1024<=cap/\cap<=16384
 · by_cases hlg:cap<n
   · refine(amZ w n hn A1 A2 k1 k2 l d hr hd (by omega) (by omega) base hb cap hc hm hno.1 hno.2.1 hno.2.2.1 hno.2.2.2 hlg).mono ?_;rintro e w' ⟨rfl,h⟩;refine⟨h,_,_,rfl,?_⟩;rw[if_neg (fun k=>k hno),if_pos hlg];exact⟨rfl,rfl⟩
   · refine(asd w n hn A1 A2 k1 k2 l d hr hd (by omega) (by omega) base hb cap hc hm hno.1 hno.2.1 hno.2.2.1 hno.2.2.2 (by omega)).mono ?_;rintro e w' ⟨out,H,q,g,A,c,hl,rfl,hp,f1,f2,f3,h⟩;refine⟨h,_,_,rfl,?_⟩;rw[if_neg (fun k=>k hno),if_neg hlg];exact⟨out,H,q,g,A,c,hl,rfl,rfl,hp,f1,f2,f3⟩
 · refine(ao2 w n hn A1 A2 k1 k2 l d hr hd (by omega) (by omega) base hb cap hc hm (by omega)).mono ?_;rintro e w' ⟨rfl,h⟩;refine⟨h,_,_,rfl,?_⟩;rw[if_pos hno];exact⟨rfl,rfl⟩
section
variable {N:Nat} {S:Nat->Prop} {w:World} {g:Nat} {s:Dst}
theorem agY (h:DS N S w g s) (half:Nat) (hh:N/2=half) (h1:1<=half) (hN2:N<=128) (ho:s.off=false) (x y:Sk) (hx:abw s.bs s.wt half 0=x) (hy:abw s.bs s.wt half 1=y) (base:Nat) (hb:base<18446744073709551616) (cap:Int) (hc: -9223372036854775808<=cap/\cap<=9223372036854775807) (G:Nat × Nat × List Rk × List (List UInt8)) (hG:aco x y base cap=G):
 Calls Tryz.prog 24 #[.pointer (some ⟨g,0,none⟩), .int .u64 (base:Int), .int .i64 cap] w fun e w'=>asY G base cap w e w':=by
 have HL:=hE0 (ajN h half hh h1 hN2 ho x y hx hy);have hxm:x.ok=true->acG (x.n:Int) x.l x.d=true:=by rw[<-hx];exact aga _ _ _
 have hym:y.ok=true->acG (y.n:Int) y.l y.d=true:=by rw[<-hy];exact aga _ _ _
 have HNEW:=hE0 (fun W A1 c1 A2 c2 B1 k1 B2 k2=>agX W x y A1 c1 A2 c2 B1 k1 B2 k2);obtain⟨v,hv⟩:=nmE (aeg x y);rw[hv]at HNEW;have hok:=akQ x y;have hcs:=adw x y;unfold aco at hG;rw[hv]at hG hok hcs;unfold aqS at HNEW;have HG:=hE0 hG;have HOK:=hE0 hok;have HCS:=hE0 hcs;have HXM:=hE0 hxm;have HYM:=hE0 hym;clear h hx hy hxm hym hv hok hcs hG hh h1 ho;go_enter Tryz.func24,Tryz.ntmps24
 go_wp2_with fail
 refine HL.out.mono ?_;rintro e w1 ⟨A1,c1,A2,c2,B1,k1,B2,k2,rfl,hix,hiy,hb1⟩;unfold aqS;obtain⟨xG,xN,xS,xo,xn,xl,xd⟩:=x;obtain⟨yG,yN,yS,yo,yn,yl,yd⟩:=y;dsimp only at hix hiy HNEW HG HOK HXM HYM;dsimp only;obtain⟨w2,ha2⟩:=nmE (w1.alloc (.cells #[.int .u64 0, .int .u64 0, .int .u32 0, .bool false, .int .i64 0, .slice none 0 0, .slice none 0 0, .int .u64 0, .int .u64 0, .int .u32 0, .bool false, .int .i64 0, .slice none 0 0, .slice none 0 0] 113));have n2:=anE ha2;have b2:=abE ha2;have N2:=hE0 n2;have HA2:=hE0 ha2;obtain⟨⟨pc0,pc1,pc2,pc3,pc4,pc5,pc6,pc7,pc8,pc9,pc10,pc11,pc12,pc13⟩,⟨pf0,pf1,pf2,pf3,pf4,pf5,pf6,pf7,pf8,pf9,pf10,pf11,pf12,pf13⟩,hlp⟩:=acr n2;obtain⟨w3,hp3,n3,b3,_,_⟩:=alR N2 (.int .u64 (xG:Int)) (.int .u64 (xN:Int)) (.int .u32 (xS:Int)) (.bool xo) (.int .i64 (xn:Int)) (.slice A1 xl.length c1) (.slice A2 xd.length c2);obtain⟨w4,hp4,n4,b4,_,_⟩:=alS n3 (.int .u64 (yG:Int)) (.int .u64 (yN:Int)) (.int .u32 (yS:Int)) (.bool yo) (.int .i64 (yn:Int)) (.slice B1 yl.length k1) (.slice B2 yd.length k2);have b14:=b4.out _ _ (Nat.le_refl _) (b3.out _ _ (Nat.le_refl _) b2);have HB4:=hE0 (hb1.trans (b14.mono hb1.size));have HI4:Hid ((RkRd w4 w4.heap.size A1 xl/\DtRd w4 w4.heap.size A2 xd)/\RkRd w4 w4.heap.size B1 yl/\DtRd w4 w4.heap.size B2 yd):=⟨⟨(hix.1.below b14).more b14.size,(hix.2.below b14).more b14.size⟩,(hiy.1.below b14).more b14.size,(hiy.2.below b14).more b14.size⟩;obtain⟨⟨qc0,qc1,qc2,qc3,qc4,qc5,qc6,qc7,qc8,qc9,qc10,qc11,qc12,qc13⟩,⟨qf0,qf1,qf2,qf3,qf4,qf5,qf6,qf7,qf8,qf9,qf10,qf11,qf12,qf13⟩,hlq⟩:=acr n4.out;clear ha2 b2 hb1 n2 hix hiy b14 HL;go_wp2_with (first | (rw[HA2.out]) | (rw[hp3.out,hp4.out]) | fail)
 clear pc0 pc1 pc2 pc3 pc4 pc5 pc6 pc7 pc8 pc9 pc10 pc11 pc12 pc13 pf0 pf1 pf2 pf3 pf4 pf5 pf6 pf7 pf8 pf9 pf10 pf11 pf12 pf13 hlp;refine(HNEW.out w4 A1 c1 A2 c2 B1 k1 B2 k2).mono ?_;rintro e w5 ⟨rfl,hb5⟩;have HB5:=hE0 (HB4.out.trans (hb5.mono HB4.out.size));have HI5:Hid ((RkRd w5 w5.heap.size A1 xl/\DtRd w5 w5.heap.size A2 xd)/\RkRd w5 w5.heap.size B1 yl/\DtRd w5 w5.heap.size B2 yd):=⟨⟨(HI4.out.1.1.below hb5).more hb5.size,(HI4.out.1.2.below hb5).more hb5.size⟩,(HI4.out.2.1.below hb5).more hb5.size,(HI4.out.2.2.below hb5).more hb5.size⟩;obtain⟨⟨rc0,rc1,rc2,rc3,rc4,rc5,rc6,rc7,rc8,rc9,rc10,rc11,rc12,rc13⟩,⟨rf0,rf1,rf2,rf3,rf4,rf5,rf6,rf7,rf8,rf9,rf10,rf11,rf12,rf13⟩,hlr⟩:=acr ((hb5.block _ (aaa n4.out)).trans n4.out);clear hb5 qc0 qc1 qc2 qc3 qc4 qc5 qc6 qc7 qc8 qc9 qc10 qc11 qc12 qc13 qf0 qf1 qf2 qf3 qf4 qf5 qf6 qf7 qf8 qf9 qf10 qf11 qf12 qf13 hlq HNEW;rcases HCS.out with e | e | e
 · subst e;have hG:=HG.out;rw[if_pos (by decide)]at hG;subst hG;go_wp2_with fail
   go_ret2
   refine⟨HB5.out,?_⟩;rw[if_neg (by decide)];rfl
 · subst e;have hm:=HXM.out (HOK.out.1 rfl);have hG:=HG.out;rw[if_neg (by decide)]at hG;go_wp2_with fail
   refine(ajO w5 (xn:Int) A1 A2 c1 c2 xl xd HI5.out.1.1 HI5.out.1.2 base hb cap hc hm).mono ?_;rintro e w6 ⟨hb6,h6⟩;have HB6:=hE0 (HB5.out.trans (hb6.mono HB5.out.size));have HH:=hE0 h6;have HGG:=hE0 hG;clear hb6 h6 hG hm rc0 rc1 rc2 rc3 rc4 rc5 rc6 rc7 rc8 rc9 rc10 rc11 rc12 rc13 rf0 rf1 rf2 rf3 rf4 rf5 rf6 rf7 rf8 rf9 rf10 rf11 rf12 rf13 hlr;obtain⟨P,er,rfl,hif⟩:=HH.out;have HIF:=hE0 hif;clear hif HH;go_wp2_with fail
   go_ret2
   refine⟨HB6.out,?_⟩;have hG:=HGG.out;have hif:=HIF.out;by_cases hno:¬(base%16=0/\base<=4611686018427387904/\1024<=cap/\cap<=16384)
   · rw[if_pos hno]at hG hif;obtain⟨rfl,rfl⟩:=hif;subst hG;rw[if_neg (by decide)];rfl
   · rw[if_neg hno]at hG hif;rw[if_pos trivial]at hG;by_cases hlg:cap<(xn:Int)
     · rw[if_pos hlg]at hG hif;obtain⟨rfl,rfl⟩:=hif;subst hG;rw[if_neg (by decide)];rfl
     · rw[if_neg hlg]at hG hif;obtain⟨out,H,q,ga,A,c,hl,rfl,rfl,hp,f1,f2,f3⟩:=hif;subst hG;rw[if_pos rfl];have hsz:=HB5.out.size;exact⟨out,H,q,ga,A,c,hl,rfl,hp,by omega,by omega,fun a e=>by have:=f3 a e;omega⟩
 · subst e;have hm:=HYM.out (HOK.out.2 rfl);have hG:=HG.out;rw[if_neg (by decide)]at hG;go_wp2_with fail
   refine(ajO w5 (yn:Int) B1 B2 k1 k2 yl yd HI5.out.2.1 HI5.out.2.2 base hb cap hc hm).mono ?_;rintro e w6 ⟨hb6,h6⟩;have HB6:=hE0 (HB5.out.trans (hb6.mono HB5.out.size));have HH:=hE0 h6;have HGG:=hE0 hG;clear hb6 h6 hG hm rc0 rc1 rc2 rc3 rc4 rc5 rc6 rc7 rc8 rc9 rc10 rc11 rc12 rc13 rf0 rf1 rf2 rf3 rf4 rf5 rf6 rf7 rf8 rf9 rf10 rf11 rf12 rf13 hlr;obtain⟨P,er,rfl,hif⟩:=HH.out;have HIF:=hE0 hif;clear hif HH;go_wp2_with fail
   go_ret2
   refine⟨HB6.out,?_⟩;have hG:=HGG.out;have hif:=HIF.out;by_cases hno:¬(base%16=0/\base<=4611686018427387904/\1024<=cap/\cap<=16384)
   · rw[if_pos hno]at hG hif;obtain⟨rfl,rfl⟩:=hif;subst hG;rw[if_neg (by decide)];rfl
   · rw[if_neg hno]at hG hif;rw[if_neg (by decide)]at hG;by_cases hlg:cap<(yn:Int)
     · rw[if_pos hlg]at hG hif;obtain⟨rfl,rfl⟩:=hif;subst hG;rw[if_neg (by decide)];rfl
     · rw[if_neg hlg]at hG hif;obtain⟨out,H,q,ga,A,c,hl,rfl,rfl,hp,f1,f2,f3⟩:=hif;subst hG;rw[if_pos rfl];have hsz:=HB5.out.size;exact⟨out,H,q,ga,A,c,hl,rfl,hp,by omega,by omega,fun a e=>by have:=f3 a e;omega⟩
end
theorem ase (w:World) (g base cap c:Nat) (A:Option Addr) (bs:List UInt8) (l:List Bk) (har:Ar w 160 g base cap A c bs) (hbase:base<=4611686018427387904) (hl:bs.length<=16384) (hck:aci bs=true) (hwk:abJ bs=some l):
 Calls Tryz.prog 56 #[.pointer (some ⟨g,0,none⟩)] w fun e w'=>∃A1 A2 c1 c2,e= .returned (.tuple #[.agg #[.int .i64 (bs.length:Int), .slice A1 l.length c1, .slice A2 (ofD bs l).length c2], .nilIface])/\RkRd w' w'.heap.size A1 (l.map toR)/\DtRd w' w'.heap.size A2 (ofD bs l)/\Below w.heap.size w w':=by
 obtain⟨hin,hll32,hmem⟩:=aqL hwk hl;obtain⟨F,hF⟩:=nmE (ofD bs l);rw[hF];obtain⟨w1,hw1⟩:=nmE (w.alloc (.cells #[.int .i64 0, .slice none 0 0, .slice none 0 0] 110));have hb1:=abE hw1;have n1:=anE hw1;have HAR1:=hE0 (har.below hb1);have HC:=hE0 (aow w1 g base cap c A bs true HAR1.out hbase hl hck);dsimp only[abm]at HC;have HWK:=hE0 (fun W (h:Ar W 160 g base cap A c bs)=>akz W g base cap c A bs (some l) h hbase hl hwk);have HW1:=hE0 hw1;have HB1:=hE0 hb1;have HN1:=hE0 n1;have HMEM:=hE0 hmem;have HIN:=hE0 hin;have HFF:=hE0 hF;obtain⟨n,hn⟩:=nmE bs.length;rw[hn]at hl hll32;rw[hn];have HNN:=hE0 hn;obtain⟨m,hm⟩:=nmE l.length;rw[hm]at hll32 ⊢;have HMM:=hE0 hm;have HLL:Hid ((l.map toR).length=m):=(show _=_ by rw[List.length_map];exact hm);clear har hck hw1 hb1 n1 hwk hmem hin hF hn hm;go_enter Tryz.func56,Tryz.ntmps56
 go_wp2_with (first | (rw[HW1.out]) | fail)
 refine HC.out.mono ?_;rintro e w2 ⟨rfl,hb2⟩;have har2:=HAR1.out.below hb2;have hlen:=adz har2;rw[HNN.out]at hlen;have HLEN:=hE0 hlen;have HAR2:=hE0 har2;have HN2:=hE0 ((hb2.block _ (aaa HN1.out)).trans HN1.out);have HB2:=hE0 (HB1.out.trans (hb2.mono HB1.out.size));obtain⟨w3,hw3⟩:=nmE (w2.alloc (.cells #[.int .i64 (n:Int), .slice none 0 0, .slice none 0 0] 110));have hb3:=abE hw3;have n3:=anE hw3;have hwk3:=HWK.out w3 (har2.below hb3);unfold adP at hwk3;dsimp only[abm,Option.isSome,Option.getD]at hwk3;have HWK3:=hE0 hwk3;have HW3:=hE0 hw3;have HB3:=hE0 hb3;have HN3:=hE0 n3;clear hb2 har2 hlen hw3 hb3 n3 hwk3 HWK HC HAR1;go_wp2_with fail
 refine HLEN.out.mono ?_;rintro e wq ⟨rfl,rfl⟩;go_wp2_with (first | (rw[HW3.out]) | fail)
 refine HWK3.out.mono ?_;rintro e w4 ⟨A1,c1,rfl,own4,hb4⟩;rw[HMM.out];have n4:=(hb4.block _ (aaa HN3.out)).trans HN3.out;have hl4:=aaa n4;obtain⟨f0,f1,f2⟩:=aay n4;obtain⟨z0,z1,z2⟩:=aac n4;obtain⟨w5,hw5⟩:=nmE (w4.setCell ⟨w2.heap.size,1,none⟩ (.slice A1 m c1));have hg5:w4.grownBy w5 (some w2.heap.size):=by rw[<-hw5];exact abf w4 w2.heap.size 1 _
 have n5:w5.heap[w2.heap.size]?=some (.cells #[.int .i64 (n:Int), .slice A1 m c1, .slice none 0 0] 110 (0,0)):=by rw[<-hw5];exact heap_setCell_same w4 w2.heap.size 1 _ _ _ n4
 have hb5:Below w2.heap.size w2 w5:=by rw[<-hw5];exact(HB3.out.trans (hb4.mono HB3.out.size)).setCell (p:=⟨w2.heap.size,1,none⟩) (Nat.le_refl _) _
 have own5:w5.ownsRow w2.heap.size 132 3 (.slice A1 (l.map toR).length c1) (l.map toR).length (ac4 (l.map toR)):=by
  rw[HLL.out,<-aiK];rw[HMM.out]at own4;exact aaY (aa0 own4 hg5 fun k hk hrk=>by injection hrk with hrk;subst hrk;exact abi own4 hk n4 (by decide)) HB3.out.size
 have HIM5:Hid (ImP w2.heap.size w2.heap.size (n:Int) A1 c1 (l.map toR) none 0 [] [] w5):=⟨by rw[HLL.out];exact n5,own5,World.ownsRow_nil _ _ _ _,fun i y h=>by simp at h,Nat.le_refl _,HIN.out⟩;have HB5:=hE0 hb5;have hRW:=own5;obtain⟨d0,d1,d2⟩:=aac n5;have hl5:=aaa n5;have HW5:=hE0 hw5;clear own4 hb4 n4 hw5 hg5 n5 hb5 own5 hRW;go_wp2_with (first | (rw[HW5.out]) | fail)
 clear f0 f1 f2 z0 z1 z2 d0 d1 d2 hl4 hl5;obtain⟨j0,ji,jz0,jz1,jz2⟩:=info_parts ajh;go_loopw [26] (fun t W=>∃(j:Nat) (A2:Option Addr) (c2:Nat) (d:List (List UInt8)) (xs:List Value),t= .int .i64 (j:Int)/\j<=m/\ImP w2.heap.size w2.heap.size (n:Int) A1 c1 (l.map toR) A2 c2 d xs W/\d++ofD bs (l.drop j)=F/\d.length<=j/\Below w2.heap.size w2 W) (fun t _=>m-(intOf t).toNat)
 case atStart=>exact⟨0,none,0,[],[],rfl,Nat.zero_le _,HIM5.out,HFF.out,Nat.le_refl _,HB5.out⟩
 case round=>
  obtain⟨j,A2,c2,d,xs,rfl,hj,him,hdf,hdl,hb⟩:=hrel;have ho:=him.obj;rw[HLL.out]at ho;obtain⟨d0,d1,d2⟩:=aac ho;have hlm:=aaa ho;by_cases hlt:j<m
  · obtain⟨x,hx⟩:∃x,l[j]?=some x:=⟨l[j]'(by rw[HMM.out];exact hlt),List.getElem?_eq_getElem _⟩;obtain⟨m1,m2,m3⟩:=HMEM.out x (List.mem_of_getElem? hx);have m4:=(aae _).1 m3;rw[HNN.out]at m2;obtain⟨b2,o,rfl,hbb,hcl⟩:=him.rkrd (by rw[HLL.out];omega);obtain⟨r0,r1,r2,_,_⟩:=hcl j (toR x) (by rw[List.getElem?_map,hx];rfl);rw[acC hx]at hdf;unfold ofD at hdf;obtain⟨xo,xz,xu⟩:=x;dsimp only[toR]at r0 r1 r2 hdf m1 m2 m3 m4;obtain⟨w4',hw4⟩:∃w4,wr.alloc (.cells #[.int .i64 (xo:Int), .int .i64 (xz:Int), .bool xu] 132)=w4:=⟨_,rfl⟩;have hb04:Below wr.heap.size wr w4':=by rw[<-hw4];exact(Below.refl _ _).alloc (Nat.le_refl _) _
    have n4:=anE hw4;have HIM4:=hE0 (him.stay hb04);have HB4:=hE0 (hb.trans (hb04.mono hb.size));have HW4:=hE0 hw4;have HN4:=hE0 n4;obtain⟨e0,e1,e2⟩:=aac n4;have hl4:=aaa n4;have HDF:=hE0 hdf;clear hx hcl hb04 hw4 n4 hdf him hb ho
    cases xu with
    | false=>
     have HF2:Hid (d++ofD bs (l.drop (j+1))=F):=(show _=_ by simpa using HDF.out);go_wp2_with (first | (rw[HW4.out]) | fail)
     go_roundw
     case rel=>exact⟨j+1,A2,c2,d,xs,by go_num,by omega,HIM4.out,HF2.out,by omega,HB4.out⟩
     case measure=>simp only[intOf];omega
    | true=>
     obtain⟨q,hq⟩:∃q,xz=q+16:=⟨xz-16,by omega⟩;have har4:=HAR2.out.below HB4.out;obtain⟨y,hy⟩:=nmE ((bs.drop (xo+8)).take q);have hyl:y.length=q:=by rw[<-hy,List.length_take,List.length_drop,HNN.out];omega
     have hyb:y.length<=100000:=by omega
     have HF2:Hid ((d++ [y])++ofD bs (l.drop (j+1))=F):=(show _=_ by
      have:=HDF.out;rw[if_pos rfl,show xz-16=q from by omega,hy]at this;rw[List.append_assoc];exact this)
     obtain⟨wd,hwd⟩:=nmE w4'.drew;have hbd:Below w4'.heap.size w4' wd:=by rw[<-hwd];exact(Below.refl _ _).drew
     have hard:=har4.below hbd;have HBASE:=hE0 (ac7 hard);have HHELD:=hE0 (adq wd (xo:Int) (xz:Int) true m3);rw[show(xz:Int)-16=(q:Int) from by omega]at HHELD;obtain⟨ad,had⟩:=nmE (base+xo+8);have HLOAD:=hE0 (fun W (h:Ar W 160 g base cap A c bs)=>arj h (by rw[HNN.out];omega) ad q (xo+8) (by omega) (by omega) (by omega) (by rw[HNN.out];omega));rw[hy]at HLOAD;have HARD:=hE0 hard;have hbd4:=HB4.out.trans (hbd.mono HB4.out.size);have HBD:=hE0 hbd4;have HIMD:=hE0 (HIM4.out.stay hbd);have hnd:=(hbd.block _ (aaa HN4.out)).trans HN4.out;obtain⟨g0,g1,g2⟩:=aac hnd;have lgd:=aaa hnd;have HWD:=hE0 hwd;have HYL:=hE0 hyl;obtain⟨bx,hbx⟩:=nmE (base+xo);have i3:(base:Int)+(xo:Int)=(bx:Int):=by omega
     have i1:(bx:Int)+8=(ad:Int):=by omega
     have i2:ad<18446744073709551616:=by omega
     have hqb:q<=20000:=by omega
     have i4:bx<18446744073709551616:=by omega
     clear hbd har4 hard hbd4 hnd hwd hy hyl had hq hbx;go_wp2_with (first | (rw[HW4.out]) | fail)
     refine aad wd.heap.size [([0,1,3,4,5,8],2),([6,7],9),([10],11)] [12,13,14,15,16] [] (by kernel_rfl) (by kernel_rfl) (by kernel_rfl) (fun _ _ _ _ _ h=>h) ?_;rw[HWD.out];have q0:=tfE g0 lgd;have q1:=tfE g1 lgd;have q2:=tfE g2 lgd;refine tail_cons (l:= ?segA) ?hsegA ?_
     case hsegA=>simp only[pick,lE1,lE2,lE3];rfl
     repeat (go_big_quiet_step (fail))
     refine wpQuiet_nil ?_;clear q0 q1 q2;refine aaf (vs:= #[.pointer (some ⟨g,0,none⟩)]) Tryz.call76 rfl rfl rfl (R:=fun r w'=>r= .int .u64 (base:Int)/\w'=wd) (HBASE.out.mono ?_) wd.heap.size (Nat.le_refl _) ?_
     · rintro e w' ⟨rfl,rfl⟩;exact⟨_,rfl,Below.refl _ _,rfl,rfl⟩
     rintro r w' _ ⟨rfl,rfl⟩;simp only[Act.put,lE4,lE5,lE6];refine tail_cons (l:= ?segB) ?hsegB ?_
     case hsegB=>simp only[pick,lE1,lE2,lE3];rfl
     repeat (go_big_quiet_step (fail))
     refine wpQuiet_nil ?_;refine aas (vs:= #[.agg #[.int .i64 (xo:Int), .int .i64 (xz:Int), .bool true]]) Tryz.call111 rfl rfl rfl (R:=fun r w''=>r= .int .i64 (q:Int)/\Below w'.heap.size w' w'') (HHELD.out.mono ?_) ?_
     · rintro e w'' ⟨rfl,hb⟩;exact⟨_,rfl,hb,rfl,hb⟩
     rintro r w5 _ ⟨rfl,hb5⟩;refine⟨w5.heap.size,hb5.size,?_⟩;simp only[Act.put,lE4,lE5,lE6];have HIM5:=hE0 (HIMD.out.stay hb5);have HB5:=hE0 (HBD.out.trans (hb5.mono HBD.out.size));have hlo:=HLOAD.out w5 (HARD.out.below hb5);unfold aqW at hlo;rw[HYL.out]at hlo;clear hb5;refine tail_cons (l:= ?segC) ?hsegC ?_
     case hsegC=>simp only[pick,lE1,lE2,lE3];rfl
     repeat (go_big_quiet_step (fail))
     refine wpQuiet_nil ?_;refine aas (vs:= #[.pointer (some ⟨g,0,none⟩), .int .u64 (ad:Int), .int .u64 (q:Int)]) Tryz.call75 rfl rfl rfl (R:=fun r w''=>∃A' c',r= .tuple #[.slice A' q c', .nilIface]/\w''.ownsRow w5.heap.size 5 1 (.slice A' q c') q (y.map bv)/\Below w5.heap.size w5 w'') (hlo.mono ?_) ?_
     · rintro e w'' ⟨A',c',rfl,ho,hb⟩;exact⟨_,rfl,hb,A',c',rfl,ho,hb⟩
     rintro r w6 _ ⟨A6,k6,rfl,ho6,hb6⟩;refine⟨w6.heap.size,hb6.size,?_⟩;simp only[Act.put,lE4,lE5,lE6];have him6:=HIM5.out.stay hb6;have hB6:=HB5.out.trans (hb6.mono HB5.out.size);obtain⟨w7,hw7⟩:=nmE (w6.alloc (.cells #[.slice A6 q k6] 37));have hb7:=abE hw7;have n7:=anE hw7;have HIM7:=hE0 (him6.stay hb7);have HB7:=hE0 (hB6.trans (hb7.mono hB6.size));have ho7:=aaY (aaO ho6 hb7 (abl ho6)) (Nat.zero_le _);rw[<-HYL.out]at ho7;have Ho7:=hE0 ho7;have hB7s:w2.heap.size<=w7.heap.size:=HB7.out.size;have HRUN:=hE0 (fun V:World=>ad9 V A6 q k6);have HW7:=hE0 hw7;have HNEW:Hid (∀j u,[Value.slice A6 q k6][j]?=some u->w7.cell? ((⟨w6.heap.size,0,none⟩:Addr).add j)=some u):=fun j u hu=>by
      have e:(⟨w6.heap.size,0,none⟩:Addr).add j=⟨w6.heap.size,j,none⟩:=by unfold Addr.add;split<;>simp_all
      rw[e,cell_of_row w7 _ j _ _ (0,0) n7];simpa using hu
     have HONE:Hid (∀u∈ [Value.slice A6 q k6],u.oneCell'=true):=fun u hu=>by
      simp at hu;subst hu;rfl
     have hdb:d.length<=2000:=by omega
     have ho6':=him6.obj;rw[HLL.out]at ho6';obtain⟨v0,v1,v2⟩:=aac ho6';have hl6:=aaa ho6';clear hlo ho6 hb6 him6 hB6 hw7 hb7 n7 ho7 ho6' d0 d1 d2 hlm e0 e1 e2 hl4 g0 g1 g2 lgd;refine aam (l:= ?lastA) (t:= []) ?hlastA rfl ?_
     case hlastA=>simp only[pick,lE1,lE2,lE3];rfl
     repeat (go_big_quiet_step (fail))
     refine wpQuiet_nil ?_;go_wp2_with (first
      | (rw[HRUN.out])
      | (rw[HW7.out])
      | (at_builtin;go_must (refine wpList_append_own _ rfl _ _ 57 rfl w2.heap.size 37 j0 _ 1 24 Tryz.underlying57 ji jz0 jz1 jz2 rfl (by decide) _ d.length xs rfl HIM7.out.rd ⟨w6.heap.size,0,none⟩ 1 1 [.slice A6 q k6] rfl rfl HNEW.out HONE.out (by unfold maxLen;omega) (by omega) hB7s ?_);intro x8 w8 own8 gr8 at8
         obtain⟨A2',c2',rfl,hg8,him8,hb8⟩:=HIM7.out.pushD (y:=y) hyb Ho7.out (by rw[HYL.out];exact own8) gr8 HB7.out (Nat.le_refl _) hB7s;have e8:=hg8.trans HIM7.out.obj;rw[HLL.out]at e8;obtain⟨c80,c81,c82⟩:=aac e8;obtain⟨t80,t81,t82⟩:=aay e8;have hl8:=aaa e8;have HIM8:=hE0 him8;have HB8x:=hE0 hb8;clear own8 gr8 at8 hg8 him8 hb8 e8)
      | fail)
     go_roundw
     case rel=>exact⟨j+1,A2',c2',d++ [y],_,by go_num,by omega,HIM8.out,HF2.out,by rw[List.length_append,List.length_singleton];omega,HB8x.out⟩
     case measure=>simp only[intOf];omega
  · have hd0:l.drop j= []:=List.drop_eq_nil_of_le (by rw[HMM.out];omega);rw[hd0]at hdf;have hdF:d=F:=by rw[<-hdf];unfold ofD;rw[List.append_nil]
    subst hdF;have hN9:=(hb.block _ (aaa HN2.out)).trans HN2.out;have hB9:=HB2.out.trans (hb.mono HB2.out.size);have hl9:=aaa hN9;obtain⟨t0,t1,t2⟩:=aay hN9;obtain⟨z0,z1,z2⟩:=aac hN9;obtain⟨dl,hdl2⟩:=nmE d.length;rw[hdl2]at ho;clear d0 d1 d2;obtain⟨d0,d1,d2⟩:=aac ho;have HM:=hE0 (aa5 hN9 (.int .i64 (n:Int)) (.slice A1 m c1) (.slice A2 dl c2));have HF:=hE0 (((hB9.setCell (p:=⟨w.heap.size,0,none⟩) (Nat.le_refl _) (.int .i64 (n:Int))).setCell (p:=⟨w.heap.size,1,none⟩) (Nat.le_refl _) (.slice A1 m c1)).setCell (p:=⟨w.heap.size,2,none⟩) (Nat.le_refl _) (.slice A2 dl c2));have HLAID:=hE0 (him.laid (aaa HN2.out) hN9 (.int .i64 (n:Int)) (.slice A1 m c1) (.slice A2 dl c2));have HDL:=hE0 hdl2;clear hN9 hB9 him hb ho hdl2 hdf hd0;go_wp2
    (try simp only[Exit.inBlock,Exit.then])
    refine ajg (g:=w.heap.size) (x:= .nilIface) Tryz.results56 ?_ ?_ ?_ HM.out ?_
    · rfl
    · rfl
    · rfl
    · exact⟨A1,A2,c1,c2,by rw[HDL.out],HLAID.out.1,HLAID.out.2,HF.out⟩
def acy (p:Nat) (b:List UInt8) (s:Dst):Nat × Dst:=andThen (agI s p b) dfl
def aty (p:Nat) (b rec:List UInt8) (s:Dst):Nat × Dst:=andThen (andThen (acy p (List.replicate 512 0) s) (acy (p+1) b)) (acy p rec)
theorem am1 (p:Nat) (b rec:List UInt8) (hr:rec.length=512) (s:Dst):aty p b rec s=adO p b rec s:=by
 unfold aty adO acy;rw[alK p _ List.length_replicate];by_cases h1:(dwr s p (List.replicate 512 0)).1=0
 · simp only[aao h1];by_cases h2:(dfl (dwr s p (List.replicate 512 0)).2).1=0
   · simp only[aao h2];by_cases h3:(agI (dfl (dwr s p (List.replicate 512 0)).2).2 (p+1) b).1=0
     · simp only[aao h3];by_cases h4:(dfl (agI (dfl (dwr s p (List.replicate 512 0)).2).2 (p+1) b).2).1=0
       · simp only[aao h4];rw[alK p _ hr]
       · simp only[aaq h4]
     · simp only[aaq h3]
   · simp only[aaq h2]
 · simp only[aaq h1]
theorem ajP (p:Nat) (b:List UInt8) (s:Dst):(acy p b s).2.wt.length<=s.wt.length+need b.length/\(acy p b s).2.left<=s.left:=by
 have h1:=aog s p b;unfold acy;by_cases h:(agI s p b).1=0
 · rw[aao h];have h2:=aof (agI s p b).2;omega
 · rw[aaq h];omega
theorem afi (k:Nat):(ag8 k= .nilIface/\k=0)\/(ag8 k= .iface 90 (.int .i64 (k:Int))/\k≠0):=by
 unfold ag8;by_cases h:k=0
 · exact .inl ⟨if_pos h,h⟩
 · exact .inr ⟨if_neg h,h⟩
section
variable {N:Nat} {S:Nat->Prop} {w:World} {g:Nat} {s:Dst}
theorem StpD.via{w1 w2 w3 w4:World}{r:Dst}(ht:Tch S w1 w2) (hb:Below w2.heap.size w2 w3) (h1:DS N (abj (abj S w1 w2) w3 w4) w4 g r) (h2:Tch (abj S w1 w2) w3 w4):DS N (abj S w1 w4) w4 g r/\Tch S w1 w4:=by
 have hs:=ht.size;have hbs:=hb.size;have h4:=h2.size;refine⟨?_,(ht.trans (Tch.of_below (S:=S) hb) fun _ _ h=>h).trans h2 fun i hi hg=> ?_⟩
 · obtain⟨q,c,W,cw,ws,k,e1,e2,hl⟩:=h1;refine⟨q,c,W,cw,ws,k.more fun j hj=> ?_,e1,e2,fun j hj=> ?_⟩
   · rcases(k.foot hj).1 with(h | h) | h
     · exact .inl h
     · exact .inr ⟨h.1,by omega⟩
     · exact .inr ⟨by omega,h.2⟩
   · rcases hj with h | h
     · exact hl j (.inl (.inl h))
     · exact h.2
 · rcases hg with h | h
   · exact h
   · exact absurd hi (Nat.not_lt.2 h.1)
theorem afK (h:DS N S w g s) (hN2:N<=128) (hw:s.wt.length<=90000) (hl:s.left<=9223372036854775807) (p:Nat) (A:Option Addr) (cA:Nat) (b:List UInt8) (hr:Rd w w.heap.size A b.length b) (hbc:b.length<=cA) (hcm:cA<=9223372036854775807) (hA:0<b.length->∀a,A=some a->¬S a.block) (hp:p+need b.length<=N):
 Calls Tryz.prog 117 #[.pointer (some ⟨g,0,none⟩), .int .i64 (p:Int), .slice A b.length cA] w fun e w'=>StpD N S w g (acy p b s) e w':=by
 have HW:=hE0 (h.outs hN2 (by omega) hl p A cA b hr hbc hcm hA hp);obtain⟨r,hr1⟩:=nmE (agI s p b);obtain⟨bl,hbl⟩:=nmE b.length;rw[hr1]at HW;have HE:Hid (acy p b s=andThen r dfl):=(show _=_ by unfold acy;rw[hr1]);rw[hbl]at HW;rw[hbl];clear h hr hbc hcm hA hp hr1 hbl;go_enter Tryz.func117,Tryz.ntmps117
 go_wp2_with fail
 refine HW.out.mono ?_;rintro e w1 ⟨rfl,hR,hT⟩;have HR:=hE0 hR;have HT:=hE0 hT;clear hR hT HW;rcases afi r.1 with⟨e,h0⟩ | ⟨e,h0⟩
 · rw[e];have HC:=hE0 (HR.out.flush hN2);have HE2:Hid (acy p b s=dfl r.2):=(show _=_ by rw[HE.out,aao h0]);clear e h0;go_wp2_with fail
   refine DS.two HT.out HC.out HT.out.size ?_;rintro e w2 rfl hR hT;have HF:=hE0 (And.intro hR hT);clear hR hT HC;go_wp2
   go_ret
   rw[HE2.out];exact⟨rfl,HF.out.1,HF.out.2⟩
 · have HE2:Hid (acy p b s=r):=(show _=_ by rw[HE.out,aaq h0]);have HV:=hE0 e;rw[e];clear e h0;go_wp2_with fail
   go_ret
   rw[HE2.out];exact⟨by rw[HV.out];rfl,HR.out,HT.out⟩
theorem aqT (h:DS N S w g s) (hN2:N<=128) (hw:s.wt.length<=50000) (hl:s.left<=9223372036854775807) (p half:Nat) (hph:p+half<=N) (A:Option Addr) (cA:Nat) (b:List UInt8) (hr:Rd w w.heap.size A b.length b) (hbc:b.length<=cA) (hcm:cA<=9223372036854775807) (hA:∀a,A=some a->¬S a.block) (h1:1<=half) (hfit:b.length<=512*(half-1)) (G:Nat) (hG:G<4611686018427387904):
 Calls Tryz.prog 59 #[.pointer (some ⟨g,0,none⟩), .int .i64 (p:Int), .slice A b.length cA, .int .u64 ((G+1:Nat):Int)] w fun e w'=>StpD N S w g (adO p b (abA (G+1) b.length (abn 0 b)) s) e w':=by
 obtain⟨rec,hrec⟩:=nmE (abA (G+1) b.length (abn 0 b));have hrl:rec.length=512:=by rw[<-hrec];exact aea _ _ _
 rw[hrec,<-am1 p b rec hrl];unfold aty;obtain⟨z,hz⟩:=nmE (List.replicate 512 (0:UInt8));have hzl:z.length=512:=by rw[<-hz];simp
 have hmk:(Instr.makeSlice 37 (.int .i64 512) (.int .i64 512)).run Tryz.prog w= .ok (.slice (some ⟨w.heap.size,0,none⟩) 512 512) (w.alloc (.cells (rowB z) 5)):=by
  have:=run_make_row' (P:=Tryz.prog) 37 5 (.int .u8 0) 1 Tryz.underlying37 aca rfl .i64 .i64 512 (by omega) (by omega) w;rw[abI,hz]at this;exact this
 obtain⟨v1,hv1⟩:=nmE (w.alloc (.cells (rowB z) 5));have hfz:Fill v1 w.heap.size 5 z:=by rw[<-hv1];exact Fill.made w 5 _
 have hbv:=abE hv1;have hsl:∀j,S j->j<w.heap.size:=by obtain⟨_,_,_,_,_,_,_,_,hs⟩:=h;exact hs
 have hc1:=afK (h.below hbv) hN2 (by omega) hl p (some ⟨w.heap.size,0,none⟩) 512 z hfz.reads (by rw[hzl];omega) (by omega) (fun _ a e hs=>by injection e with e;have:=hsl _ hs;rw[<-e]at this;exact Nat.lt_irrefl _ this) (by rw[hzl];unfold need;omega);rw[hz];obtain⟨r1,hr1⟩:∃r,acy p z s=r:=⟨_,rfl⟩;have hok1:r1.2.wt.length<=50001/\r1.2.left<=9223372036854775807:=by
  have:=ajP p z s;rw[hr1,hzl]at this;have e:need 512=1:=rfl;omega
 rw[hr1]at hc1;rw[hr1];rw[hzl]at hc1;obtain⟨o,ho⟩:=nmE (andThen (andThen r1 (acy (p+1) b)) (acy p rec));rw[ho];have HO:=hE0 ho;clear ho;have HC1:=hE0 hc1;have HBV:=hE0 hbv;have HV1:=hE0 hv1;have HRD:=hE0 ((hr.below hbv).more hbv.size);have HAS:Hid (∀a,A=some a->¬S a.block):=hA;have HAB:Hid (0<b.length->∀a,A=some a->a.block<w.heap.size):=(show _->∀a,_->_ from fun hn a e=>by obtain⟨k,o,e',hk,_⟩:=hr.2 hn;rw[e]at e';injection e' with e';rw[e'];exact hk);have HSL:Hid (∀j,S j->j<w.heap.size):=hsl;obtain⟨bl,hbl⟩:=nmE b.length;have HSUM:=hE0 (fun W (h:Rd W W.heap.size A bl b)=>agh A bl cA W.heap.size b W h (by omega));obtain⟨sm,hsm⟩:=nmE (abn 0 b);have hsml:sm<4294967296:=by rw[<-hsm];exact acI _ _
 rw[hsm]at HSUM;have HPUT:=hE0 (fun W=>aln W (G+1) bl sm hsml (by unfold ahu;simp only[Bool.and_eq_true,decide_eq_true_eq];omega));rw[hbl,hsm]at hrec;rw[hrec]at HPUT;have HBL:=hE0 hbl;have hpi:(p:Int)+1=((p+1:Nat):Int):=rfl;have HPI:=hE0 hpi;have hneed:p+1+need bl<=N:=by unfold need;omega
 have hn2:need bl<=200:=by unfold need;omega
 have HRL:=hE0 hrl;have hbl6:bl<=65536:=by omega
 rw[hbl]at hbc HRD HAB;rw[hbl];clear h hfz hbv hv1 hc1 hr hA hsl hz hzl hr1 hbl hsm hrec hpi hrl hfit;go_enter Tryz.func59,Tryz.ntmps59
 go_wp2_with (first | (rw[HV1.out]) | fail)
 clear hmk;refine HC1.out.mono ?_;rintro e v2 ⟨rfl,hR,hT⟩;have HR:=hE0 hR;have HT:=hE0 hT;clear hR hT HC1;rcases afi r1.1 with⟨e,h0⟩ | ⟨e,h0⟩
 · rw[e];have ho:=HO.out;rw[aao h0]at ho;have hc:=afK HR.out hN2 (by omega) hok1.2 (p+1) A cA b (by rw[HBL.out];exact HRD.out.tch HT.out HAS.out) (by rw[HBL.out];exact hbc) hcm (fun hn a e hs=>by
    rcases hs with hs | hs
    · exact HAS.out a e hs
    · have h1:=HBV.out.size;have h2:=HAB.out (by rw[<-HBL.out];exact hn) a e;omega) (by rw[HBL.out];exact hneed)
   rw[HBL.out]at hc;obtain⟨r2,hr2⟩:∃r,acy (p+1) b r1.2=r:=⟨_,rfl⟩;have hok2:r2.2.wt.length<=60000/\r2.2.left<=9223372036854775807:=by
    have:=ajP (p+1) b r1.2;rw[hr2,HBL.out]at this;omega
   rw[hr2]at hc ho;have HO2:=hE0 ho;have HC:=hE0 hc;clear hc hr2 e h0 ho HO;go_wp2_with fail
   rw[HPI.out];refine DS.two HT.out HC.out HT.out.size ?_;rintro e v3 rfl hR hT;have HR3:=hE0 hR;have HT3:=hE0 hT;clear hR hT HC HR HT;rcases afi r2.1 with⟨e,h0⟩ | ⟨e,h0⟩
   · rw[e];have ho:=HO2.out;rw[aao h0]at ho;clear e h0 HO2;have HS3:=hE0 (HSUM.out v3 (HRD.out.tch HT3.out HAS.out));go_wp2_with fail
     refine HS3.out.mono ?_;rintro e v4 ⟨rfl,rfl⟩;go_wp2_with fail
     refine(HPUT.out v3).mono ?_;rintro e v4 ⟨b4,rfl,hb4,hf4,hbl4⟩;have hd3:∀j,abj S v1 v3 j->j<v3.heap.size:=by obtain⟨_,_,_,_,_,_,_,_,hs⟩:=HR3.out;exact hs
     have hc:=afK (HR3.out.below hbl4) hN2 (by omega) hok2.2 p (some ⟨b4,0,none⟩) 512 rec hf4.reads (by rw[HRL.out];omega) (by omega) (fun _ a e hs=>by
      injection e with e;have:=hd3 _ hs;rw[<-e]at this;exact absurd this (Nat.not_lt.2 hb4)) (by rw[HRL.out];unfold need;omega)
     rw[HRL.out]at hc;obtain⟨r3,hr3⟩:∃r,acy p rec r2.2=r:=⟨_,rfl⟩;rw[hr3]at hc ho;subst ho;have HC:=hE0 hc;have HB4:=hE0 hbl4;clear hc hr3 hd3 hb4 hf4 hbl4;go_wp2_with fail
     refine HC.out.mono ?_;rintro e v5 ⟨rfl,hR,hT⟩;have HF:=hE0 (StpD.via HT3.out HB4.out hR hT);clear hR hT HC;go_wp2
     go_ret
     exact StpD.from HBV.out rfl HF.out.1 HF.out.2
   · have HV:=hE0 e;have ho:=HO2.out;rw[aaq h0]at ho;subst ho;rw[e];clear e h0 HO2;go_wp2_with fail
     go_ret
     exact StpD.from HBV.out (by rw[HV.out];rfl) HR3.out HT3.out
 · have HV:=hE0 e;have ho:=HO.out;rw[aaq h0,aaq h0]at ho;subst ho;rw[e];clear e h0 HO;go_wp2_with fail
   go_ret
   exact StpD.from HBV.out (by rw[HV.out];rfl) HR.out HT.out
end
theorem atI (b:List UInt8) (half:Nat) (a:Nat->List UInt8):(ajt b half a).G<=4611686018427387904:=by
 unfold ajt;split
 · exact Nat.zero_le _
 · rename_i h;have h:abP b=true:=by cases e:abP b;exact absurd e h;rfl
   have:=(alv h).1;split
   · exact this
   · unfold apb;split<;>exact this
section
variable {N:Nat} {S:Nat->Prop} {w:World} {g:Nat} {s:Dst} {q ga base cap c:Nat} {A:Option Addr} {bs:List UInt8} {H:Hp}
theorem DS.gz{s:Dst}(h:DS N S w g s):∀j,S j->j<w.heap.size:=by
 obtain⟨_,_,_,_,_,_,_,_,hs⟩:=h;exact hs
theorem ajQ (h:DS N S w g s) (half:Nat) (hh:N/2=half) (h1:1<=half) (hN2:N<=128) (ho:s.off=false) (hwt:s.wt.length<=1000) (hleft:s.left<=9223372036854775807) (x y:Sk) (hx:abw s.bs s.wt half 0=x) (hy:abw s.bs s.wt half 1=y) (hp:PH w q ga base cap A c bs H) (o:Nat × Dst) (hO:afW x y half (aaM bs.length (H.blks.map toR) (ofD bs H.blks)) s=o):
 Calls Tryz.prog 18 #[.pointer (some ⟨g,0,none⟩), .pointer (some ⟨q,0,none⟩)] w fun e w'=>StpD N S w g o e w':=by
 have HL:=hE0 (ajN h half hh h1 hN2 ho x y hx hy);have hlen:=hp.len;have hm:=ajK hp.rd.rt.walk hlen hp.rd.rt.nfree.2.1;have hGx:x.G<=4611686018427387904:=by rw[<-hx];exact atI _ _ _
 have hGy:y.G<=4611686018427387904:=by rw[<-hy];exact atI _ _ _
 obtain⟨hl,hdl,_⟩:=akS hm;have hfl:=(aig hm).1;have HAR:=hE0 (fun W (hW:Below w.heap.size w W)=>ahN (hp.below hW));have HOF:=hE0 (fun W g' c' A' (ha:Ar W 160 g' base cap A' c' bs)=>ase W g' base cap c' A' bs H.blks ha hp.b62 hlen hp.rd.rt.chk hp.rd.rt.walk);have HPUT:=hE0 (fun W A1 A2 k1 k2 (hr:RkRd W W.heap.size A1 (H.blks.map toR)) (hd:DtRd W W.heap.size A2 (ofD bs H.blks))=>apF W bs.length (by omega) A1 A2 k1 k2 (H.blks.map toR) (ofD bs H.blks) hr hd hl hdl (by omega) hm);unfold imV at HPUT;rw[List.length_map]at HPUT;obtain⟨b,hb⟩:=nmE (aaM bs.length (H.blks.map toR) (ofD bs H.blks));rw[hb]at HPUT hO;obtain⟨ll,hll⟩:=nmE H.blks.length;obtain⟨dl,hdl'⟩:∃dl,(ofD bs H.blks).length=dl:=⟨_,rfl⟩;obtain⟨nn,hnn⟩:=nmE bs.length;rw[hll,hdl',hnn]at HOF HPUT;have HOLD:=hE0 (fun W A1 c1 A2 c2 B1 k1 B2 k2=>am0 W x y A1 c1 A2 c2 B1 k1 B2 k2);unfold aqS at HOLD;have HALF:=hE0 (fun W (hW:Below w.heap.size w W)=>agW (h.below hW) hN2 half hh);obtain⟨M,hM⟩:=nmE (512*(half-1));have HROOM:=hE0 (fun W (hW:Below w.heap.size w W)=>ajL (h.below hW) hN2 half M hh h1 hM);have HD:=hE0 h;obtain⟨m,hml⟩:=nmE b.length;rw[hml]at HPUT;have HM:=hE0 hml;obtain⟨tO,hto⟩:∃tO,(if aeg x y=0 then 1 else 0)=tO:=⟨_,rfl⟩;obtain⟨p,hpp⟩:=nmE (tO*half);have hto1:tO<=1:=by rw[<-hto];split<;>omega
 have hp2:p+half<=N:=by
  rw[<-hpp];rcases Nat.le_one_iff_eq_zero_or_eq_one.1 hto1 with e | e<;>rw[e]<;>omega
 have hpi:(tO:Int)*(half:Int)=(p:Int):=by rw[<-hpp];exact(Int.natCast_mul tO half).symm
 unfold afW at hO;rw[hM,hto,hpp,hml]at hO;rw[hto]at HOLD;obtain⟨xG,xN,xS,xo,xn,xl,xd⟩:=x;obtain⟨yG,yN,yS,yo,yn,yl,yd⟩:=y;dsimp only at HOLD hO hGx hGy;obtain⟨G,hG⟩:=nmE (max xG yG);rw[hG]at hO;have HO:=hE0 hO;have HG:=hE0 hG;have hGl:G<=4611686018427387904:=by omega
 have hMM:=hE0 hM;have hpq:p<=128:=by omega
 have hhl:half<=64:=by omega
 clear h hx hy hp hlen hm hl hdl hfl hb hll hdl' hnn hto hpp hto1 hO hG hml hM hGx hGy hh ho;go_enter Tryz.func18,Tryz.ntmps18
 go_wp2_with fail
 refine HL.out.mono ?_;rintro e w1 ⟨A1,c1,A2,c2,B1,k1,B2,k2,rfl,_,_,hb1⟩;unfold aqS;dsimp only;obtain⟨w2,ha2⟩:=nmE (w1.alloc (.cells #[.int .u64 0, .int .u64 0, .int .u32 0, .bool false, .int .i64 0, .slice none 0 0, .slice none 0 0, .int .u64 0, .int .u64 0, .int .u32 0, .bool false, .int .i64 0, .slice none 0 0, .slice none 0 0] 113));have n2:=anE ha2;have b2:=abE ha2;have N2:=hE0 n2;have HA2:=hE0 ha2;obtain⟨⟨pc0,pc1,pc2,pc3,pc4,pc5,pc6,pc7,pc8,pc9,pc10,pc11,pc12,pc13⟩,⟨pf0,pf1,pf2,pf3,pf4,pf5,pf6,pf7,pf8,pf9,pf10,pf11,pf12,pf13⟩,hlp⟩:=acr n2;obtain⟨w3,hp3,n3,b3,_,_⟩:=alR N2 (.int .u64 (xG:Int)) (.int .u64 (xN:Int)) (.int .u32 (xS:Int)) (.bool xo) (.int .i64 (xn:Int)) (.slice A1 xl.length c1) (.slice A2 xd.length c2);obtain⟨w4,hp4,n4,b4,_,_⟩:=alS n3 (.int .u64 (yG:Int)) (.int .u64 (yN:Int)) (.int .u32 (yS:Int)) (.bool yo) (.int .i64 (yn:Int)) (.slice B1 yl.length k1) (.slice B2 yd.length k2);have b14:=b4.out _ _ (Nat.le_refl _) (b3.out _ _ (Nat.le_refl _) b2);have HB4:=hE0 (hb1.trans (b14.mono hb1.size));clear ha2 b2 hb1 n2 b14 HL;go_wp2_with (first | (rw[HA2.out]) | (rw[hp3.out,hp4.out]) | fail)
 clear pc0 pc1 pc2 pc3 pc4 pc5 pc6 pc7 pc8 pc9 pc10 pc11 pc12 pc13 pf0 pf1 pf2 pf3 pf4 pf5 pf6 pf7 pf8 pf9 pf10 pf11 pf12 pf13 hlp;refine(HAR.out w4 HB4.out).mono ?_;rintro e w5 ⟨g5,A5,c5,rfl,ha5,hb5,_,_⟩;have HB5:=hE0 (HB4.out.trans (hb5.mono HB4.out.size));have n5:=hE0 ((hb5.block _ (aaa n4.out)).trans n4.out);have HF5:=hE0 (HOF.out w5 g5 c5 A5 ha5);clear ha5 hb5 HAR HOF;go_wp2_with fail
 refine HF5.out.mono ?_;rintro e w6 ⟨I1,I2,i1,i2,rfl,hr6,hd6,hb6⟩;obtain⟨w7,ha7,m7,b7⟩:=ac0 w6 110 (.int .i64 0) (.slice none 0 0) (.slice none 0 0);obtain⟨w8,hp8,m8,b8,⟨z0,z1,z2⟩,⟨e0,e1,e2⟩,hle⟩:=afj m7 (.int .i64 (nn:Int)) (.slice I1 ll i1) (.slice I2 dl i2);have hb68:=b8.out w6.heap.size w6 (Nat.le_refl _) b7.out;have hb58:=hb6.trans (hb68.mono hb6.size);have HB8:=hE0 (HB5.out.trans (hb58.mono HB5.out.size));have n8:=hE0 ((hb58.block _ (aaa n5.out)).trans n5.out);have HP8:=hE0 (HPUT.out w8 I1 I2 i1 i2 ((hr6.below hb68).more hb68.size) ((hd6.below hb68).more hb68.size));obtain⟨⟨t0,t1,t2⟩,_,hlt⟩:=abO m8.out;clear hr6 hd6 hb6 hb68 hb58 HF5 HPUT;go_wp2_with (first | (rw[ha7.out]) | (rw[hp8.out]) | fail)
 clear z0 z1 z2 e0 e1 e2 hle t0 t1 t2 hlt;refine HP8.out.mono ?_;rintro e w9 ⟨A9,c9,rfl,o9,b9⟩;have HB9:=hE0 (HB8.out.trans (b9.mono HB8.out.size));have n9:=hE0 ((b9.block _ (aaa n8.out)).trans n8.out);have hc9:=aeE o9;unfold maxLen at hc9;have HR9:=hE0 (aak o9);have HA9:Hid (∀a,A9=some a->¬S a.block):=(show ∀a,_->_ from fun a e hs=>by
  have h1:=HD.out.gz _ hs;have h2:=abS o9 a.block (by rw[e];rfl);have h3:=HB8.out.size;omega)
 obtain⟨⟨qc0,qc1,qc2,qc3,qc4,qc5,qc6,qc7,qc8,qc9,qc10,qc11,qc12,qc13⟩,⟨qf0,qf1,qf2,qf3,qf4,qf5,qf6,qf7,qf8,qf9,qf10,qf11,qf12,qf13⟩,hlq⟩:=acr n9.out;clear o9 b9 HP8;have hmx:max (xG:Int) (yG:Int)=(G:Int):=by have:=HG.out;omega
 have ho:=HO.out;have HFIN:Hid (StpD N S w g (7,s) (.returned (ag8 7)) w9):=StpD.from HB9.out rfl ((HD.out.below HB9.out).grown (Tch.refl _ _)) (Tch.refl _ _);go_wp2_with fail
 refine(HROOM.out _ HB9.out).mono ?_;rintro e w10 ⟨rfl,rfl⟩;clear qc0 qc1 qc2 qc3 qc4 qc5 qc6 qc7 qc8 qc9 qc10 qc11 qc12 qc13 qf0 qf1 qf2 qf3 qf4 qf5 qf6 qf7 qf8 qf9 qf10 qf11 qf12 qf13 hlq;by_cases hfar:M<m\/4611686018427387904<=G
 · rw[if_pos hfar]at ho;subst ho;by_cases hf1:M<m
   · have g1:decide ((M:Int)<(m:Int))=true:=decide_eq_true (by omega);have g1':decide (M<m)=true:=decide_eq_true hf1;go_wp2_with fail
     go_ret
     exact HFIN.out
   · have g1:decide ((M:Int)<(m:Int))=false:=decide_eq_false (by omega);have g1':decide (M<m)=false:=decide_eq_false hf1;obtain rfl:G=4611686018427387904:=by omega
     go_wp2_with fail
     go_ret
     exact HFIN.out
 · rw[if_neg hfar]at ho;have g1:decide ((M:Int)<(m:Int))=false:=decide_eq_false (by omega);have g1':decide (M<m)=false:=decide_eq_false (by omega);have g2:((G:Int)==4611686018427387904)=false:=by rw[beq_eq_false_iff_ne];omega
   have hGl':G<4611686018427387904:=by omega
   have hmM:m<=M:=by omega
   have HO2:=hE0 ho;clear ho hfar HFIN HO;obtain⟨⟨qc0,qc1,qc2,qc3,qc4,qc5,qc6,qc7,qc8,qc9,qc10,qc11,qc12,qc13⟩,⟨qf0,qf1,qf2,qf3,qf4,qf5,qf6,qf7,qf8,qf9,qf10,qf11,qf12,qf13⟩,hlq⟩:=acr n9.out;go_wp2_with fail
   clear qc0 qc1 qc2 qc3 qc4 qc5 qc6 qc7 qc8 qc9 qc10 qc11 qc12 qc13 qf0 qf1 qf2 qf3 qf4 qf5 qf6 qf7 qf8 qf9 qf10 qf11 qf12 qf13 hlq;refine(HOLD.out _ A1 c1 A2 c2 B1 k1 B2 k2).mono ?_;rintro e w10 ⟨rfl,hb10⟩;have HB10:=hE0 (HB9.out.trans (hb10.mono HB9.out.size));have HR10:=hE0 ((HR9.out.below hb10).more hb10.size);clear hb10;go_wp2_with fail
   refine(HALF.out _ HB10.out).mono ?_;rintro e w11 ⟨rfl,rfl⟩;have hG1:((G:Int)+1)=((G+1:Nat):Int):=rfl;have HG1:=hE0 hG1;clear hG1;have HLAY:=hE0 (aqT (HD.out.below HB10.out) hN2 (by omega) hleft p half hp2 A9 c9 b (by rw[HM.out];exact HR10.out) (by rw[HM.out];exact hc9.1) (by omega) HA9.out h1 (by rw[HM.out,hMM.out];exact hmM) G hGl');rw[HM.out,HO2.out]at HLAY;go_wp2_with fail
   rw[HG1.out];refine HLAY.out.mono ?_;rintro e w12 ⟨rfl,hR,hT⟩;have HF:=hE0 (StpD.from HB10.out rfl hR hT);clear hR hT HLAY;go_wp2
   go_ret
   exact HF.out
end
theorem aiM (p:Nat) (d:List UInt8) (hd:d.length=512):afx p d 1= [(p,d)]:=by
 have hp:afk d 0=d:=by
  unfold afk;rw[hd,Nat.zero_mul,List.drop_zero,List.take_of_length_le (by omega)];simp
 simp[afx,hp,List.range_succ]
theorem ajR (n p:Nat) (b:List UInt8) (j:Nat) (h:(p+j)*512<=n):am4 n (afx p b j):=by
 intro x hx;unfold afx at hx;obtain⟨i,hi,rfl⟩:=List.mem_map.1 hx;have:=List.mem_range.1 hi;exact⟨by dsimp only;omega,ac1 _ _⟩
section
variable {s:Dst}
theorem alT (h:ag1 s) (p:Nat) (d:List UInt8):(dwr s p d).2.wt=s.wt++ [(p,d)]/\(dwr s p d).2.bs=s.bs:=by
 unfold dwr;rw[if_neg (by rintro(e | e);· rw[h.1]at e;cases e
                          · have:=h.2;omega)]
 exact⟨rfl,rfl⟩
theorem ao5 (h:ag1 s):(dfl s).2.bs=aeB s.bs s.wt:=by
 unfold dfl;rw[if_neg (by rw[h.1];decide)]
theorem ao6 (h:ag1 s) (p:Nat) (b:List UInt8):(agI s p b).2.wt=s.wt++afx p b (need b.length)/\(agI s p b).2.bs=s.bs:=by
 have e:wk (need b.length) s.left s.off=need b.length:=by unfold wk;rw[if_neg (by rw[h.1];decide),if_pos h.2]
 unfold agI;rw[e];exact⟨rfl,rfl⟩
theorem aqU (h:ag1 s) (hw:s.wt= []) (p:Nat) (b rec:List UInt8):(adO p b rec s).2.bs=aeB (aeB (aeB s.bs [(p,List.replicate 512 0)]) (afx (p+1) b (need b.length))) [(p,rec)]:=by
 obtain⟨a1,h1⟩:=af9 h p (List.replicate 512 0);obtain⟨a2,h2,e2⟩:=aff h1;obtain⟨a3,h3⟩:=ajH h2 (p+1) b;obtain⟨a4,h4,e4⟩:=aff h3;obtain⟨a5,h5⟩:=af9 h4 p rec;unfold adO;rw[aao a1,aao a2,aao a3,aao a4,aao a5,ao5 h5,(alT h4 _ _).1,(alT h4 _ _).2,e4,ao5 h3,(ao6 h2 _ _).1,(ao6 h2 _ _).2,e2,ao5 h1,(alT h _ _).1,(alT h _ _).2,hw];rfl
theorem ahQ (h:ag1 s) (hw:s.wt= []) (p:Nat) (b rec:List UInt8) (hrec:rec.length=512) (hp:(p+1+need b.length)*512<=s.bs.length) (i:Nat):
 aa7 (adO p b rec s).2.bs [] i=if i=p then rec else if p+1<=i/\i<p+1+need b.length then afk b (i-(p+1)) else aa7 s.bs [] i:=by
 have e1:∀d:List UInt8,d.length=512->am4 s.bs.length [(p,d)]:=fun d hd=>by rw[<-aiM p d hd];exact ajR _ _ _ _ (by omega)
 have hz:(List.replicate 512 (0:UInt8)).length=512:=List.length_replicate;have l1:=ab8 _ _ (e1 _ hz);have e2:am4 s.bs.length (afx (p+1) b (need b.length)):=ajR _ _ _ _ hp;have l2:=ab8 (afx (p+1) b (need b.length)) (aeB s.bs [(p,List.replicate 512 0)]) (by rw[l1];exact e2);rw[aqU h hw,aeI _ _ _ (by rw[l2,l1];exact e1 _ hrec),<-aiM p rec hrec,adv,aeI _ _ _ (by rw[l1];exact e2),adv,aeI _ _ _ (e1 _ hz),<-aiM p _ hz,adv];by_cases hi:i=p
 · subst hi;rw[if_pos (by omega),if_pos rfl];unfold afk;rw[hrec,Nat.sub_self,Nat.zero_mul,List.drop_zero,List.take_of_length_le (by omega)];simp
 · rw[if_neg (by omega),if_neg hi];split
   · rfl
   · rw[if_neg (by omega)]
theorem am2 (h:ag1 s) (hw:s.wt= []) (half k G:Nat) (n:Nat) (l:List Rk) (d:List (List UInt8)) (hm:acG (n:Int) l d=true) (b:List UInt8) (hb:aaM n l d=b) (hfit:b.length<=512*(half-1)) (h1:1<=half) (hl:(k*half+half)*512<=s.bs.length) (hG:1<=G/\G<=4611686018427387904) (h64:half<=64):
 abw (adO (k*half) b (abA G b.length (abn 0 b)) s).2.bs [] half k=⟨G,b.length,abn 0 b,true,n,l,d⟩:=by
 have hok:ahu G b.length=true:=by unfold ahu;simp only[Bool.and_eq_true,decide_eq_true_eq];omega
 obtain⟨p1,p2,p3,p4⟩:=anZ hok (acI 0 b);obtain⟨-,f1,f2,f3⟩:=ae3 p1;obtain⟨p,hp⟩:=nmE (k*half);rw[hp]at hl ⊢;have hn:need b.length<=half-1:=by unfold need;omega
 have hlast:=ahQ h hw p b (abA G b.length (abn 0 b)) (aea _ _ _) (by omega);unfold abw ajt;rw[hp,hlast p,if_pos rfl,if_neg (by rw[p1];decide),<-f1,<-f2,<-f3,p2,p3,p4,if_neg (by omega)];have hr:ac2 (adO p b (abA G b.length (abn 0 b)) s).2.bs [] (p+1) (need b.length)=adu b (need b.length):=by
  rw[<-ams s.bs (p+1) b (need b.length)];refine agC _ _ fun i hi=> ?_;rw[hlast,if_neg (by omega),if_pos (by omega),adv,if_pos (by omega)]
 dsimp only;rw[hr,aks b _ rfl];have hg:=(aky hm).got;rw[hb]at hg;rw[hg];unfold apb;rw[if_pos ⟨rfl,rfl⟩]
theorem akT (h:ag1 s) (hw:s.wt= []) (half k j:Nat) (b rec:List UInt8) (hrec:rec.length=512) (hkj:j*half+half<=k*half\/k*half+half<=j*half) (h1:1<=half) (hfit:b.length<=512*(half-1)) (hl:(k*half+half)*512<=s.bs.length):
 abw (adO (k*half) b rec s).2.bs [] half j=abw s.bs [] half j:=by
 have hn:need b.length<=half-1:=by unfold need;omega
 have hlast:=ahQ h hw (k*half) b rec hrec (by omega);have e0:aa7 (adO (k*half) b rec s).2.bs [] (j*half)=aa7 s.bs [] (j*half):=by rw[hlast,if_neg (by omega),if_neg (by omega)]
 unfold abw;rw[e0];unfold ajt;split
 · rfl
 split
 · rfl
 · rename_i hq;dsimp only;have hq':need (slN (aa7 s.bs [] (j*half)))<=half-1:=by unfold need;omega
   rw[agC (bs:=(adO (k*half) b rec s).2.bs) (bs':=s.bs) (l:= []) (l':= []) (j*half+1) (need (slN (aa7 s.bs [] (j*half)))) fun i hi=>(by rw[hlast,if_neg (by omega),if_neg (by omega)])]
end
theorem akU (n i:Nat) (hi:i*512+512<=n):aa7 (List.replicate n 0) [] i=List.replicate 512 0:=by
 show((List.replicate n (0:UInt8)).drop (i*512)).take 512=_;rw[List.drop_replicate,List.take_replicate];congr 1;omega
theorem agZ (n half k:Nat) (hk:k*half*512+512<=n):abw (List.replicate n 0) [] half k=alu:=by
 unfold abw ajt;rw[akU _ _ hk,if_pos akl]
section
variable {N:Nat} {S:Nat->Prop} {w w':World} {g:Nat} {s:Dst}
theorem DS.made{h c:Nat}{bs:List UInt8}(k:Dk (abj (fun _=>False) w w') w' g h c none 0 bs [] (-1) false) (hl:bs.length=512*N):DS N (abj (fun _=>False) w w') w' g ⟨bs,[],-1,false⟩:=
 ⟨h,c,none,0,[],k,rfl,hl,fun j hj=>by rcases hj with h | h;exact h.elim;exact h.2⟩
theorem RS.made{L:Option Addr}{cl:Nat}{ls:List Wr}{bs:List UInt8}(k:Rq (abj (fun _=>False) w w') w' g L cl none 0 ls [] (-1) false) (hj:aaW ls=bs) (hl:bs.length=512*N):RS N (abj (fun _=>False) w w') w' g ⟨bs,[],-1,false⟩:=
 ⟨L,cl,none,0,ls,[],k,hj,rfl,by have:=abG ls k.five;rw[hj,hl]at this;omega,fun j hj=>by rcases hj with h | h;exact h.elim;exact h.2⟩
theorem DS.bytes (h:DS N S w g s) (hN2:N<=128):Calls Tryz.prog 22 #[.pointer (some ⟨g,0,none⟩)] w fun e w'=>aeT s.bs w e w':=by
 obtain⟨q,c,W,cw,ws,k,e1,e2,hs⟩:=h;exact ame k (by omega)
theorem RS.bytes (h:RS N S w g s) (hN2:N<=128):Calls Tryz.prog 23 #[.pointer (some ⟨g,0,none⟩)] w fun e w'=>aeT s.bs w e w':=by
 obtain⟨L,cl,W,cw,ls,ws,k,e1,e2,e3,hs⟩:=h;rw[<-e1];exact akr k (by omega)
end
end Go.Proofs.YthnfclimjmmckaaGreatDoor
