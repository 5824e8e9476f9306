/- Texts of mine, joined. -/
import Derived.Test.YtncadccbepjekaaGreatDoorU8
namespace Go.Proofs.YtncadccbepjekaaGreatDoor
def aoC (x:Bk):Nat:=acf (x.size:Int) x.used
def aaU (bs:List UInt8) (x:Bk):List UInt8:=lyN (lyN bs x.off (aoC x)) (x.off+x.size-8) (aoC x)
def ahU (bs:List UInt8) (l:List Bk):List UInt8:=l.foldl aaU bs
def abA:Nat->List Bk->Nat->Prop
 | o,[],e=>o=e
 | o,x::r,e=>x.off=o/\aaB (x.size:Int)=true/\abA (o+x.size) r e
theorem aak:∀(l:List Bk) (o e:Nat),abA o l e->o<=e/\∀x∈l,o<=x.off/\x.off+x.size<=e/\aaB (x.size:Int)=true/\x.off%16=o%16
 | [],o,e,h=>⟨Nat.le_of_eq h,fun x hx=>by cases hx⟩
 | y::r,o,e,⟨h1,h2,h3⟩=>by
  obtain⟨q,h⟩:=aak r _ e h3;have hs:=(aab _).1 h2;refine⟨by omega,fun x hx=> ?_⟩;rcases List.mem_cons.1 hx with rfl | hx
  · exact⟨by omega,by omega,h2,by omega⟩
  · obtain⟨a,b,c,d⟩:=h x hx;exact⟨by omega,b,c,by omega⟩
theorem ajO:∀(l:List Bk) (o e:Nat) (x:Bk),abA o l e->x.off=e->aaB (x.size:Int)=true->abA o (l++ [x]) (e+x.size)
 | [],o,e,x,h,h1,h2=>⟨by rw[h1];exact h.symm,h2,by have:o=e:=h;rw[this];rfl⟩
 | y::r,o,e,x,⟨a,b,c⟩,h1,h2=>⟨a,b,ajO r _ e x c h1 h2⟩
theorem aaG:∀(l:List Bk) (o e:Nat),abA o l e->∀x∈l,∀y∈l,x=y\/x.off+x.size<=y.off\/y.off+y.size<=x.off
 | [],_,_,_,x,hx,_,_=>by cases hx
 | z::r,o,e,⟨h1,h2,h3⟩,x,hx,y,hy=>by
  have hm:=(aak r _ e h3).2;rcases List.mem_cons.1 hx with rfl | hx'
  · rcases List.mem_cons.1 hy with rfl | hy'
    · exact .inl rfl
    · have:=hm y hy';exact .inr (.inl (by omega))
  · rcases List.mem_cons.1 hy with rfl | hy'
    · have:=hm x hx';exact .inr (.inr (by omega))
    · exact aaG r _ e h3 x hx' y hy'
section
variable {bs:List UInt8} {x y:Bk}
theorem aa8 (hs:aaB (x.size:Int)=true) (h:x.off+x.size<=bs.length):(aaU bs x).length=bs.length:=by
 have hs:=(aab _).1 hs;have e:=aah bs x.off (aoC x) (by omega);unfold aaU;rw[aah _ _ _ (by omega),e]
theorem aaS (hs:aaB (x.size:Int)=true) (h:x.off+x.size<=bs.length) (p:Nat) (hp:p+8<=x.off\/x.off+x.size<=p\/(x.off+8<=p/\p+8<=x.off+x.size-8)):aaf (aaU bs x) p=aaf bs p:=by
 have hs:=(aab _).1 hs;have e:=aah bs x.off (aoC x) (by omega);unfold aaU;rw[aax _ _ _ _ (by omega) (by omega),aax _ _ _ _ (by omega) (by omega)]
theorem aoX (h1:184<=x.off) (h2:x.off%16=8) (h3:x.off+x.size<=bs.length) (hs:aaB (x.size:Int)=true):aa6 (aaU bs x) (x.off:Int)=some x:=by
 have q:=(aab _).1 hs;have e:=aah bs x.off (aoC x) (by omega);have ht:aoC x<18446744073709551616:=by have:=af6 (x.size:Int) x.used;unfold aoC;omega
 have w1:aaf (aaU bs x) x.off=aoC x:=by
  unfold aaU;rw[aax _ _ _ _ (by omega) (by omega),abH _ _ _ (by omega) ht]
 have w2:aaf (aaU bs x) (x.off+x.size-8)=aoC x:=by
  unfold aaU;rw[abH _ _ _ (by omega) ht]
 refine alc h1 h2 (by rw[aa8 hs h3];exact h3) ?_ (by rw[w1,w2]);rw[w1];unfold aoC;rw[afp hs];rfl
theorem ajP (hs:aaB (x.size:Int)=true) (h:x.off+x.size<=bs.length) (hy:aa6 bs (y.off:Int)=some y) (hd:y.off+y.size<=x.off\/x.off+x.size<=y.off):aa6 (aaU bs x) (y.off:Int)=some y:=by
 obtain⟨_,_,_,g3,g4,_⟩:=aaw hy;have q:=(aab _).1 g4;exact abW bs _ y (aa8 hs h) hy (aaS hs h _ (by omega)) (aaS hs h _ (by omega))
end
theorem agE:∀(l:List Bk) (bs:List UInt8) (o e:Nat),184<=o->o%16=8->abA o l e->e<=bs.length->
 (ahU bs l).length=bs.length/\(∀x∈l,aa6 (ahU bs l) (x.off:Int)=some x)/\
 (∀y,aa6 bs (y.off:Int)=some y->y.off+y.size<=o\/e<=y.off->aa6 (ahU bs l) (y.off:Int)=some y)/\
 (∀p,p+8<=o\/e<=p\/(∃x∈l,x.off+8<=p/\p+8<=x.off+x.size-8)->aaf (ahU bs l) p=aaf bs p)
 | [],bs,o,e,_,_,_,_=>⟨rfl,fun x hx=>(by cases hx),fun _ hy _=>hy,fun _ _=>rfl⟩
 | z::r,bs,o,e,ho,ho2,⟨h1,h2,h3⟩,he=>by
  have q:=(aab _).1 h2;obtain⟨hoe,hm⟩:=aak r _ e h3;have hz:z.off+z.size<=bs.length:=by omega
  have el:=aa8 h2 hz;obtain⟨i1,i2,i3,i4⟩:=agE r (aaU bs z) (o+z.size) e (by omega) (by omega) h3 (by omega);have eq:ahU bs (z::r)=ahU (aaU bs z) r:=rfl;rw[eq];refine⟨i1.trans el,fun x hx=> ?_,fun y hy hd=> ?_,fun p hp=> ?_⟩
  · rcases List.mem_cons.1 hx with rfl | hx
    · exact i3 x (aoX (by omega) (by omega) hz h2) (.inl (by omega))
    · exact i2 x hx
  · obtain⟨_,_,_,g3,g4,_⟩:=aaw hy;have q2:=(aab _).1 g4;exact i3 y (ajP h2 hz hy (by omega)) (by omega)
  · rcases hp with hp | hp | ⟨x,hx,a,b⟩
    · rw[i4 p (.inl (by omega)),aaS h2 hz p (.inl (by omega))]
    · rw[i4 p (.inr (.inl hp)),aaS h2 hz p (.inr (.inl (by omega)))]
    · rcases List.mem_cons.1 hx with rfl | hx
      · rw[i4 p (.inl (by omega)),aaS h2 hz p (.inr (.inr ⟨a,b⟩))]
      · have:=hm x hx;rw[i4 p (.inr (.inr ⟨x,hx,a,b⟩)),aaS h2 hz p (.inr (.inl (by omega)))]
theorem ahV (bs:List UInt8):∀(l:List Bk) (o k:Nat),abA o l bs.length->(∀x∈l,aa6 bs (x.off:Int)=some x)->bs.length<o+k->ada bs k o=some l
 | [],o,k,h,_,hk=>by
  have h:o=bs.length:=h;obtain⟨k,rfl⟩:∃k',k=k'+1:=⟨k-1,by omega⟩;unfold ada;rw[if_neg (by omega)]
 | x::r,o,k,⟨h1,h2,h3⟩,hg,hk=>by
  have q:=(aab _).1 h2;have hoe:=(aak r _ _ h3).1;obtain⟨k,rfl⟩:∃k',k=k'+1:=⟨k-1,by omega⟩;unfold ada;rw[if_pos (by omega),<-h1,hg x (by simp)];dsimp only;rw[h1,ahV bs r (o+x.size) k h3 (fun y hy=>hg y (by simp[hy])) (by omega)];rfl
theorem adb{bs:List UInt8}{l:List Bk}(h:abA 184 l bs.length) (hg:∀x∈l,aa6 bs (x.off:Int)=some x):abG bs=some l:=by
 have:=(aak l _ _ h).1;unfold abG;rw[if_neg (by omega)];exact ahV bs l 184 _ h hg (by omega)
theorem agF (bs:List UInt8):∀(k o:Nat) (l:List Bk),o<=bs.length->ada bs k o=some l->abA o l bs.length/\∀x∈l,aa6 bs (x.off:Int)=some x
 | 0,_,_,_,h=>by cases h
 | k+1,o,l,ho,h=>by
  unfold ada at h;by_cases hlt:o<bs.length
  · rw[if_pos hlt]at h
    cases hg:aa6 bs (o:Int)with
    | none=>rw[hg]at h;cases h
    | some y=>
     rw[hg]at h;dsimp only at h;obtain⟨g0,_,_,g3,g4,_⟩:=aaw hg;have g0:y.off=o:=by omega
     cases hr:ada bs k (o+y.size)with
     | none=>rw[hr]at h;cases h
     | some r=>
      rw[hr]at h;injection h with h;subst h;obtain⟨i1,i2⟩:=agF bs k _ r (by omega) hr;refine⟨⟨g0,g4,i1⟩,fun x hx=> ?_⟩;rcases List.mem_cons.1 hx with rfl | hx
      · rw[g0];exact hg
      · exact i2 x hx
  · rw[if_neg hlt]at h;injection h with h;subst h;exact⟨by show o=bs.length;omega,fun x hx=>by cases hx⟩
theorem aaj{bs:List UInt8}{l:List Bk}(h:abG bs=some l):184<=bs.length/\abA 184 l bs.length/\∀x∈l,aa6 bs (x.off:Int)=some x:=by
 unfold abG at h;split at h
 · cases h
 · exact⟨by omega,agF bs _ _ l (by omega) h⟩
theorem aoY{bs:List UInt8}{x:Bk}(h:aa6 bs (x.off:Int)=some x):abN bs ((x.off:Int)+(x.size:Int))=some x:=by
 obtain⟨_,g1,_,g3,g4,g5,g6⟩:=aaw h;have q:=(aab _).1 g4;unfold abN;rw[if_neg (by omega)];have e1:((x.off:Int)+(x.size:Int)).toNat-8=x.off+x.size-8:=by omega
 have e2:(x.off:Int)+(x.size:Int)-(x.size:Int)=(x.off:Int):=by omega
 rw[e1,g6,g5];dsimp only;rw[e2,h];dsimp only;rw[if_pos ⟨rfl,rfl⟩]
theorem aft{bs:List UInt8}{P:List Bk}(hl:184<=bs.length) (hm:bs.length<=16384) (hst:Stands bs P) (hz:∀p,p+8<=184->p%8=0->aaf bs p=0):Lists bs P (fun _=> []) where
 len:=hl
 small:=hm
 st:=hst
 head:=fun c hc=>by rw[hz _ (by omega) (by omega)];rfl
 bit:=fun c hc=>by
  rw[hz 0 (by omega) rfl];have:∀c,aco 0 c=false:=fun c=>by unfold aco;simp
  rw[this];rfl
 mem:=fun c _ o ho=>by cases ho
 links:=fun c _=>trivial
 nodup:=fun c _=>List.nodup_nil
def szB (bs:List UInt8) (o:Nat):Nat:=match aa6 bs (o:Int)with
 | some x=>x.size
 | none=>0
theorem asE{bs:List UInt8}{o:Nat}{x:Bk}(h:aa6 bs (o:Int)=some x):szB bs o=x.size:=by
 unfold szB;rw[h]
def ahC (bs:List UInt8) (s:Int):Nat->Nat->Option Nat
 | 0,_=>some 0
 | k+1,c=>match afn bs c with
  | none=>none
  | some l=>match l.find? (fun o=>decide (s<=(szB bs o:Int)))with
   | some o=>some o
   | none=>ahC bs s k (c+1)
def aoZ (bs:List UInt8) (s:Int):Option Nat:=ahC bs s (22-(aaq s).toNat) (aaq s).toNat
def af3 (out:List UInt8) (x:Bk):List UInt8:=if x.used=true then out else (ahS out (x.off:Int)).getD out
def abz (bs:List UInt8):Option (List UInt8):=(abG bs).map fun l=>l.foldl af3 (List.replicate 184 0++bs.drop 184)
def aa2 (l:List Bk) (c:Nat):List Nat:=(l.reverse.filter fun x=> !x.used&&aaq (x.size:Int)==(c:Int)).map Bk.off
theorem aem (l:List Bk) (x:Bk) (c:Nat):aa2 (l++ [x]) c=if x.used=false/\aaq (x.size:Int)=(c:Int) then x.off::aa2 l c else aa2 l c:=by
 unfold aa2;rw[List.reverse_append,List.reverse_singleton,List.singleton_append,List.filter_cons];by_cases h:x.used=false/\aaq (x.size:Int)=(c:Int)
 · rw[if_pos h,if_pos (by simp[h.1,h.2]),List.map_cons]
 · rw[if_neg h,if_neg (by intro h';apply h;simpa using h')]
theorem abC{l:List Bk}{c o:Nat}(h:o∈aa2 l c):∃x∈l,x.off=o/\x.used=false/\aaq (x.size:Int)=(c:Int):=by
 unfold aa2 at h;obtain⟨x,hx,e⟩:=List.mem_map.1 h;obtain⟨h1,h2⟩:=List.mem_filter.1 hx;have h2':x.used=false/\aaq (x.size:Int)=(c:Int):=by simpa using h2
 exact⟨x,List.mem_reverse.1 h1,e,h2'.1,h2'.2⟩
theorem abe{l:List Bk}{c:Nat}{x:Bk}(h:x∈l) (hu:x.used=false) (hc:aaq (x.size:Int)=(c:Int)):x.off∈aa2 l c:=by
 unfold aa2;exact List.mem_map.2 ⟨x,List.mem_filter.2 ⟨List.mem_reverse.2 h,by simp[hu,hc]⟩,rfl⟩
theorem aeW{P:List Bk}:∀(rest done:List Bk) (bs:List UInt8),(∀x∈rest,x∈P)->(done++rest).Pairwise (fun x y=>x.off≠y.off)->Lists bs P (aa2 done)->
 Lists (rest.foldl af3 bs) P (aa2 (done++rest))/\(rest.foldl af3 bs).length=bs.length/\Kept P bs (rest.foldl af3 bs)
 | [],done,bs,_,_,h=>by rw[List.append_nil];exact⟨h,rfl,Kept.refl _ _⟩
 | x::r,done,bs,hm,hp,h=>by
  have e:done++x::r=(done++ [x])++r:=by simp
  have hxP:=hm x (by simp);rw[e]at hp ⊢
  cases hu:x.used with
  | true=>
   have e1:af3 bs x=bs:=by unfold af3;rw[if_pos hu]
   have e2:aa2 (done++ [x])=aa2 done:=by
    funext c;rw[aem,if_neg (by rw[hu];simp)]
   rw[List.foldl_cons,e1];exact aeW r (done++ [x]) bs (fun y hy=>hm y (by simp[hy])) hp (by rw[e2];exact h)
  | false=>
   obtain⟨c,hc,hc22⟩:=abq (h.st.facts hxP).2.2.2.2.2;have hn:x.off∉aa2 done c:=fun hmem=>by
    obtain⟨y,hy,ey,_⟩:=abC hmem;have h1:=(List.pairwise_append.1 (List.pairwise_append.1 hp).1).2.2;exact h1 y hy x (by simp) ey
   obtain⟨bs',q1,q2,q3,q4⟩:=h.put hxP hu hc hc22 hn;have e1:af3 bs x=bs':=by unfold af3;rw[if_neg (by rw[hu];simp),q1];rfl
   have e2:aga (aa2 done) c (x.off::aa2 done c)=aa2 (done++ [x]):=by
    funext d;rw[aem];unfold aga;by_cases hd:d=c
    · subst hd;rw[if_pos rfl,if_pos ⟨hu,hc⟩]
    · rw[if_neg hd,if_neg (fun h=>hd (by have:=h.2;omega))]
   rw[List.foldl_cons,e1];obtain⟨i1,i2,i3⟩:=aeW r (done++ [x]) bs' (fun y hy=>hm y (by simp[hy])) hp (by rw[<-e2];exact q2);exact⟨i1,i2.trans q3,q4.trans i3⟩
theorem aeD:∀(l:List Bk) (o e:Nat),abA o l e->l.Pairwise (fun x y=>x.off≠y.off)
 | [],_,_,_=>List.Pairwise.nil
 | x::r,o,e,⟨h1,h2,h3⟩=>by
  have q:=(aab _).1 h2;refine List.Pairwise.cons (fun y hy=> ?_) (aeD r _ e h3);have:=(aak r _ e h3).2 y hy;omega
theorem ant (n:Nat):ab2 (List.replicate n 0)=0:=by
 induction n with
 | zero=>rfl
 | succ n ih=>rw[List.replicate_succ];simp[ab2,ih]
theorem adv (bs:List UInt8) (n p:Nat) (h:p+8<=n):aaf (List.replicate n 0++bs) p=0:=by
 unfold aaf;rw[List.drop_append_of_le_length (by simp;omega),List.take_append_of_le_length (by simp;omega),List.drop_replicate,List.take_replicate,ant]
theorem aeX (bs:List UInt8) (n i:Nat) (h:n<=i):(List.replicate n (0:UInt8)++bs.drop n)[i]?=bs[i]?:=by
 rw[List.getElem?_append_right (by simpa using h),List.length_replicate,List.getElem?_drop];congr 1;omega
theorem ahD{bs:List UInt8}{l:List Bk}(h:abG bs=some l) (hm:bs.length<=16384):
 ∃out,abz bs=some out/\Lists out l (aa2 l)/\out.length=bs.length/\abG out=some l:=by
 obtain⟨h184,ht,hg⟩:=aaj h;have hmem:=(aak l _ _ ht).2;have el:(List.replicate 184 (0:UInt8)++bs.drop 184).length=bs.length:=by rw[List.length_append,List.length_replicate,List.length_drop];omega
 have hst:Stands (List.replicate 184 (0:UInt8)++bs.drop 184) l:=by
  refine⟨fun x hx=> ?_,aaG l _ _ ht⟩;obtain⟨a,b,c,_⟩:=hmem x hx;have q:=(aab _).1 c;refine abW bs _ x el (hg x hx) ?_ ?_
  · exact aaL _ _ _ fun i h1 _=>aeX bs 184 i (by omega)
  · exact aaL _ _ _ fun i h1 _=>aeX bs 184 i (by omega)
 have hL:=aft (by rw[el];exact h184) (by rw[el];exact hm) hst (fun p hp _=>adv _ _ _ hp);have e0:(fun _=> [])=aa2 []:=by funext c;rfl
 rw[e0]at hL;obtain⟨i1,i2,_⟩:=aeW l [] _ (fun x hx=>hx) (by simpa using aeD l _ _ ht) hL;rw[List.nil_append]at i1;refine⟨_,by unfold abz;rw[h];rfl,i1,i2.trans el,?_⟩;exact adb (by rw[i2,el];exact ht) i1.st.at_
theorem ale{a b:Int}(ha:aaB a=true) (hb:aaB b=true) (h:a<=b):aaq a<=aaq b:=by
 have key:∀s:Int,aaB s=true->(s<=256/\aaq s=s/16-2)\/(256<s/\s<512/\aaq s=15)\/(512<=s/\s<1024/\aaq s=16)\/(1024<=s/\s<2048/\aaq s=17)\/(2048<=s/\s<4096/\aaq s=18)\/(4096<=s/\s<8192/\aaq s=19)\/(8192<=s/\s<16384/\aaq s=20)\/(16384<=s/\aaq s=21):=fun s hs=>by
  unfold aaq;rw[if_neg (by rw[hs];simp)];split
  · exact .inl ⟨by assumption,rfl⟩
  · split
    · exact .inr (.inl ⟨by omega,by assumption,rfl⟩)
    · split
      · exact .inr (.inr (.inl ⟨by omega,by assumption,rfl⟩))
      · split
        · exact .inr (.inr (.inr (.inl ⟨by omega,by assumption,rfl⟩)))
        · split
          · exact .inr (.inr (.inr (.inr (.inl ⟨by omega,by assumption,rfl⟩))))
          · split
            · exact .inr (.inr (.inr (.inr (.inr (.inl ⟨by omega,by assumption,rfl⟩)))))
            · split
              · exact .inr (.inr (.inr (.inr (.inr (.inr (.inl ⟨by omega,by assumption,rfl⟩))))))
              · exact .inr (.inr (.inr (.inr (.inr (.inr (.inr ⟨by omega,rfl⟩))))))
 rcases key a ha with h1 | h1 | h1 | h1 | h1 | h1 | h1 | h1<;>rcases key b hb with h2 | h2 | h2 | h2 | h2 | h2 | h2 | h2<;>omega
theorem amy (bs:List UInt8) (c:Nat):∀(k last p:Nat) (l:List Nat),ael bs c k last p=some l->l.length<=k
 | 0,last,p,l,h=>by
  unfold ael at h;split at h
  · injection h with h;subst h;exact Nat.le_refl _
  · cases h
 | k+1,last,p,l,h=>by
  unfold ael at h;by_cases hp:p=0
  · rw[if_pos hp]at h;injection h with h;subst h;exact Nat.zero_le _
  · rw[if_neg hp]at h;dsimp only at h;by_cases hm:aap bs p (c:Int)=true/\aaf bs (p+16)=last
    · rw[if_pos hm]at h
      cases hr:ael bs c k p (aaf bs (p+8))with
      | none=>rw[hr]at h;cases h
      | some l'=>
       rw[hr]at h;injection h with h;subst h;have:=amy bs c k p _ l' hr;rw[List.length_cons];omega
    · rw[if_neg hm]at h;cases h
theorem arr{bs:List UInt8}{c:Nat}{l:List Nat}(h:afn bs c=some l):l.length<=1024:=by
 unfold afn at h;split at h
 · cases h
 · split at h
   · cases h
   · exact amy bs c _ _ _ l h
theorem ajQ (bs:List UInt8):∀(k o:Nat) (l:List Bk),ada bs k o=some l->l.length<=k
 | 0,_,_,h=>by cases h
 | k+1,o,l,h=>by
  unfold ada at h;by_cases hlt:o<bs.length
  · rw[if_pos hlt]at h
    cases hg:aa6 bs (o:Int)with
    | none=>rw[hg]at h;cases h
    | some y=>
     rw[hg]at h;dsimp only at h
     cases hr:ada bs k (o+y.size)with
     | none=>rw[hr]at h;cases h
     | some r=>
      rw[hr]at h;injection h with h;subst h;have:=ajQ bs k _ r hr;rw[List.length_cons];omega
  · rw[if_neg hlt]at h;injection h with h;subst h;exact Nat.zero_le _
theorem ajR{bs:List UInt8}{l:List Bk}(h:abG bs=some l):l.length<=bs.length+1:=by
 unfold abG at h;split at h
 · cases h
 · exact ajQ bs _ _ l h
def abl (l:List Bk):Nat:=l.countP fun x=> !x.used
def adP (l:List Bk) (i:Nat):Bool:=match l[i]? with
 | some x=>x.used
 | none=>true
def adQ (l:List Bk) (i:Nat):Bool:=i==0 || (adP l i || adP l (i-1))
def aex (l:List Bk):Bool:=(List.range l.length).all (adQ l)
def acx (l:List Bk) (o:Nat):Bool:=l.any fun x=>x.off==o&& !x.used
def okO (l:List Bk) (all:List Nat) (o:Nat):Bool:=acx l o&&all.count o==1
def agb (bs:List UInt8) (l:List Bk):Nat->Nat->Int->Bool
 | 0,_,fr=>fr==0
 | k+1,c,fr=>match afn bs c with
  | none=>false
  | some all=>all.all (okO l all)&&agb bs l k (c+1) (fr-all.length)
def abY (bs:List UInt8):Bool:=match abG bs with
 | none=>false
 | some l=>decide (ans bs 0<4194304)&&(aex l&&agb bs l 22 0 (abl l))
def afu (l:List Bk):Nat->Nat->Nat
 | 0,_=>0
 | k+1,c=>(aa2 l c).length+afu l k (c+1)
theorem amz:∀k c,afu [] k c=0
 | 0,_=>rfl
 | k+1,c=>by
  unfold afu;rw[amz k (c+1)];rfl
theorem ajS (l:List Bk) (x:Bk):∀k c:Nat,afu (l++ [x]) k c=afu l k c+if x.used=false/\(c:Int)<=aaq (x.size:Int)/\aaq (x.size:Int)<(c:Int)+(k:Int) then 1 else 0
 | 0,c=>by
  unfold afu;rw[if_neg (by omega)]
 | k+1,c=>by
  unfold afu;rw[ajS l x k (c+1),aem];by_cases h:x.used=false/\aaq (x.size:Int)=(c:Int)
  · rw[if_pos h,if_neg (by have:=h.2;omega),if_pos ⟨h.1,by have:=h.2;omega,by have:=h.2;omega⟩,List.length_cons];omega
  · rw[if_neg h];by_cases h2:x.used=false/\((c:Int)<=aaq (x.size:Int)/\aaq (x.size:Int)<(c:Int)+((k+1:Nat):Int))
    · have:¬aaq (x.size:Int)=(c:Int):=fun e=>h ⟨h2.1,e⟩;rw[if_pos h2,if_pos ⟨h2.1,by have:=h2.2;omega,by have:=h2.2;omega⟩];omega
    · rw[if_neg h2,if_neg (fun h3=>h2 ⟨h3.1,by have:=h3.2;omega,by have:=h3.2;omega⟩)];omega
theorem aiL (l:List Bk) (h:∀x∈l,aaB (x.size:Int)=true):afu l 22 0=abl l:=by
 have key:∀(r d:List Bk),(∀x∈r,aaB (x.size:Int)=true)->afu d 22 0=abl d->afu (d++r) 22 0=abl (d++r):=by
  intro r;induction r with
  | nil=>intro d _ hd;rw[List.append_nil];exact hd
  | cons x r ih=>
   intro d hr hd;have e:d++x::r=(d++ [x])++r:=by simp
   rw[e];refine ih (d++ [x]) (fun y hy=>hr y (by simp[hy])) ?_;obtain⟨c,hc,hc22⟩:=abq (hr x (by simp));rw[ajS,hd];unfold abl;rw[List.countP_append]
   cases hu:x.used with
   | true=>rw[if_neg (by simp)];simp[hu]
   | false=>rw[if_pos ⟨rfl,by omega,by omega⟩];simp[hu]
 have:=key l [] h (amz 22 0);simpa using this
theorem aeY (l:List Bk) (c:Nat):(aa2 l c).length<=l.length:=by
 unfold aa2;rw[List.length_map];have:=List.length_filter_le (fun x:Bk=> !x.used&&aaq (x.size:Int)==(c:Int)) l.reverse;rw[List.length_reverse]at this;exact this
theorem ahW{bs:List UInt8}{l:List Bk}(h:Lists bs l (aa2 l)) (hl:l.length<=1024):∀(k c:Nat) (fr:Int),c+k=22->agb bs l k c fr=(fr-afu l k c==0)
 | 0,c,fr,_=>by unfold agb afu;simp
 | k+1,c,fr,hc=>by
  have ha:=h.all (c:=c) (by omega) (Nat.le_trans (aeY l c) hl);have hok:(aa2 l c).all (okO l (aa2 l c))=true:=by
   rw[List.all_eq_true];intro o ho;unfold okO acx;rw[Bool.and_eq_true];constructor
   · rw[List.any_eq_true];obtain⟨x,hx,e,hu,_⟩:=abC ho;exact⟨x,hx,by simp[e,hu]⟩
   · rw[List.Nodup.count (h.nodup c (by omega)),if_pos ho];rfl
  unfold agb;rw[ha];dsimp only;rw[hok,Bool.true_and,ahW h hl k (c+1) _ (by omega)];have e:fr-(afu l (k+1) c:Nat)=fr-((aa2 l c).length:Int)-(afu l k (c+1):Nat):=by
   have:afu l (k+1) c=(aa2 l c).length+afu l k (c+1):=rfl;omega
  rw[e]
theorem afP{bs:List UInt8}{l:List Bk}(hw:abG bs=some l) (h:Lists bs l (aa2 l)) (h0:aaf bs 0<4194304):abY bs=aex l:=by
 obtain⟨h184,ht,hg⟩:=aaj hw;have hm:=aak l _ _ ht;have hlen:l.length<=1024:=by
  have key:∀(l:List Bk) (o e:Nat),abA o l e->l.length*32+o<=e:=by
   intro l;induction l with
   | nil=>intro o e h;have:o=e:=h;simp;omega
   | cons x r ih=>
    rintro o e ⟨a,b,c⟩;have q:=(aab _).1 b;have:=ih _ _ c;rw[List.length_cons];omega
  have:=key l _ _ ht;have:=h.small;omega
 have e0:ans bs 0=aaf bs 0:=by unfold ans word?;rw[if_pos (by omega)];rfl
 unfold abY;rw[hw];dsimp only;rw[e0,decide_eq_true h0,Bool.true_and,ahW h hlen 22 0 _ rfl,aiL l (fun x hx=>(hm.2 x hx).2.2.1)];have:((abl l:Int)-(abl l:Int)==0)=true:=by rw[Int.sub_self];rfl
 rw[this,Bool.and_true]
theorem asF (w c:Nat) (hc:c<22) (h:aco w c=false):(w+2^c)/4194304=w/4194304:=by
 obtain⟨d,hd⟩:∃d,22=c+1+d:=⟨21-c,by omega⟩;have e:4194304=2^(c+1)*2^d:=by rw[<-Nat.pow_add,<-hd]
 have hp:0<2^c:=Nat.two_pow_pos c;have h1:w/2^c%2=0:=by
  unfold aco at h;have:¬w/2^c%2=1:=by simpa using h
  omega
 have key:(w+2^c)/2^(c+1)=w/2^(c+1):=by
  rw[Nat.pow_succ,<-Nat.div_div_eq_div_mul,<-Nat.div_div_eq_div_mul,Nat.add_div_right _ hp];omega
 rw[e,<-Nat.div_div_eq_div_mul,<-Nat.div_div_eq_div_mul,key]
theorem ars (w c:Nat) (hc:c<22) (h:aco w c=true):(w-2^c)/4194304=w/4194304:=by
 have h1:=aiK w c h;have h2:=asF (w-2^c) c hc (afs w c h);rw[Nat.sub_add_cancel h1]at h2;exact h2.symm
theorem ahX (bs:List UInt8) (c:Nat) (hc:c<22) (hl:184<=bs.length):aaf (abM bs c) 0/4194304=aaf bs 0/4194304:=by
 have hw:=aan bs 0;unfold abM;split
 · rename_i h;rw[abH _ _ _ (by omega) (Nat.lt_of_le_of_lt (Nat.sub_le _ _) hw)];exact ars _ c hc h.1
 · split
   · rename_i h;rw[abH _ _ _ (by omega) (ald _ c (by omega) hw h.1)];exact asF _ c hc h.1
   · rfl
theorem ajT (bs:List UInt8) (c:Nat) (hl:184<=bs.length):(abM bs c).length=bs.length:=by
 unfold abM;split
 · exact aah _ _ _ (by omega)
 · split
   · exact aah _ _ _ (by omega)
   · rfl
theorem agG{bs out:List UInt8}{o:Int}(hl:184<=bs.length) (h:ahS bs o=some out):out.length=bs.length/\aaf out 0/4194304=aaf bs 0/4194304:=by
 unfold ahS at h;by_cases hf:aaX bs o<0
 · rw[if_pos hf]at h;cases h
 · rw[if_neg hf]at h;obtain⟨x,hg,hc⟩:∃x,aa6 bs o=some x/\aaX bs o=aaq (x.size:Int):=by
    unfold aaX at hf ⊢
    cases hg:aa6 bs o with
    | none=>rw[hg]at hf;simp at hf
    | some x=>
     rw[hg]at hf;dsimp only at hf ⊢
     cases hu:x.used with
     | true=>rw[hu]at hf;simp at hf
     | false=>exact⟨x,rfl,by simp⟩
   have hb:=acy (x.size:Int);obtain⟨c,hcc⟩:=nmE ((aaX bs o).toNat);have hc22:c<22:=by omega
   obtain⟨g0,g1,_,g3,g4,_⟩:=aaw hg;have q:=(aab _).1 g4;rw[hcc]at h;dsimp only at h;obtain⟨f,hfe⟩:=nmE (aaf bs (8+8*c));rw[hfe]at h;by_cases hm:(f:Int)=o\/(f≠0/\aap bs f (c:Int)=false)
   · rw[if_pos hm]at h;cases h
   · rw[if_neg hm]at h;injection h with h;have ho:o.toNat=x.off:=by omega
     rw[ho]at h;have l1:=aah bs (x.off+8) f (by omega);have l2:=aah (lyN bs (x.off+8) f) (x.off+16) 0 (by omega);have w2:aaf (lyN (lyN bs (x.off+8) f) (x.off+16) 0) 0=aaf bs 0:=by
      rw[aax _ _ _ _ (by omega) (by omega),aax _ _ _ _ (by omega) (by omega)]
     obtain⟨b2,hb2⟩:=nmE ((if f≠0 then lyN (lyN (lyN bs (x.off+8) f) (x.off+16) 0) (f+16) x.off else lyN (lyN bs (x.off+8) f) (x.off+16) 0));have hb:b2.length=bs.length/\aaf b2 0=aaf bs 0:=by
      rw[<-hb2];by_cases hf0:f≠0
      · have hmem:aap bs f (c:Int)=true:=by
         cases hmb:aap bs f (c:Int)with
         | true=>rfl
         | false=>exact absurd (.inr ⟨hf0,hmb⟩) hm
        unfold aap at hmem
        cases hgf:aa6 bs (f:Int)with
        | none=>rw[hgf]at hmem;simp at hmem
        | some y=>
         obtain⟨r0,r1,_,r3,r4,_⟩:=aaw hgf;have q2:=(aab _).1 r4;rw[if_pos hf0];exact⟨(aah _ _ _ (by omega)).trans (l2.trans l1),by rw[aax _ _ _ _ (by omega) (by omega),w2]⟩
      · rw[if_neg hf0];exact⟨l2.trans l1,w2⟩
     rw[hb2]at h;have l3:=aah b2 (8+8*c) x.off (by omega);rw[<-h];refine⟨(ajT _ c (by omega)).trans (l3.trans hb.1),?_⟩;rw[ahX _ c hc22 (by omega),aax _ _ _ _ (by omega) (by omega),hb.2]
theorem amA:∀(l:List Bk) (bs:List UInt8),184<=bs.length->(l.foldl af3 bs).length=bs.length/\aaf (l.foldl af3 bs) 0/4194304=aaf bs 0/4194304
 | [],_,_=>⟨rfl,rfl⟩
 | x::r,bs,hl=>by
  rw[List.foldl_cons];have e:(af3 bs x).length=bs.length/\aaf (af3 bs x) 0/4194304=aaf bs 0/4194304:=by
   unfold af3
   cases x.used with
   | true=>exact⟨rfl,rfl⟩
   | false=>
    cases hp:ahS bs (x.off:Int)with
    | none=>exact⟨rfl,rfl⟩
    | some out=>exact agG hl hp
  obtain⟨i1,i2⟩:=amA r (af3 bs x) (by omega);exact⟨i1.trans e.1,i2.trans e.2⟩
theorem ad1{bs:List UInt8}{l:List Bk}(h:abG bs=some l) (hm:bs.length<=16384):
 ∃out,abz bs=some out/\Lists out l (aa2 l)/\out.length=bs.length/\abG out=some l/\aaf out 0<4194304/\abY out=aex l:=by
 obtain⟨out,e,h1,h2,h3⟩:=ahD h hm;obtain⟨h184,_⟩:=aaj h;have el:(List.replicate 184 (0:UInt8)++bs.drop 184).length=bs.length:=by rw[List.length_append,List.length_replicate,List.length_drop];omega
 have e2:out=l.foldl af3 (List.replicate 184 0++bs.drop 184):=by
  unfold abz at e;rw[h]at e;injection e with e;exact e.symm
 have hh:=(amA l _ (by rw[el];exact h184)).2;rw[<-e2,adv _ _ _ (by omega)]at hh;have h0:aaf out 0<4194304:=by omega
 exact⟨out,e,h1,h2,h3,h0,afP h3 h1 h0⟩
theorem aeZ{bs:List UInt8}{l:List Bk}:∀(k c:Nat) (fr:Int),agb bs l k c fr=true->∀d,c<=d->d<c+k->∃al,afn bs d=some al/\al.all (okO l al)=true
 | 0,c,fr,_,d,h1,h2=>by omega
 | k+1,c,fr,h,d,h1,h2=>by
  unfold agb at h
  cases ha:afn bs c with
  | none=>rw[ha]at h;cases h
  | some al=>
   rw[ha]at h;dsimp only at h;rw[Bool.and_eq_true]at h;rcases Nat.lt_or_ge c d with hlt | hge
   · exact aeZ k (c+1) _ h.2 d hlt (by omega)
   · obtain rfl:d=c:=by omega
     exact⟨al,ha,h.1⟩
theorem ao0:∀(n a b:Nat),a<2^n->b<2^n->(∀c,c<n->aco a c=aco b c)->a=b
 | 0,a,b,ha,hb,_=>by
  rw[Nat.pow_zero]at ha hb;omega
 | n+1,a,b,ha,hb,h=>by
  rw[Nat.pow_succ]at ha hb;have h0:=h 0 (by omega);unfold aco at h0;rw[Nat.pow_zero,Nat.div_one,Nat.div_one]at h0;have h1:=ao0 n (a/2) (b/2) (by omega) (by omega) fun c hc=>by
   rw[<-acH,<-acH];exact h (c+1) (by omega)
  have h2:a%2=b%2:=by
   have e:=Bool.eq_iff_iff.1 h0;rw[beq_iff_eq,beq_iff_eq]at e;omega
  omega
theorem adw{bs:List UInt8}{c:Nat}{l:List Nat}(h:afn bs c=some l):aco (aaf bs 0) c=decide (aaf bs (8+8*c)≠0)/\ael bs c 1024 0 (aaf bs (8+8*c))=some l:=by
 unfold afn at h;split at h
 · cases h
 · split at h
   · cases h
   · rename_i hb;exact⟨Decidable.not_not.1 hb,h⟩
abbrev Dt:Type:=Value × List UInt8
def acI:Dt:=(.slice none 0 0,[])
structure Hp where
 cap:Nat
 blks:List Bk
 ds:List Dt
 lists:Nat->List Nat
def abc:List Bk->Nat
 | []=>0
 | x::r=>x.size+abc r
def lenB (l:List Bk):Nat:=184+abc l
def aam (l:List Bk) (i:Nat):Bk:=l.getD i ⟨0,0,false⟩
def atB (o:Int):List Bk->Option Nat
 | []=>none
 | x::r=>if (x.off:Int)=o then some 0 else (atB o r).map (· +1)
def aaY (l:List Bk) (o:Int):Option Nat:=match atB o l with
 | none=>none
 | some i=>if (aam l i).used=true then some i else none
def ae0 (x:Bk):Nat:=(aaq (x.size:Int)).toNat
def Hp.out (H:Hp) (i:Nat):Hp:={H with lists:=aga H.lists (ae0 (aam H.blks i)) ((H.lists (ae0 (aam H.blks i))).filter fun o=>o !=(aam H.blks i).off)}
def Hp.in_ (H:Hp) (i:Nat):Hp:={H with lists:=aga H.lists (ae0 (aam H.blks i)) ((aam H.blks i).off::H.lists (ae0 (aam H.blks i)))}
def Hp.drop (H:Hp) (i:Nat):Hp:={H with blks:=H.blks.take i++H.blks.drop (i+1),ds:=H.ds.take i++H.ds.drop (i+1)}
def Hp.put (H:Hp) (i:Nat) (x:Bk):Hp:={H with blks:=H.blks.take i++x::H.blks.drop i,ds:=H.ds.take i++acI::H.ds.drop i}
def Hp.size (H:Hp) (i s:Nat):Hp:={H with blks:=H.blks.set i {aam H.blks i with size:=s}}
def Hp.use (H:Hp) (i:Nat) (u:Bool):Hp:={H with blks:=H.blks.set i {aam H.blks i with used:=u}}
def Hp.wipe (H:Hp) (i:Nat):Hp:={H with ds:=H.ds.set i acI}
def acJ (l:List Bk) (i:Nat):Bool:=decide (i+1<l.length)&& !(aam l (i+1)).used
def aiM (l:List Bk) (i:Nat):Bool:=decide (0<i)&& !(aam l (i-1)).used
def Hp.join (H:Hp) (i:Nat):Hp:=((H.size i ((aam H.blks i).size+(aam H.blks (i+1)).size)).drop (i+1))
def Hp.giveB (H:Hp) (i:Nat):Hp:=if acJ H.blks i=true then (H.out (i+1)).join i else H
def Hp.giveC (H:Hp) (i:Nat):Hp:=if aiM H.blks i=true then ((H.out (i-1)).join (i-1)).in_ (i-1) else H.in_ i
def Hp.give (H:Hp) (i:Nat):Hp:=(((H.use i false).wipe i).giveB i).giveC i
def Hp.cut (H:Hp) (i s:Nat):Hp:=if (aam H.blks i).size<s+32 then H.use i true else (((H.use i true).size i s).put (i+1) ⟨(aam H.blks i).off+s,(aam H.blks i).size-s,true⟩).give (i+1)
def af4 (l:List Bk) (s:Nat):List Nat->Option Nat
 | []=>none
 | o::r=>match atB (o:Int) l with
  | none=>none
  | some i=>if s<=(aam l i).size then some i else af4 l s r
def Hp.findC (H:Hp) (s:Nat):Nat->Nat->Option Nat
 | 0,_=>none
 | k+1,c=>match af4 H.blks s (H.lists c)with
  | some i=>some i
  | none=>H.findC s k (c+1)
def Hp.find (H:Hp) (s:Nat):Option Nat:=H.findC s (22-(aaq (s:Int)).toNat) (aaq (s:Int)).toNat
def acp (l:List Bk):Nat:=if l.length=0 then 0 else if (aam l (l.length-1)).used=true then 0 else (aam l (l.length-1)).size
def Hp.take (H:Hp) (s:Nat):Option Nat × Hp:=match H.find s with
 | some i=>(some (aam H.blks i).off,(H.out i).cut i s)
 | none=>if H.cap<lenB H.blks+s-acp H.blks then (none,H)
  else if 0<acp H.blks then (some (aam H.blks (H.blks.length-1)).off,((H.out (H.blks.length-1)).size (H.blks.length-1) s).use (H.blks.length-1) true)
  else (some (lenB H.blks),H.put H.blks.length ⟨lenB H.blks,s,true⟩)
def Hp.giveO (H:Hp) (o:Int):Option Hp:=(aaY H.blks o).map H.give
def Hp.trimO (H:Hp) (o:Int) (s:Nat):Option Hp:=match aaY H.blks o with
 | none=>none
 | some i=>if (aam H.blks i).size<s then none else some (H.cut i s)
structure Hp.Ok (H:Hp):Prop where
 tl:abA 184 H.blks (lenB H.blks)
 le:lenB H.blks<=16384
 dl:H.ds.length=H.blks.length
def Hp.Listed (H:Hp):Prop:=∀c,c<22->∀o∈H.lists c,∃i,atB (o:Int) H.blks=some i
theorem ae1:∀(l:List Bk) (o e:Nat),abA o l e->e=o+abc l
 | [],o,e,h=>by simp[abA]at h;simp[abc];omega
 | x::r,o,e,h=>by
  obtain⟨h1,h2,h3⟩:=h;have:=ae1 r _ e h3;simp[abc];omega
theorem aaC:∀(a b:List Bk) (o e:Nat),abA o (a++b) e ↔ abA o a (o+abc a)/\abA (o+abc a) b e
 | [],b,o,e=>by simp[abc,abA]
 | x::r,b,o,e=>by
  simp only[List.cons_append,abA,abc];rw[aaC r b];constructor
  · rintro⟨h1,h2,h3,h4⟩;refine⟨⟨h1,h2,?_⟩,?_⟩
    · rw[show o+(x.size+abc r)=o+x.size+abc r by omega];exact h3
    · rw[show o+(x.size+abc r)=o+x.size+abc r by omega];exact h4
  · rintro⟨⟨h1,h2,h3⟩,h4⟩;rw[show o+(x.size+abc r)=o+x.size+abc r by omega]at h3 h4;exact⟨h1,h2,h3,h4⟩
theorem ae2 (a b:List Bk):abc (a++b)=abc a+abc b:=by
 induction a with
 | nil=>simp[abc]
 | cons x r ih=>simp only[List.cons_append,abc,ih];omega
theorem ab5{o:Int}:∀{l:List Bk}{i:Nat},atB o l=some i->∃x,l[i]?=some x/\(x.off:Int)=o
 | [],_,h=>by cases h
 | x::r,i,h=>by
  unfold atB at h;split at h
  · rename_i hx;injection h with h;subst h;exact⟨x,rfl,hx⟩
  · cases hr:atB o r with
    | none=>rw[hr]at h;cases h
    | some j=>
     rw[hr]at h;injection h with h;subst h;obtain⟨y,h1,h2⟩:=ab5 hr;exact⟨y,by simpa using h1,h2⟩
theorem amB{o:Int}:∀{l:List Bk},atB o l=none->∀x∈l,(x.off:Int)≠o
 | [],_,x,hx=>by cases hx
 | y::r,h,x,hx=>by
  unfold atB at h;split at h
  · cases h
  · rename_i hy;rcases List.mem_cons.1 hx with rfl | hx
    · exact hy
    · cases hr:atB o r with
      | none=>exact amB hr x hx
      | some j=>rw[hr]at h;cases h
theorem aa9{l:List Bk}{i:Nat}{x:Bk}(h:l[i]?=some x):aam l i=x:=by
 unfold aam;rw[List.getD_eq_getElem?_getD,h];rfl
theorem aas{l:List Bk}{i:Nat}(h:i<l.length):l[i]?=some (aam l i):=by
 rw[List.getElem?_eq_getElem h];exact congrArg some (aa9 (List.getElem?_eq_getElem h)).symm
theorem afQ{l:List Bk}{i:Nat}{o:Int}(h:atB o l=some i):i<l.length/\((aam l i).off:Int)=o:=by
 obtain⟨x,h1,h2⟩:=ab5 h;have hi:i<l.length:=by
  rcases Nat.lt_or_ge i l.length with h | h
  · exact h
  · rw[List.getElem?_eq_none h]at h1;cases h1
 rw[aa9 h1];exact⟨hi,h2⟩
theorem ajU{α:Type}{l:List α}{i:Nat}{x:α}(h:l[i]?=some x):l=l.take i++x::l.drop (i+1):=by
 have hi:i<l.length:=by
  rcases Nat.lt_or_ge i l.length with h' | h'
  · exact h'
  · rw[List.getElem?_eq_none h']at h;cases h
 have e:l[i]=x:=by rw[List.getElem?_eq_getElem hi]at h;injection h
 calc l=l.take i++l.drop i:=(List.take_append_drop i l).symm
  _=_:=by rw[List.drop_eq_getElem_cons hi,e]
theorem ao1{α:Type}{l:List α}{i:Nat}{x:α}(y:α) (h:l[i]?=some x):l.set i y=l.take i++y::l.drop (i+1):=by
 have hi:i<l.length:=by
  rcases Nat.lt_or_ge i l.length with h' | h'
  · exact h'
  · rw[List.getElem?_eq_none h']at h;cases h
 rw[List.set_eq_take_append_cons_drop,if_pos hi]
section
variable {l:List Bk} {e i:Nat} {x:Bk}
theorem aiN (h:abA 184 l e) (hx:l[i]?=some x):abA 184 (l.take i) x.off/\x.off=184+abc (l.take i)/\aaB (x.size:Int)=true/\abA (x.off+x.size) (l.drop (i+1)) e:=by
 rw[ajU hx,aaC]at h;obtain⟨h1,h2,h3,h4⟩:=h;have e1:(184+abc (l.take i))=x.off:=by omega
 rw[e1]at h1;refine⟨h1,by omega,h3,?_⟩;rw[e1]at h4;exact h4
theorem aiO (h1:abA 184 (l.take i) x.off) (h3:aaB (x.size:Int)=true){r:List Bk}(h4:abA (x.off+x.size) r e):abA 184 (l.take i++x::r) e:=by
 have:=ae1 _ _ _ h1;rw[aaC];rw[<-this];exact⟨h1,rfl,h3,h4⟩
theorem ack (h:abA 184 l e):lenB l=e:=by
 have:=ae1 _ _ _ h;unfold lenB;omega
end
def Hp.Dl (H:Hp):Prop:=H.ds.length=H.blks.length
section
variable {H:Hp} {i s:Nat}
theorem Hp.Dl.use (h:H.Dl) (u:Bool):(H.use i u).Dl:=by show H.ds.length=(H.blks.set i _).length;rw[List.length_set];exact h
theorem Hp.Dl.size (h:H.Dl):(H.size i s).Dl:=by show H.ds.length=(H.blks.set i _).length;rw[List.length_set];exact h
theorem Hp.Dl.wipe (h:H.Dl):(H.wipe i).Dl:=by show(H.ds.set i _).length=H.blks.length;rw[List.length_set];exact h
theorem Hp.Dl.out (h:H.Dl):(H.out i).Dl:=h
theorem Hp.Dl.in_ (h:H.Dl):(H.in_ i).Dl:=h
theorem Hp.Dl.drop (h:H.Dl):(H.drop i).Dl:=by
 show(H.ds.take i++H.ds.drop (i+1)).length=(H.blks.take i++H.blks.drop (i+1)).length;have h:H.ds.length=H.blks.length:=h;simp only[List.length_append,List.length_take,List.length_drop,h]
theorem Hp.Dl.put (h:H.Dl) (x:Bk):(H.put i x).Dl:=by
 show(H.ds.take i++acI::H.ds.drop i).length=(H.blks.take i++x::H.blks.drop i).length;have h:H.ds.length=H.blks.length:=h;simp only[List.length_append,List.length_take,List.length_drop,List.length_cons,h]
theorem Hp.Dl.join (h:H.Dl):(H.join i).Dl:=Hp.Dl.drop (Hp.Dl.size h)
theorem Hp.Dl.giveB (h:H.Dl):(H.giveB i).Dl:=by
 unfold Hp.giveB;split
 · exact Hp.Dl.join (Hp.Dl.out h)
 · exact h
theorem Hp.Dl.giveC (h:H.Dl):(H.giveC i).Dl:=by
 unfold Hp.giveC;split
 · exact Hp.Dl.in_ (Hp.Dl.join (Hp.Dl.out h))
 · exact Hp.Dl.in_ h
theorem Hp.Dl.give (h:H.Dl):(H.give i).Dl:=(h.use false).wipe.giveB.giveC
theorem Hp.Dl.cut (h:H.Dl):(H.cut i s).Dl:=by
 unfold Hp.cut;split
 · exact h.use true
 · exact((h.use true).size.put _).give
theorem Hp.Dl.take (h:H.Dl):(H.take s).2.Dl:=by
 unfold Hp.take;split
 · exact Hp.Dl.cut (Hp.Dl.out h)
 · split
   · exact h
   · split
     · exact Hp.Dl.use (Hp.Dl.size (Hp.Dl.out h)) true
     · exact h.put _
theorem Hp.Dl.giveO{o:Int}{H':Hp}(h:H.Dl) (hg:H.giveO o=some H'):H'.Dl:=by
 unfold Hp.giveO at hg
 cases hu:aaY H.blks o with
 | none=>rw[hu]at hg;cases hg
 | some i=>rw[hu]at hg;injection hg with hg;subst hg;exact h.give
theorem ao2:(H.giveB i).cap=H.cap:=by unfold Hp.giveB;split<;>rfl
theorem ao3:(H.giveC i).cap=H.cap:=by unfold Hp.giveC;split<;>rfl
theorem agc:(H.give i).cap=H.cap:=by unfold Hp.give;rw[ao3,ao2];rfl
theorem cut_cap:(H.cut i s).cap=H.cap:=by
 unfold Hp.cut;split
 · rfl
 · rw[agc];rfl
theorem take_cap:(H.take s).2.cap=H.cap:=by
 unfold Hp.take;split
 · exact cut_cap
 · split
   · rfl
   · split<;>rfl
theorem ao4{o:Int}{H':Hp}(hg:H.giveO o=some H'):H'.cap=H.cap:=by
 unfold Hp.giveO at hg
 cases hu:aaY H.blks o with
 | none=>rw[hu]at hg;cases hg
 | some i=>rw[hu]at hg;injection hg with hg;subst hg;exact agc
end
structure Rt (bs:List UInt8) (H:Hp):Prop where
 walk:abG bs=some H.blks
 all_:∀c,c<22->afn bs c=some (H.lists c)
 chk:abY bs=true
 len:bs.length<=H.cap
section
variable {bs:List UInt8} {H:Hp}
theorem Rt.lenE (h:Rt bs H):lenB H.blks=bs.length:=ack (aaj h.walk).2.1
theorem Rt.ok (h:Rt bs H) (hc:H.cap<=16384) (hd:H.Dl):H.Ok:=⟨by rw[h.lenE];exact(aaj h.walk).2.1,by rw[h.lenE];exact Nat.le_trans h.len hc,hd⟩
theorem afv{l:List Bk}{x:Bk}(hx:x∈l):∃i,atB (x.off:Int) l=some i:=by
 cases h:atB (x.off:Int) l with
 | some i=>exact⟨i,rfl⟩
 | none=>exact absurd rfl (amB h x hx)
theorem Rt.listed (h:Rt bs H):H.Listed:=fun c hc o ho=>by
 have hk:=h.chk;unfold abY at hk;rw[h.walk]at hk;simp only[Bool.and_eq_true]at hk;obtain⟨al,h1,h2⟩:=aeZ 22 0 _ hk.2.2 c (Nat.zero_le _) (by omega);rw[h.all_ c hc]at h1;injection h1 with h1;subst h1;have h3:=List.all_eq_true.1 h2 o ho;unfold okO at h3;rw[Bool.and_eq_true]at h3;have h4:=h3.1;unfold acx at h4;obtain⟨x,hx,hx2⟩:=List.any_eq_true.1 h4;simp only[Bool.and_eq_true,beq_iff_eq]at hx2;rw[<-hx2.1];exact afv hx
end
def Held (H:Hp) (bs:List UInt8) (H':Hp) (out:List UInt8):Prop:=
 ∀x∈H.blks,x.used=true->∀y∈H'.blks,y.used=true->y.off=x.off->∀i,x.off+8<=i->i+8<x.off+x.size->i+8<y.off+y.size->out[i]?=bs[i]?
end Go.Proofs.YtncadccbepjekaaGreatDoor
