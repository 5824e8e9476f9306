/- Texts of mine, joined. -/
import Derived.Test.YtncadccbepjekaaGreatDoorP10
import Derived.Test.YtncadccbepjekaaGreatDoorP12
import Derived.Test.YtncadccbepjekaaGreatDoorP13
set_option maxRecDepth 100000
set_option maxHeartbeats 1000000
namespace Go.Proofs.YtncadccbepjekaaGreatDoor
open Go.RowKit
theorem ab8{w w':World}{B' base n size:Nat}{t:TypeId}{v:Value}{xs:List Value}(h:w.ownsRow base t size v n xs) (hb:Below B' w w') (hlt:∀k,v.ownBlock=some k->k<B'):w'.ownsRow base t size v n xs:=by
 refine⟨h.1,?_⟩;rcases h.2 with h2 | ⟨g,cap,cur,hv,hg,hh,r⟩
 · exact .inl h2
 · exact .inr ⟨g,cap,cur,hv,hg,(hb.block g (hlt g (by rw[hv];rfl))).trans hh,r⟩
theorem acR{w w':World}{base n size:Nat}{t:TypeId}{v:Value}{xs:List Value}{r:Option Nat}(h:w.ownsRow base t size v n xs) (hg:w.grownBy w' r) (hne:∀k,v.ownBlock=some k->r≠some k):w'.ownsRow base t size v n xs:=by
 refine⟨h.1,?_⟩;rcases h.2 with h2 | ⟨g,cap,cur,hv,hb,hh,q⟩
 · exact .inl h2
 · have hk:v.ownBlock=some g:=by rw[hv];rfl
   refine .inr ⟨g,cap,cur,hv,hb,?_,q⟩;obtain⟨_,_,_,_,h5⟩:=hg;exact(h5 g (h.lt g hk).2 (fun e=>hne g hk e.symm)).trans hh
theorem adx{w:World}{base base' n size:Nat}{t:TypeId}{v:Value}{xs:List Value}(h:w.ownsRow base t size v n xs) (hb:base'<=base):w.ownsRow base' t size v n xs:=by
 refine⟨h.1,?_⟩;rcases h.2 with h2 | ⟨g,cap,cur,hv,hg,r⟩
 · exact .inl h2
 · exact .inr ⟨g,cap,cur,hv,Nat.le_trans hb hg,r⟩
theorem aeM{w:World}{base n size:Nat}{t:TypeId}{v:Value}{xs:List Value}(h:w.ownsRow base t size v n xs):∃A c,v= .slice A n c/\(A=none->c=0):=by
 rcases h.2 with⟨rfl,h0⟩ | ⟨g,cap,cur,rfl,_⟩
 · exact⟨none,0,by rw[h0],fun _=>rfl⟩
 · exact⟨_,cap,rfl,fun e=>by cases e⟩
theorem acS{w:World}{base n c:Nat}{A:Option Addr}{bs:List UInt8}(h:w.ownsRow base 5 1 (.slice A n c) n (bs.map bv)):Rd w w.heap.size A n bs:=by
 obtain⟨A',c',e,_,hr⟩:=aiy h;injection e with e1 _ _;subst e1;exact hr
theorem anI (n:Nat) (l:List Rk) (d:List (List UInt8)):ahP n l++d.flatten++ahO d.flatten=akV n l d:=by
 unfold akV af3;rw[List.drop_left' rfl]
theorem anJ (n:Nat) (l:List Rk) (d:List (List UInt8)):akV n l d++ahO (akV n l d)=aaZ n l d:=by unfold aaZ af3;rw[List.drop_zero]
theorem amF (n:Nat) (l:List Rk) (d:List (List UInt8)):(akV n l d).length=36+8*l.length+d.flatten.length:=by
 rw[<-anI,List.length_append,List.length_append,adt,ab6];omega
theorem ah3 (n:Nat) (l:List Rk) (d:List (List UInt8)):(aaZ n l d).length=40+8*l.length+d.flatten.length:=by
 rw[<-anJ,List.length_append,amF,ab6];omega
theorem arT (l:List Rk) (j:Nat):(acA (l.take j)).length<=8*l.length:=by rw[ad0,List.length_take];omega
def DtO (w:World) (d:List (List UInt8)) (xs:List Value):Prop:=∀(i:Nat) (y:List UInt8),d[i]?=some y->y.length<=100000/\∃A k,xs[i]?=some (.slice A y.length k)/\w.ownsRow 0 5 1 (.slice A y.length k) y.length (y.map bv)
theorem DtO.rd{w:World}{B:Nat}{A:Option Addr}{c:Nat}{d:List (List UInt8)}{xs:List Value}(h:DtO w d xs) (ho:w.ownsRow B 37 1 (.slice A d.length c) d.length xs):DtRd w w.heap.size A d:=fun hn=>by
 rcases ho.2 with⟨hv,h0⟩ | ⟨g,cap,cur,hv,hbg,hg,hnc,hcm,hsz,htk⟩
 · omega
 · injection hv with e1 e2 e3;refine⟨g,0,e1,aaa hg,fun j y hy=> ?_⟩;obtain⟨hyl,A',k,hx,hr⟩:=h j y hy;have hj:j<d.length:=(List.getElem?_eq_some_iff.1 hy).1;obtain⟨A2,k2,e,hk0⟩:=aeM hr;injection e with e4 e5 e6;subst e4 e6;refine⟨A',k,?_,acS hr,by unfold maxLen;omega,?_,hk0⟩
   · rw[Nat.zero_add,cell_of_row _ _ _ _ _ _ hg];rw[<-htk,List.getElem?_take,if_pos (by omega)]at hx;rw[<-hx];simp
   · rcases hr.2 with⟨hv2,h02⟩ | ⟨g2,cap2,cur2,hv2,_,_,hnc2,_⟩
     · omega
     · injection hv2 with _ _ e7;omega
theorem DtO.grown{w w':World}{d:List (List UInt8)}{xs:List Value}{r:Option Nat}(h:DtO w d xs) (hg:w.grownBy w' r) (hr:∀k,r=some k->∃cs t fz,t≠5/\w.heap[k]?=some (.cells cs t fz)):DtO w' d xs:=by
 intro i y hy;obtain⟨hyl,A,k,hx,ho⟩:=h i y hy;refine⟨hyl,A,k,hx,acR ho hg fun q hq hrq=> ?_⟩;obtain⟨cs,t,fz,hne,hc⟩:=hr q hrq;rcases ho.2 with⟨hv,_⟩ | ⟨g,cap,cur,hv,_,hgc,_⟩
 · rw[hv]at hq;cases hq
 · rw[hv]at hq;unfold Value.ownBlock at hq;injection hq with hq;subst hq;rw[hgc]at hc;injection hc with hc;injection hc with _ e _;exact absurd e.symm hne
theorem DtO.snoc{w:World}{d:List (List UInt8)}{xs:List Value}(h:DtO w d xs) (hl:xs.length=d.length){y:List UInt8}{A:Option Addr}{k:Nat}(hy:y.length<=100000) (ho:w.ownsRow 0 5 1 (.slice A y.length k) y.length (y.map bv)):DtO w (d++ [y]) (xs++ [.slice A y.length k]):=by
 intro i z hz;by_cases hi:i<d.length
 · rw[List.getElem?_append_left hi]at hz;rw[List.getElem?_append_left (by omega)];exact h i z hz
 · rw[List.getElem?_append_right (by omega)]at hz;rw[List.getElem?_append_right (by omega),hl];have e:i-d.length=0:=by
    have:=(List.getElem?_eq_some_iff.1 hz).1;simp at this;omega
   rw[e]at hz ⊢;simp at hz;subst hz;exact⟨hy,A,k,rfl,ho⟩
theorem acT{w:World}{base n size:Nat}{t:TypeId}{v:Value}{xs:List Value}(h:w.ownsRow base t size v n xs):∀k,v.ownBlock=some k->k<w.heap.size:=by
 intro k hk;rcases h.2 with⟨hv,_⟩ | ⟨g,cap,cur,hv,_,hg,_⟩
 · rw[hv]at hk;cases hk
 · rw[hv]at hk;unfold Value.ownBlock at hk;injection hk with hk;subst hk;exact aaa hg
theorem acB{w:World}{base n size k:Nat}{t t':TypeId}{v:Value}{xs:List Value}{cs:Array Value}{fz:Nat × Nat}(h:w.ownsRow base t size v n xs) (hk:v.ownBlock=some k) (hc:w.heap[k]?=some (.cells cs t' fz)) (hne:t≠t'):False:=by
 rcases h.2 with⟨hv,_⟩ | ⟨g,cap,cur,hv,_,hg,_⟩
 · rw[hv]at hk;cases hk
 · rw[hv]at hk;unfold Value.ownBlock at hk;injection hk with hk;subst hk;rw[hg]at hc;injection hc with hc;injection hc with _ e _;exact hne e
theorem apB{w:World}{base n size:Nat}{t:TypeId}{v:Value}{xs:List Value}(h:w.ownsRow base t size v n xs):∀k,v.ownBlock=some k->∃cs fz,w.heap[k]?=some (.cells cs t fz):=by
 intro k hk;rcases h.2 with⟨hv,_⟩ | ⟨g,cap,cur,hv,_,hg,_⟩
 · rw[hv]at hk;cases hk
 · rw[hv]at hk;unfold Value.ownBlock at hk;injection hk with hk;subst hk;exact⟨_,_,hg⟩
theorem akb{w:World}{base n size:Nat}{t:TypeId}{v:Value}{xs:List Value}(h:w.ownsRow base t size v n xs):∀k,v.ownBlock=some k->base<=k:=by
 intro k hk;rcases h.2 with⟨hv,_⟩ | ⟨g,cap,cur,hv,hb,_,_⟩
 · rw[hv]at hk;cases hk
 · rw[hv]at hk;unfold Value.ownBlock at hk;injection hk with hk;subst hk;exact hb
theorem acu (w:World) (g i:Nat) (v:Value):w.grownBy (w.setCell ⟨g,i,none⟩ v) (some g):=
 ⟨rfl,rfl,rfl,by simp,fun k _ hne=>heap_setCell_other _ _ _ _ (fun e=>hne (by rw[e]))⟩
theorem RkRd.off{w w':World}{B g:Nat}{A:Option Addr}{l:List Rk}{t:TypeId}{fr:Nat × Nat}(h:RkRd w B A l) (hg:w.heap[g]?=some (.cells #[.int .i64 0, .slice none 0 0, .slice none 0 0] t fr)) (hk:∀k,k≠g->w'.heap[k]?=w.heap[k]?):RkRd w' B A l:=fun hn=>by
 obtain⟨b,o,e,hB,hc⟩:=h hn;have hbg:b≠g:=by
  intro e2;subst e2;obtain⟨x,hx⟩:∃x,l[0]?=some x:=⟨l[0]'hn,List.getElem?_eq_getElem _⟩;obtain⟨_,h1,_⟩:=hc 0 x hx;rw[cell_of_row _ _ _ _ _ _ hg]at h1;rcases o with _ | _ | o<;>simp at h1
 refine⟨b,o,e,hB,fun j x hx=> ?_⟩;obtain⟨h0,h1,h2,h3⟩:=hc j x hx;have hh:=hk b hbg;refine⟨?_,?_,?_,h3⟩
 · rw[<-h0];simp[World.cell?,hh]
 · rw[<-h1];simp[World.cell?,hh]
 · rw[<-h2];simp[World.cell?,hh]
theorem DtO.stay{w w':World}{d:List (List UInt8)}{xs:List Value}(h:DtO w d xs) (hb:Below w.heap.size w w'):DtO w' d xs:=by
 intro i y hy;obtain⟨hyl,A,k,hx,ho⟩:=h i y hy;exact⟨hyl,A,k,hx,ab8 ho hb (acT ho)⟩
theorem apC:(Tryz.prog.info? 37).map (fun i=>(i.zero,i.size,i.bytes))=some (some (.slice none 0 0),1,24):=by kernel_rfl
theorem akc (w:World) (A:Option Addr) (n c:Nat):(Instr.buildSlice 57 1 #[(0, .slice A n c)]).run Tryz.prog w= .ok (.slice (some ⟨w.heap.size,0,none⟩) 1 1) (w.alloc (.cells #[.slice A n c] 37)):=by
 obtain⟨i0,hi,hz0,hz1,hz2⟩:=info_parts apC;refine run_buildSlice w 57 37 1 _ _ i0 _ Tryz.underlying57 hi hz0 (by omega) (by omega) ?_;rw[hz1];have e:Array.range (1*1)= #[0]:=by decide
 rw[e];simp[Instr.fill,Value.cells]
def sec (bs:List UInt8) (s:Nat):List UInt8:=(bs.drop (512*s)).take 512
theorem arU (bs:List UInt8) (x:Nat × List UInt8) (h:x.1*512+512<=bs.length) (h2:x.2.length=512):sec (adu bs x) x.1=x.2:=by
 have e:(bs.take (x.1*512)).length=512*x.1:=by simp;omega
 unfold sec adu lay;rw[List.drop_append,e,List.drop_eq_nil_of_le (by omega),List.nil_append,Nat.sub_self,List.drop_zero,<-h2];exact List.take_left
theorem apD (bs:List UInt8) (x:Nat × List UInt8) (s:Nat) (h:x.1*512+512<=bs.length) (h2:x.2.length=512) (hs:x.1≠s):sec (adu bs x) s=sec bs s:=by
 apply List.ext_getElem?;intro i;unfold sec adu lay;rcases Nat.lt_or_ge i 512 with hi | hi
 · rw[List.getElem?_take_of_lt hi,List.getElem?_take_of_lt hi,List.getElem?_drop,List.getElem?_drop];have e:(bs.take (x.1*512)).length=x.1*512:=by simp;omega
   rcases Nat.lt_or_ge s x.1 with h3 | h3
   · rw[List.getElem?_append_left (by omega),List.getElem?_take_of_lt (by omega)]
   · rw[List.getElem?_append_right (by omega),e,List.getElem?_append_right (by omega),h2,List.getElem?_drop];have e2:x.1*512+512+(512*s+i-x.1*512-512)=512*s+i:=by omega
     rw[e2]
 · rw[List.getElem?_eq_none (by simp;omega),List.getElem?_eq_none (by simp;omega)]
theorem apE{w:World}{base n c:Nat}{A:Option Addr}{bs:List UInt8}(h:w.ownsRow base 5 1 (.slice A n c) n (bs.map bv)):n<=c/\c<=maxLen:=by
 rcases h.2 with⟨h',h0⟩ | ⟨_,_,_,h',_,_,h1,h2,_⟩
 · injection h' with _ _ e;rw[h0,e];exact⟨Nat.le_refl _,Nat.zero_le _⟩
 · injection h' with _ _ e;rw[e];exact⟨h1,h2⟩
section
variable {S:Nat->Prop} {w:World} {g:Nat} {L:Option Addr} {cl:Nat} {W:Option Addr} {cw:Nat} {ls ws:List Wr} {left:Int} {off:Bool}
end
def abw (b:List UInt8) (i j:Nat):Bool:=ab2 ((b.drop j).take 4)==abZ 0 ((b.drop i).take (j-i))
def aaR:List UInt8->Nat->Nat->Option (List Rk)
 | _,0,_=>some []
 | b,k+1,o=>match adM (ab2 (b.take 8))with
  | none=>none
  | some (s,u)=>(aaR (b.drop 8) k (o+s)).map (⟨(o:Int),(s:Int),u⟩:: ·)
def aaP:List Rk->Nat
 | []=>0
 | x::l=>(if x.u then x.s.toNat-16 else 0)+aaP l
def af9:List Rk->List UInt8->List (List UInt8)
 | [],_=> []
 | x::l,b=>if x.u then b.take (x.s.toNat-16)::af9 l (b.drop (x.s.toNat-16)) else af9 l b
def acU (b:List UInt8):Nat:=ab2 ((b.drop 8).take 8)
def ac1 (b:List UInt8):Nat:=ab2 ((b.drop 16).take 8)
def ady (b:List UInt8):Nat:=
 if b.length<28 then 3 else if b.take 8≠imMarkB then 3 else if abw b 0 24=false then 9
 else if ab0 (acU b:Int)=false then 3 else if 1024<ac1 b then 3 else 0
def atQ (n:Nat) (o:Option (List Rk)):Nat × List Rk:=match o with
 | none=>(3,[])
 | some l=>if abh (n:Int) 184 false l=false then (3,[]) else (0,l)
def abD (b:List UInt8) (n k:Nat):Nat × List Rk:=
 if b.length<32+8*k then (3,[]) else if abw b 28 (28+8*k)=false then (9,[])
 else atQ n (aaR (b.drop 28) k 184)
def aeN (b:List UInt8) (l:List Rk):Nat × List (List UInt8):=
 if b.length≠32+8*l.length+aaP l+8 then (3,[])
 else if abw b (32+8*l.length) (32+8*l.length+aaP l)=false then (9,[])
 else if abw b 0 (32+8*l.length+aaP l+4)=false then (9,[])
 else (0,af9 l (b.drop (32+8*l.length)))
theorem afy:∀{k:Nat}{b:List UInt8}{o:Nat}{l:List Rk},aaR b k o=some l->l.length=k
 | 0,b,o,l,h=>by
  rw[aaR]at h;injection h with h;rw[<-h];rfl
 | k+1,b,o,l,h=>by
  rw[aaR]at h;split at h
  · cases h
  · rename_i s u e
    cases hm:aaR (b.drop 8) k (o+s)with
    | none=>rw[hm]at h;cases h
    | some l'=>
     rw[hm]at h;injection h with h;rw[<-h,List.length_cons,afy hm]
theorem agK:∀{k:Nat}{b:List UInt8}{o:Nat}{l:List Rk},aaR b k o=some l->aaR b (k+1) o=match adM (ab2 ((b.drop (8*k)).take 8))with
  | none=>none
  | some (s,u)=>some (l++ [⟨((o+(l.map (·.s.toNat)).sum:Nat):Int),(s:Int),u⟩])
 | 0,b,o,l,h=>by
  rw[aaR]at h;injection h with h;subst h;rw[aaR,Nat.mul_zero,List.drop_zero]
  cases hu:adM (ab2 (b.take 8))with
  | none=>rfl
  | some x=>simp[aaR]
 | k+1,b,o,l,h=>by
  rw[aaR]at h;split at h
  · cases h
  · rename_i s u e
    cases hm:aaR (b.drop 8) k (o+s)with
    | none=>rw[hm]at h;cases h
    | some l'=>
     rw[hm]at h;injection h with h;subst h;have ih:=agK hm;rw[aaR,e];dsimp only;rw[ih,List.drop_drop,show 8+8*k=8*(k+1) from by omega]
     cases hu:adM (ab2 ((b.drop (8*(k+1))).take 8))with
     | none=>rfl
     | some x=>simp[Nat.add_assoc]
theorem alx{k:Nat}:∀{j:Nat}{b:List UInt8}{o:Nat},aaR b k o=none->aaR b (k+j) o=none:=by
 induction k with
 | zero=>intro j b o h;rw[aaR]at h;cases h
 | succ k ih=>
  intro j b o h;rw[show k+1+j=(k+j)+1 from by omega];rw[aaR]at h ⊢;split at h
  · rfl
  · rename_i s u e
    cases hm:aaR (b.drop 8) k (o+s)with
    | none=>rw[ih hm];rfl
    | some l'=>rw[hm]at h;cases h
theorem akd{b:List UInt8}{i j:Nat}(hj:j+4<=b.length):decide (ahO ((b.drop i).take (j-i))=(b.drop j).take 4)=abw b i j:=by
 have hl:((b.drop j).take 4).length=4:=by rw[List.length_take,List.length_drop];omega
 unfold abw ahO;have h1:=acm 4 (abZ 0 ((b.drop i).take (j-i)));rw[Nat.mod_eq_of_lt (by have:=aeh 0 ((b.drop i).take (j-i));omega)]at h1;have h2:=agm ((b.drop j).take 4);rw[hl]at h2;by_cases h:aaJ 4 (abZ 0 ((b.drop i).take (j-i)))=(b.drop j).take 4
 · rw[decide_eq_true h,<-h,h1];exact(beq_self_eq_true _).symm
 · rw[decide_eq_false h];symm
   rw[beq_eq_false_iff_ne];intro e;rw[<-e,h2]at h;exact h rfl
def adr (base:Nat) (o:Int):Nat:=(((base:Int)+o)%18446744073709551616).toNat
theorem as2 (base:Nat) (o:Int):adr base o<18446744073709551616:=by unfold adr;omega
theorem aiZ (base:Nat) (hb:base<=4611686018427387904) (o:Nat) (ho:(o:Int)<=9223372036854775807):adr base (o:Int)=base+o:=by unfold adr;omega
theorem apF (base:Nat) (hb:base<=4611686018427387904) (o:Int) (ho: -9223372036854775900<=o/\o<=9223372036854775807) (n k:Nat) (hn:n+k<=1000000) (hk:1<=k) (h:o<0\/(n:Int)<o+k):base<=adr base o->n<adr base o-base+k:=by unfold adr;omega
def wdV (o:Option Nat):Value:=match o with
 | some v=> .tuple #[.int .u64 (v:Int), .nilIface]
 | none=> .tuple #[.int .u64 0, .iface 130 (.int .i64 2)]
def plc (o:Int):Bool:=decide (184<=o)&&(o%16==8)
theorem agL (o:Int):plc o=true ↔ 184<=o/\o%16=8:=by simp[plc]
section
variable {w:World} {g base cap c:Nat} {A:Option Addr} {bs:List UInt8}
theorem abR (h:Ar w 195 g base cap A c bs) (hb:base<=4611686018427387904) (hl:bs.length<=16384) (o:Int) (ho: -9223372036854775900<=o/\o<=9223372036854775807) (x:Option Nat) (hx:word? bs o=x):
 Calls Tryz.prog 176 #[.pointer (some ⟨g,0,none⟩), .int .u64 (adr base o:Int)] w fun e w'=>e= .returned (wdV x)/\w=w':=by
 subst hx;by_cases h1:0<=o/\o+8<=bs.length
 · obtain⟨p,rfl⟩:∃p:Nat,o=(p:Int):=⟨o.toNat,by omega⟩;have e:word? bs (p:Int)=some (aaf bs p):=by unfold word?;rw[if_pos (by omega)];rfl
   rw[e,aiZ base hb p (by omega)];exact ato h (by omega) (base+p) p (by omega) (by omega) (by omega) (by omega)
 · have e:word? bs o=none:=by unfold word?;rw[if_neg h1]
   rw[e];exact atp h (by omega) (adr base o) (as2 _ _) (apF base hb o ho bs.length 8 (by omega) (by omega) (by omega))
theorem aaA (h:Ar w 195 g base cap A c bs) (o:Int):
 Calls Tryz.prog 186 #[.pointer (some ⟨g,0,none⟩), .int .i64 o] w fun e w'=>e= .returned (.int .u64 (adr base o:Int))/\w=w':=by
 have HB:=hE0 (acj h);go_enter Tryz.func186,Tryz.ntmps186
 go_wp2_with fail
 refine HB.out.mono ?_;rintro e w1 ⟨rfl,rfl⟩;go_wp2
 go_ret
 exact⟨auS (by simp only[IntKind.wrap_u64];unfold adr;omega),rfl⟩
theorem abn (w:World) (o:Int) (ho: -9223372036854775808<=o/\o<=9223372036854775807) (b:Bool) (hb:plc o=b):
 Calls Tryz.prog 185 #[.int .i64 o] w fun e w'=>e= .returned (.bool b)/\w=w':=by
 by_cases h1:184<=o
 · have e:((o-184)%16==0)=b:=by
    rw[<-hb];unfold plc;rw[decide_eq_true h1,Bool.true_and,Bool.eq_iff_iff,beq_iff_eq,beq_iff_eq];omega
   have HE:=hE0 e;clear hb e;go_enter Tryz.func185,Tryz.ntmps185
   go_wp2
   go_ret
   exact⟨asZ HE.out,rfl⟩
 · obtain rfl:false=b:=by rw[<-hb];simp[plc,h1]
   clear hb;go_enter Tryz.func185,Tryz.ntmps185
   go_wp2
   go_ret
   exact⟨rfl,rfl⟩
end
structure St (wB W:World) (g base cap:Nat) (A:Option Addr) (c:Nat) (bs:List UInt8) (L:List (Nat × Obj)):Prop where
 bel:Below wB.heap.size wB W
 ar:Ar W 195 g base cap A c bs
 gB:wB.heap.size<=g
 aB:∀a,A=some a->wB.heap.size<=a.block
 has:∀p∈L,W.heap[p.1]?=some p.2
section
variable {wB W W':World} {g base cap c:Nat} {A:Option Addr} {bs:List UInt8} {L:List (Nat × Obj)}
theorem St.size (h:St wB W g base cap A c bs L):wB.heap.size<=W.heap.size:=h.bel.size
theorem St.below (h:St wB W g base cap A c bs L) (hb:Below W.heap.size W W'):St wB W' g base cap A c bs L:=
 ⟨h.bel.trans (hb.mono h.size),h.ar.below hb,h.gB,h.aB,fun p hp=>(hb.block p.1 (aae (h.has p hp))).trans (h.has p hp)⟩
theorem St.became{out:List UInt8}(h:St wB W g base cap A c bs L) (hb:Became 195 g base cap A out W W'):∃A' c',St wB W' g base cap A' c' out []:=by
 obtain⟨A',c',har,hbl,hA⟩:=hb.below (B:=wB.heap.size) h.gB h.aB h.size;exact⟨A',c',h.bel.trans hbl,har,h.gB,hA,fun p hp=>by cases hp⟩
end
def auI (l:List Bk):Nat->Bool
 | 0=>false
 | j+1=> !adI l j
theorem ake{l:List Bk}{j:Nat}{x:Bk}(h:l[j]?=some x):adI l j=x.used:=by unfold adI;rw[h]
theorem anK (l:List Bk) (j:Nat):(List.range (j+1)).all (adJ l)=((List.range j).all (adJ l)&&adJ l j):=by
 rw[List.range_succ,List.all_append];simp
theorem apG{l:List Bk}{j:Nat}(hj:j<l.length) (h:adJ l j=false):aev l=false:=by
 unfold aev;rw[List.all_eq_false];exact⟨j,List.mem_range.2 hj,by rw[h];decide⟩
theorem arV{l:List Bk}{j:Nat}{x:Bk}(h:l[j]?=some x):adJ l j= !(auI l j&& !x.used):=by
 unfold adJ;rw[ake h]
 cases j with
 | zero=>rfl
 | succ j=>
  simp only[auI,Nat.add_sub_cancel]
  cases x.used<;>cases adI l j<;>rfl
section
variable {w:World} {g base cap c:Nat} {A:Option Addr} {bs:List UInt8}
theorem aa0{B:Nat}{w w':World}(h:Below B w w'){b j:Nat}{v:Value}(hc:w.cell? ⟨b,j,none⟩=some v) (hb:b<B):w'.cell? ⟨b,j,none⟩=some v:=
 (h.cell (p:=⟨b,j,none⟩) hb).trans hc
theorem arW (w:World) (A2:Option Addr) (c2:Nat) (l:List Bk) (hr:BkRd w w.heap.size A2 l) (hc:l.length<=c2/\c2<=9223372036854775807) (y:Bool) (hy:aev l=y):
 Calls Tryz.prog 113 #[.slice A2 l.length c2] w fun e w'=>e= .returned (.bool (!y))/\Below w.heap.size w w':=by
 have HR:=hE0 hr;have HY:=hE0 hy;clear hr hy;go_enter Tryz.func113,Tryz.ntmps113
 go_wp2
 go_loopw [3,8] (fun v t wr=>∃(j:Nat) (b:Bool),t= .int .i64 (j:Int)/\v= .bool b/\b=auI l j/\j<=l.length/\(List.range j).all (adJ l)=true/\Below w.heap.size w wr) (fun _ t _=>l.length-(intOf t).toNat)
 case atStart=>exact⟨0,false,rfl,rfl,rfl,Nat.zero_le _,rfl,Below.refl _ _⟩
 case round=>
  obtain⟨j,b,rfl,rfl,hbw,hj,hall,hbe⟩:=hrel;by_cases hlt:j<l.length
  · obtain⟨x,hx⟩:∃x,l[j]?=some x:=⟨l[j],List.getElem?_eq_getElem hlt⟩;obtain⟨b2,o,rfl,hbb,hcl⟩:=HR.out (by omega);obtain⟨p0,p1,p2⟩:=hcl j x hx;have hp:=arV hx;have hs:=anK l j;rw[hall,Bool.true_and]at hs;have hu:=ake hx;have r0:=aa0 hbe p0 hbb;have r1:=aa0 hbe p1 hbb;have r2:=aa0 hbe p2 hbb;obtain⟨xo,xs,xu⟩:=x;dsimp only at p0 p1 p2 r0 r1 r2 hp hu;rw[<-hbw]at hp;obtain⟨w4,hw4⟩:=nmE (wr.alloc (.cells #[.int .i64 (xo:Int), .int .i64 (xs:Int), .bool xu] 112));have hb4:Below w.heap.size w w4:=by rw[<-hw4];exact hbe.alloc hbe.size _
    have n4:=anE hw4;obtain⟨⟨d0,d1,d2⟩,_⟩:=aad n4;have HW4:=hE0 hw4;have HB4:=hE0 hb4;have HP:=hE0 hp;have HS:=hE0 hs;have HU:=hE0 hu;clear hp hs hu hx hbe p0 p1 p2 hb4 n4 hw4 hcl hall hbw
    cases b<;>cases xu
    · go_wp2_with (first | (rw[HW4.out]) | fail)
      go_roundw
      case rel=>exact⟨j+1,true,by go_num,rfl,by simp[auI,HU.out],by omega,by rw[HS.out,HP.out];rfl,HB4.out⟩
      case measure=>simp only[intOf];omega
    · go_wp2_with (first | (rw[HW4.out]) | fail)
      go_roundw
      case rel=>exact⟨j+1,false,by go_num,rfl,by simp[auI,HU.out],by omega,by rw[HS.out,HP.out];rfl,HB4.out⟩
      case measure=>simp only[intOf];omega
    · obtain rfl:y=false:=by rw[<-HY.out];exact apG hlt HP.out
      go_wp2_with (first | (rw[HW4.out]) | fail)
      go_ret
      exact⟨rfl,HB4.out⟩
    · go_wp2_with (first | (rw[HW4.out]) | fail)
      go_roundw
      case rel=>exact⟨j+1,false,by go_num,rfl,by simp[auI,HU.out],by omega,by rw[HS.out,HP.out];rfl,HB4.out⟩
      case measure=>simp only[intOf];omega
  · obtain rfl:y=true:=by
     rw[<-HY.out];unfold aev;rw[show l.length=j by omega];exact hall
    have HB:=hE0 hbe;clear hbe hall hbw;go_wp2
    go_ret
    exact⟨rfl,HB.out⟩
theorem apH (h:Ar w 195 g base cap A c bs) (hb:base<=4611686018427387904) (hl:bs.length<=16384) (h184:184<=bs.length) (y:Bool) (hy:decide (aaf bs 0<4194304)=y):
 Calls Tryz.prog 114 #[.pointer (some ⟨g,0,none⟩)] w fun e w'=>e= .returned (.bool (!y))/\w=w':=by
 obtain⟨v,hv⟩:=nmE (aaf bs 0);have hvl:v<18446744073709551616:=by rw[<-hv];exact aan _ _
 have hW:=abR h hb hl 0 (by omega) (some v) (by unfold word?;rw[if_pos (by omega)];simp[hv]);have e0:adr base 0=base:=by unfold adr;omega
 rw[e0]at hW;dsimp only[wdV]at hW;rw[hv]at hy;have HBS:=hE0 (acj h);have HW:=hE0 hW;have HY:=hE0 hy;clear hW hy hv h;go_enter Tryz.func114,Tryz.ntmps114
 go_wp2_with fail
 with_reducible refine HBS.out.mono ?_
 rintro e w1 ⟨rfl,rfl⟩;go_wp2_with fail
 with_reducible refine HW.out.mono ?_
 rintro e w1 ⟨rfl,rfl⟩;go_wp2
 go_ret
 exact⟨asZ (by rw[<-HY.out,Bool.eq_iff_iff];simp;omega),rfl⟩
end
structure ImP (B g:Nat) (N:Int) (A1:Option Addr) (c1:Nat) (l:List Rk) (A2:Option Addr) (c2:Nat) (d:List (List UInt8)) (xs:List Value) (w:World):Prop where
 obj:w.heap[g]?=some (.cells #[.int .i64 N, .slice A1 l.length c1, .slice A2 d.length c2] 107 (0,0))
 rl:w.ownsRow B 112 3 (.slice A1 l.length c1) l.length (ae4 l)
 rd:w.ownsRow B 37 1 (.slice A2 d.length c2) d.length xs
 dt:DtO w d xs
 hB:B<=g
 hl:avL l
section
variable {B g n:Nat} {N:Int} {A1 A2:Option Addr} {c1 c2:Nat} {l:List Rk} {d:List (List UInt8)} {xs:List Value} {w w3 w4 w':World}
theorem ImP.stay (h:ImP B g N A1 c1 l A2 c2 d xs w) (hb:Below w.heap.size w w'):ImP B g N A1 c1 l A2 c2 d xs w':=
 ⟨(hb.block _ (aaa h.obj)).trans h.obj,ab8 h.rl hb (acT h.rl),ab8 h.rd hb (acT h.rd),h.dt.stay hb,h.hB,h.hl⟩
theorem ImP.lt (h:ImP B g N A1 c1 l A2 c2 d xs w):g<w.heap.size:=aaa h.obj
theorem ImP.rkrd (h:ImP B g N A1 c1 l A2 c2 d xs w):RkRd w w.heap.size A1 l:=aj4 h.rl h.hl
theorem ImP.off (h:ImP B g N A1 c1 l A2 c2 d xs w){k:Nat}{cs:Array Value}{fz:Nat × Nat}{t:TypeId}(hk:w.heap[k]?=some (.cells cs t fz)) (ht:t≠107):g≠k:=fun e=>by
 subst e;have h2:=h.obj;rw[hk]at h2;injection h2 with h2;injection h2 with _ h2 _;exact ht h2
theorem ImP.pushD (h:ImP B g N A1 c1 l A2 c2 d xs w3){y:List UInt8}{A:Option Addr}{k:Nat}{v:Value}(hy:y.length<=100000) (oy:w3.ownsRow 0 5 1 (.slice A y.length k) y.length (y.map bv)) (own:w4.ownsRow B 37 1 v (d.length+1) (xs++ [.slice A y.length k])) (gr:w3.grownBy w4 (Value.slice A2 d.length c2).ownBlock){B0:Nat}{w0:World}(hb:Below B0 w0 w3) (hB0:B0<=B) (hw0:B0<=w3.heap.size):
 ∃A2' c2',v= .slice A2' (d.length+1) c2'/\w4.heap[g]?=w3.heap[g]?/\ImP B g N A1 c1 l A2' c2' (d++ [y]) (xs++ [.slice A y.length k]) (w4.setCell ⟨g,2,none⟩ v)/\Below B0 w0 (w4.setCell ⟨g,2,none⟩ v):=by
 have hrow:=apB h.rd;have hg4:w4.heap[g]?=w3.heap[g]?:=gr.block g h.lt fun e=>by
  obtain⟨cs,fz,hc⟩:=hrow g e.symm;exact h.off hc (by decide) rfl
 have obj4:=hg4.trans h.obj;obtain⟨A',c,rfl,_⟩:=aeM own;have hrl4:w4.ownsRow B 112 3 (.slice A1 l.length c1) l.length (ae4 l):=acR h.rl gr fun k hk hrk=>by
  obtain⟨cs,fz,hc⟩:=hrow k hrk;exact acB h.rl hk hc (by decide)
 have hlx:xs.length=d.length:=by have:=h.rd.1;omega
 have hdt4:DtO w4 (d++ [y]) (xs++ [.slice A y.length k]):=(h.dt.grown gr fun k hk=>by
  obtain⟨cs,fz,hc⟩:=hrow k hk;exact⟨cs,_,fz,by decide,hc⟩).snoc hlx hy (acR oy gr fun k hk hrk=>by
   obtain⟨cs,fz,hc⟩:=hrow k hrk;exact acB oy hk hc (by decide))
 have gs:=acu w4 g 2 (.slice A' (d.length+1) c);have ge:∀k,(Value.slice A2 d.length c2).ownBlock=some k->B0<=k:=fun k hk=>Nat.le_trans hB0 (akb h.rd k hk);refine⟨A',c,rfl,hg4,⟨?_,?_,?_,?_,h.hB,h.hl⟩,?_⟩
 · rw[List.length_append,List.length_singleton];exact heap_setCell_same w4 g 2 _ _ _ obj4
 · exact acR hrl4 gs fun k hk hrk=>by injection hrk with hrk;subst hrk;exact acB hrl4 hk obj4 (by decide)
 · rw[List.length_append,List.length_singleton];exact acR own gs fun k hk hrk=>by injection hrk with hrk;subst hrk;exact acB own hk obj4 (by decide)
 · exact hdt4.grown gs fun k hrk=>by injection hrk with hrk;subst hrk;exact⟨_,_,_,by decide,obj4⟩
 · exact(hb.grown gr hw0 ge).setCell (p:=⟨g,2,none⟩) (Nat.le_trans hB0 h.hB) _
end
section
variable {B g:Nat} {N:Int} {A1 A2:Option Addr} {c1 c2:Nat} {l:List Rk} {d:List (List UInt8)} {xs:List Value} {w:World}
theorem ImP.laid (h:ImP B g N A1 c1 l A2 c2 d xs w){g0:Nat}(hg0:g0<B){x0 x1 x2:Value}(hg:w.heap[g0]?=some (.cells #[x0,x1,x2] 107 (0,0))) (y0 y1 y2:Value):
 RkRd (((w.setCell ⟨g0,0,none⟩ y0).setCell ⟨g0,1,none⟩ y1).setCell ⟨g0,2,none⟩ y2) (((w.setCell ⟨g0,0,none⟩ y0).setCell ⟨g0,1,none⟩ y1).setCell ⟨g0,2,none⟩ y2).heap.size A1 l/\DtRd (((w.setCell ⟨g0,0,none⟩ y0).setCell ⟨g0,1,none⟩ y1).setCell ⟨g0,2,none⟩ y2) (((w.setCell ⟨g0,0,none⟩ y0).setCell ⟨g0,1,none⟩ y1).setCell ⟨g0,2,none⟩ y2).heap.size A2 d:=by
 have s0:=acu w g0 0 y0;have k1:=heap_setCell_same w g0 0 _ _ y0 hg;have s1:=acu (w.setCell ⟨g0,0,none⟩ y0) g0 1 y1;have k2:=heap_setCell_same _ g0 1 _ _ y1 k1;have s2:=acu ((w.setCell ⟨g0,0,none⟩ y0).setCell ⟨g0,1,none⟩ y1) g0 2 y2;have hr:∀{w1 w2:World} {t:TypeId} {size n:Nat} {v:Value} {ys:List Value},w1.ownsRow B t size v n ys->w1.grownBy w2 (some g0)->w2.ownsRow B t size v n ys:=fun ho hgr=>acR ho hgr fun k hk hrk=>by
  injection hrk with hrk;have:=akb ho k hk;omega
 have r1:=hr (hr (hr h.rl s0) s1) s2;have r2:=hr (hr (hr h.rd s0) s1) s2;have d1:=h.dt.grown s0 fun k hrk=>by injection hrk with hrk;subst hrk;exact⟨_,_,_,by decide,hg⟩
 have d2:=d1.grown s1 fun k hrk=>by injection hrk with hrk;subst hrk;exact⟨_,_,_,by decide,k1⟩
 have d3:=d2.grown s2 fun k hrk=>by injection hrk with hrk;subst hrk;exact⟨_,_,_,by decide,k2⟩
 exact⟨aj4 r1 h.hl,d3.rd r2⟩
end
def toR (x:Bk):Rk:=⟨(x.off:Int),(x.size:Int),x.used⟩
theorem apI:∀l:List Bk,acW l=ae4 (l.map toR)
 | []=>rfl
 | x::r=>by
  rw[List.map_cons,acW,ae4,<-apI r];rfl
def ofD (bs:List UInt8):List Bk->List (List UInt8)
 | []=> []
 | x::r=>if x.used then (bs.drop (x.off+8)).take (x.size-16)::ofD bs r else ofD bs r
theorem arX{bs:List UInt8}{l:List Bk}(h:abI bs=some l) (hl:bs.length<=16384):avL (l.map toR)/\l.length*32<=bs.length/\∀x∈l,184<=x.off/\x.off+x.size<=bs.length/\aaG (x.size:Int)=true:=by
 obtain⟨h184,ht,_⟩:=aaj h;have hm:=(aak _ _ _ ht).2;have hn:∀(l:List Bk) (o e:Nat),aby o l e->o+l.length*32<=e:=by
  intro l;induction l with
  | nil=>intro o e h;have:o=e:=h;simp;omega
  | cons x r ih=>
   intro o e ⟨_,h2,h3⟩;have:=ih _ _ h3;have:=(aab _).1 h2;rw[List.length_cons];omega
 have:=hn _ _ _ ht;refine⟨fun x hx=> ?_,by omega,fun x hx=> ?_⟩
 · obtain⟨y,hy,rfl⟩:=List.mem_map.1 hx;obtain⟨h1,h2,h3,_⟩:=hm y hy;unfold toR;dsimp only;omega
 · obtain⟨h1,h2,h3,_⟩:=hm x hx;exact⟨h1,h2,h3⟩
theorem agM{w:World}{g:Nat}{t:TypeId}{y0 y1:Value}(h:w.heap[g]?=some (.cells #[y0,y1] t (0,0))):(w.cell? ⟨g,0,none⟩=some y0/\w.cell? ⟨g,1,none⟩=some y1)/\(w.frozen? ⟨g,0,none⟩=false/\w.frozen? ⟨g,1,none⟩=false)/\g<w.heap.size:=
 ⟨⟨by rw[cell_of_row w g 0 _ _ (0,0) h];rfl,by rw[cell_of_row w g 1 _ _ (0,0) h];rfl⟩,⟨frozen_of_row w g 0 _ _ h,frozen_of_row w g 1 _ _ h⟩,aaa h⟩
theorem apJ (w:World) (t:TypeId) (y0 y1:Value):∃w',Hid (w.alloc (.cells #[y0,y1] t)=w')/\Hid (w'.heap[w.heap.size]?=some (.cells #[y0,y1] t (0,0)))/\Hid (Below w.heap.size w w'):=
 ⟨_,hE0 rfl,hE0 (heap_alloc_new w _),hE0 ((Below.refl _ _).alloc (Nat.le_refl _) _)⟩
theorem auJ{w:World}{g:Nat}{t:TypeId}{y0 y1:Value}(h:Hid (w.heap[g]?=some (.cells #[y0,y1] t (0,0)))) (x0 x1:Value):∃w',Hid (((w.setCell ⟨g,0,none⟩ x0).setCell ⟨g,1,none⟩ x1)=w')/\Hid (w'.heap[g]?=some (.cells #[x0,x1] t (0,0)))/\Hid (∀B v,B<=g->Below B v w->Below B v w')/\(w.cell? ⟨g,0,none⟩=some y0/\w.cell? ⟨g,1,none⟩=some y1)/\(w.frozen? ⟨g,0,none⟩=false/\w.frozen? ⟨g,1,none⟩=false)/\g<w.heap.size:=by
 have h0:=h.out;have h1:(_:Option Obj)=some (.cells #[x0,y1] t (0,0)):=heap_setCell_same _ g 0 _ _ x0 h0;have h2:(_:Option Obj)=some (.cells #[x0,x1] t (0,0)):=heap_setCell_same _ g 1 _ _ x1 h1;exact⟨_,hE0 rfl,hE0 h2,hE0 (fun B v hB hv=>(Below.setCell (Below.setCell hv (p:=⟨g,0,none⟩) hB _) (p:=⟨g,1,none⟩) hB _)),agM h0⟩
theorem aa4{w:World}{g:Nat}{t:TypeId}{y0 y1 y2 y3 y4 y5:Value}(h:w.heap[g]?=some (.cells #[y0,y1,y2,y3,y4,y5] t (0,0))):(w.cell? ⟨g,0,none⟩=some y0/\w.cell? ⟨g,1,none⟩=some y1/\w.cell? ⟨g,2,none⟩=some y2/\w.cell? ⟨g,3,none⟩=some y3/\w.cell? ⟨g,4,none⟩=some y4/\w.cell? ⟨g,5,none⟩=some y5)/\(w.frozen? ⟨g,0,none⟩=false/\w.frozen? ⟨g,1,none⟩=false/\w.frozen? ⟨g,2,none⟩=false/\w.frozen? ⟨g,3,none⟩=false/\w.frozen? ⟨g,4,none⟩=false/\w.frozen? ⟨g,5,none⟩=false)/\g<w.heap.size:=
 ⟨⟨by rw[cell_of_row w g 0 _ _ (0,0) h];rfl,by rw[cell_of_row w g 1 _ _ (0,0) h];rfl,by rw[cell_of_row w g 2 _ _ (0,0) h];rfl,by rw[cell_of_row w g 3 _ _ (0,0) h];rfl,by rw[cell_of_row w g 4 _ _ (0,0) h];rfl,by rw[cell_of_row w g 5 _ _ (0,0) h];rfl⟩,⟨frozen_of_row w g 0 _ _ h,frozen_of_row w g 1 _ _ h,frozen_of_row w g 2 _ _ h,frozen_of_row w g 3 _ _ h,frozen_of_row w g 4 _ _ h,frozen_of_row w g 5 _ _ h⟩,aaa h⟩
theorem acv (w:World) (t:TypeId) (y0 y1 y2 y3 y4 y5:Value):∃w',Hid (w.alloc (.cells #[y0,y1,y2,y3,y4,y5] t)=w')/\Hid (w'.heap[w.heap.size]?=some (.cells #[y0,y1,y2,y3,y4,y5] t (0,0)))/\Hid (Below w.heap.size w w'):=
 ⟨_,hE0 rfl,hE0 (heap_alloc_new w _),hE0 ((Below.refl _ _).alloc (Nat.le_refl _) _)⟩
theorem aaS{w:World}{g:Nat}{t:TypeId}{y0 y1 y2 y3 y4 y5 y6 y7 y8:Value}(h:w.heap[g]?=some (.cells #[y0,y1,y2,y3,y4,y5,y6,y7,y8] t (0,0))):(w.cell? ⟨g,0,none⟩=some y0/\w.cell? ⟨g,1,none⟩=some y1/\w.cell? ⟨g,2,none⟩=some y2/\w.cell? ⟨g,3,none⟩=some y3/\w.cell? ⟨g,4,none⟩=some y4/\w.cell? ⟨g,5,none⟩=some y5/\w.cell? ⟨g,6,none⟩=some y6/\w.cell? ⟨g,7,none⟩=some y7/\w.cell? ⟨g,8,none⟩=some y8)/\(w.frozen? ⟨g,0,none⟩=false/\w.frozen? ⟨g,1,none⟩=false/\w.frozen? ⟨g,2,none⟩=false/\w.frozen? ⟨g,3,none⟩=false/\w.frozen? ⟨g,4,none⟩=false/\w.frozen? ⟨g,5,none⟩=false/\w.frozen? ⟨g,6,none⟩=false/\w.frozen? ⟨g,7,none⟩=false/\w.frozen? ⟨g,8,none⟩=false)/\g<w.heap.size:=
 ⟨⟨by rw[cell_of_row w g 0 _ _ (0,0) h];rfl,by rw[cell_of_row w g 1 _ _ (0,0) h];rfl,by rw[cell_of_row w g 2 _ _ (0,0) h];rfl,by rw[cell_of_row w g 3 _ _ (0,0) h];rfl,by rw[cell_of_row w g 4 _ _ (0,0) h];rfl,by rw[cell_of_row w g 5 _ _ (0,0) h];rfl,by rw[cell_of_row w g 6 _ _ (0,0) h];rfl,by rw[cell_of_row w g 7 _ _ (0,0) h];rfl,by rw[cell_of_row w g 8 _ _ (0,0) h];rfl⟩,⟨frozen_of_row w g 0 _ _ h,frozen_of_row w g 1 _ _ h,frozen_of_row w g 2 _ _ h,frozen_of_row w g 3 _ _ h,frozen_of_row w g 4 _ _ h,frozen_of_row w g 5 _ _ h,frozen_of_row w g 6 _ _ h,frozen_of_row w g 7 _ _ h,frozen_of_row w g 8 _ _ h⟩,aaa h⟩
theorem abx (w:World) (t:TypeId) (y0 y1 y2 y3 y4 y5 y6 y7 y8:Value):∃w',Hid (w.alloc (.cells #[y0,y1,y2,y3,y4,y5,y6,y7,y8] t)=w')/\Hid (w'.heap[w.heap.size]?=some (.cells #[y0,y1,y2,y3,y4,y5,y6,y7,y8] t (0,0)))/\Hid (Below w.heap.size w w'):=
 ⟨_,hE0 rfl,hE0 (heap_alloc_new w _),hE0 ((Below.refl _ _).alloc (Nat.le_refl _) _)⟩
theorem awk{w:World}{g:Nat}{t:TypeId}{y0 y1 y2 y3 y4 y5 y6 y7 y8:Value}(h:Hid (w.heap[g]?=some (.cells #[y0,y1,y2,y3,y4,y5,y6,y7,y8] t (0,0)))) (x0 x1 x2 x3 x4 x5 x6 x7 x8:Value):∃w',Hid ((((((((((w.setCell ⟨g,0,none⟩ x0).setCell ⟨g,1,none⟩ x1).setCell ⟨g,2,none⟩ x2).setCell ⟨g,3,none⟩ x3).setCell ⟨g,4,none⟩ x4).setCell ⟨g,5,none⟩ x5).setCell ⟨g,6,none⟩ x6).setCell ⟨g,7,none⟩ x7).setCell ⟨g,8,none⟩ x8)=w')/\Hid (w'.heap[g]?=some (.cells #[x0,x1,x2,x3,x4,x5,x6,x7,x8] t (0,0)))/\Hid (∀B v,B<=g->Below B v w->Below B v w')/\(w.cell? ⟨g,0,none⟩=some y0/\w.cell? ⟨g,1,none⟩=some y1/\w.cell? ⟨g,2,none⟩=some y2/\w.cell? ⟨g,3,none⟩=some y3/\w.cell? ⟨g,4,none⟩=some y4/\w.cell? ⟨g,5,none⟩=some y5/\w.cell? ⟨g,6,none⟩=some y6/\w.cell? ⟨g,7,none⟩=some y7/\w.cell? ⟨g,8,none⟩=some y8)/\(w.frozen? ⟨g,0,none⟩=false/\w.frozen? ⟨g,1,none⟩=false/\w.frozen? ⟨g,2,none⟩=false/\w.frozen? ⟨g,3,none⟩=false/\w.frozen? ⟨g,4,none⟩=false/\w.frozen? ⟨g,5,none⟩=false/\w.frozen? ⟨g,6,none⟩=false/\w.frozen? ⟨g,7,none⟩=false/\w.frozen? ⟨g,8,none⟩=false)/\g<w.heap.size:=by
 have h0:=h.out;have h1:(_:Option Obj)=some (.cells #[x0,y1,y2,y3,y4,y5,y6,y7,y8] t (0,0)):=heap_setCell_same _ g 0 _ _ x0 h0;have h2:(_:Option Obj)=some (.cells #[x0,x1,y2,y3,y4,y5,y6,y7,y8] t (0,0)):=heap_setCell_same _ g 1 _ _ x1 h1;have h3:(_:Option Obj)=some (.cells #[x0,x1,x2,y3,y4,y5,y6,y7,y8] t (0,0)):=heap_setCell_same _ g 2 _ _ x2 h2;have h4:(_:Option Obj)=some (.cells #[x0,x1,x2,x3,y4,y5,y6,y7,y8] t (0,0)):=heap_setCell_same _ g 3 _ _ x3 h3;have h5:(_:Option Obj)=some (.cells #[x0,x1,x2,x3,x4,y5,y6,y7,y8] t (0,0)):=heap_setCell_same _ g 4 _ _ x4 h4;have h6:(_:Option Obj)=some (.cells #[x0,x1,x2,x3,x4,x5,y6,y7,y8] t (0,0)):=heap_setCell_same _ g 5 _ _ x5 h5;have h7:(_:Option Obj)=some (.cells #[x0,x1,x2,x3,x4,x5,x6,y7,y8] t (0,0)):=heap_setCell_same _ g 6 _ _ x6 h6;have h8:(_:Option Obj)=some (.cells #[x0,x1,x2,x3,x4,x5,x6,x7,y8] t (0,0)):=heap_setCell_same _ g 7 _ _ x7 h7;have h9:(_:Option Obj)=some (.cells #[x0,x1,x2,x3,x4,x5,x6,x7,x8] t (0,0)):=heap_setCell_same _ g 8 _ _ x8 h8;exact⟨_,hE0 rfl,hE0 h9,hE0 (fun B v hB hv=>(Below.setCell (Below.setCell (Below.setCell (Below.setCell (Below.setCell (Below.setCell (Below.setCell (Below.setCell (Below.setCell hv (p:=⟨g,0,none⟩) hB _) (p:=⟨g,1,none⟩) hB _) (p:=⟨g,2,none⟩) hB _) (p:=⟨g,3,none⟩) hB _) (p:=⟨g,4,none⟩) hB _) (p:=⟨g,5,none⟩) hB _) (p:=⟨g,6,none⟩) hB _) (p:=⟨g,7,none⟩) hB _) (p:=⟨g,8,none⟩) hB _)),aaS h0⟩
end Go.Proofs.YtncadccbepjekaaGreatDoor
