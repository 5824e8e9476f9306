/- Texts of mine, joined. -/
import Derived.Great.BuildSlice
import Derived.Laws.OwnMore
import Derived.Test.YtncadccbepjekaaGreatDoorR3
set_option maxRecDepth 100000
set_option maxHeartbeats 2000000
namespace Go.Proofs.YtncadccbepjekaaGreatDoor
open Go.RowKit
structure Wr where
 s:Nat
 b:Nat
 c:Nat
 d:List UInt8
def Wr.two (x:Wr):Nat × List UInt8:=(x.s,x.d)
def akm:List Wr->List Value
 | []=> []
 | x::r=> .int .i64 (x.s:Int):: .slice (some ⟨x.b,0,none⟩) 512 x.c::akm r
theorem agd (a b:List Wr):akm (a++b)=akm a++akm b:=by
 induction a with
 | nil=>rfl
 | cons x r ih=>simp[akm,ih]
theorem al0:∀(ws:List Wr) (i:Nat) (x:Wr),ws[i]?=some x->(akm ws)[i*2]?=some (.int .i64 (x.s:Int))/\(akm ws)[i*2+1]?=some (.slice (some ⟨x.b,0,none⟩) 512 x.c)
 | [],_,_,h=>by simp at h
 | y::r,0,x,h=>by
  simp at h;subst h;exact⟨rfl,rfl⟩
 | y::r,i+1,x,h=>by
  have:=al0 r i x (by simpa using h);have e:(i+1)*2=i*2+1+1:=by omega
  rw[e];exact⟨by simpa[akm]using this.1,by simpa[akm]using this.2⟩
def Fil (w:World) (b:Nat) (d:List UInt8):Prop:=∃cur:Array Value,w.heap[b]?=some (.cells cur 5 (0,0))/\d.length<=cur.size/\cur.toList.take d.length=d.map bv
section
variable {w w':World} {b:Nat} {d:List UInt8}
theorem Fil.lt (h:Fil w b d):b<w.heap.size:=by
 obtain⟨_,h,_⟩:=h;exact aae h
theorem Fil.keep (h:Fil w b d) (hk:w'.heap[b]?=w.heap[b]?):Fil w' b d:=by
 obtain⟨cur,h1,h2⟩:=h;exact⟨cur,hk.trans h1,h2⟩
theorem Fil.reads (h:Fil w b d):Rd w w.heap.size (some ⟨b,0,none⟩) d.length d:=by
 have hlt:=h.lt;obtain⟨cur,h1,h2,h3⟩:=h;refine⟨rfl,fun _=>⟨b,0,rfl,hlt,fun j u hu=> ?_⟩⟩;have hj:j<d.length:=by
  rcases Nat.lt_or_ge j d.length with h | h
  · exact h
  · rw[List.getElem?_eq_none h]at hu;cases hu
 rw[Nat.zero_add,cell_of_row w b j _ _ (0,0) h1];have:(cur.toList.take d.length)[j]?=(d.map bv)[j]?:=by rw[h3]
 rw[List.getElem?_take_of_lt hj,List.getElem?_map,hu]at this;simpa[bv]using this
theorem Fil.of_own{base n c g:Nat}(h:w.ownsRow base 5 1 (.slice (some ⟨g,0,none⟩) n c) n (d.map bv)):Fil w g d:=by
 rcases h.2 with⟨h',_⟩ | ⟨g',cap,cur,h',_,hh,hnc,_,hcs,hcur⟩
 · cases h'
 · injection h' with e1 e2 e3;injection e1 with e1;injection e1 with e1;subst e1;have e:n=d.length:=by have:=h.1;simpa using this.symm
   subst e;exact⟨cur,hh,by omega,by simpa using hcur⟩
end
structure Dk (S:Nat->Prop) (w:World) (g h c:Nat) (W:Option Addr) (cw:Nat) (bs:List UInt8) (ws:List Wr) (left:Int) (off:Bool):Prop where
 obj:w.heap[g]?=some (.cells #[.slice (some ⟨h,0,none⟩) bs.length c, .slice W ws.length cw, .int .i64 left, .bool off] 128 (0,0))
 own:w.ownsRow 0 5 1 (.slice (some ⟨h,0,none⟩) bs.length c) bs.length (bs.map bv)
 wai:w.ownsRow 0 167 2 (.slice W ws.length cw) ws.length (akm ws)
 row:∀x∈ws,x.s*512+512<=bs.length/\x.b≠h/\x.d.length=512/\Fil w x.b x.d
 sg:S g
 sh:S h
 sw:∀a,W=some a->S a.block
 sx:∀x∈ws,S x.b
def adP (S:Nat->Prop) (w w':World) (k:Nat):Prop:=S k\/(w.heap.size<=k/\k<w'.heap.size)
theorem acm{w w':World}{base n size:Nat}{e:TypeId}{v:Value}{xs:List Value}(h:w.ownsRow base e size v n xs) (hk:∀k,v.ownBlock=some k->w'.heap[k]?=w.heap[k]?):w'.ownsRow base e size v n xs:=by
 refine⟨h.1,?_⟩;rcases h.2 with h2 | ⟨g,cap,cur,hv,hg,hh,r⟩
 · exact .inl h2
 · refine .inr ⟨g,cap,cur,hv,hg,?_,r⟩;rw[hk g (by rw[hv];rfl)];exact hh
theorem afM{w:World}{base n size c:Nat}{e:TypeId}{a:Addr}{xs:List Value}(h:w.ownsRow base e size (.slice (some a) n c) n xs):∃b,a=⟨b,0,none⟩/\∃cur,w.heap[b]?=some (.cells cur e (0,0)):=by
 rcases h.2 with⟨h',_⟩ | ⟨g',cap,cur,h',_,hh,_⟩
 · cases h'
 · injection h' with e1;injection e1 with e1;exact⟨g',e1,cur,hh⟩
theorem ae9{w:World}{a b:Nat}{s t:TypeId}{x y:Array Value}(h:w.heap[a]?=some (.cells x s (0,0))) (k:w.heap[b]?=some (.cells y t (0,0))) (hne:s≠t):a≠b:=by
 intro e;subst e;rw[h]at k;injection k with k;injection k with _ k;exact hne k
section
variable {S S':Nat->Prop} {w w':World} {g h c:Nat} {W:Option Addr} {cw:Nat} {bs:List UInt8} {ws:List Wr} {left:Int} {off:Bool}
theorem Dk.c0 (k:Dk S w g h c W cw bs ws left off):w.cell? ⟨g,0,none⟩=some (.slice (some ⟨h,0,none⟩) bs.length c):=by rw[cell_of_row w g 0 _ _ (0,0) k.obj];rfl
theorem Dk.c1 (k:Dk S w g h c W cw bs ws left off):w.cell? ⟨g,1,none⟩=some (.slice W ws.length cw):=by rw[cell_of_row w g 1 _ _ (0,0) k.obj];rfl
theorem Dk.c2 (k:Dk S w g h c W cw bs ws left off):w.cell? ⟨g,2,none⟩=some (.int .i64 left):=by rw[cell_of_row w g 2 _ _ (0,0) k.obj];rfl
theorem Dk.c3 (k:Dk S w g h c W cw bs ws left off):w.cell? ⟨g,3,none⟩=some (.bool off):=by rw[cell_of_row w g 3 _ _ (0,0) k.obj];rfl
theorem Dk.thaw (k:Dk S w g h c W cw bs ws left off) (i:Nat):w.frozen? ⟨g,i,none⟩=false:=frozen_of_row w g i _ _ k.obj
theorem Dk.lt (k:Dk S w g h c W cw bs ws left off):g<w.heap.size:=aae k.obj
theorem Dk.hlt (k:Dk S w g h c W cw bs ws left off):h<w.heap.size:=(k.own.lt h rfl).2
theorem Dk.wlt (k:Dk S w g h c W cw bs ws left off){a:Addr}(e:W=some a):a.block<w.heap.size:=by subst e;exact(k.wai.lt a.block rfl).2
theorem Dk.xlt (k:Dk S w g h c W cw bs ws left off){x:Wr}(hx:x∈ws):x.b<w.heap.size:=(k.row x hx).2.2.2.lt
theorem Dk.reads (k:Dk S w g h c W cw bs ws left off):Rd w w.heap.size (some ⟨h,0,none⟩) bs.length bs:=(Fil.of_own k.own).reads
theorem Dk.cap (k:Dk S w g h c W cw bs ws left off):bs.length<=c/\c<=maxLen:=by
 rcases k.own.2 with⟨h',_⟩ | ⟨_,_,_,h',_,_,h1,h2,_⟩
 · cases h'
 · injection h' with _ _ e;subst e;exact⟨h1,h2⟩
theorem Dk.wcap (k:Dk S w g h c W cw bs ws left off):ws.length<=cw/\cw<=maxLen:=by
 rcases k.wai.2 with⟨h',h0⟩ | ⟨_,_,_,h',_,_,h1,h2,_⟩
 · injection h' with _ _ e;subst e;rw[h0];exact⟨Nat.le_refl _,Nat.zero_le _⟩
 · injection h' with _ _ e;subst e;exact⟨h1,h2⟩
theorem Dk.gh (k:Dk S w g h c W cw bs ws left off):g≠h:=by
 obtain⟨b,e,cur,hc⟩:=afM k.own;injection e with e;subst e;exact ae9 k.obj hc (by decide)
theorem Dk.wg (k:Dk S w g h c W cw bs ws left off){a:Addr}(e:W=some a):a.block≠g/\a.block≠h/\∀x∈ws,x.b≠a.block:=by
 subst e;obtain⟨b,e,cur,hc⟩:=afM k.wai;obtain⟨b2,e2,cur2,hc2⟩:=afM k.own;injection e2 with e2;subst e e2;refine⟨ae9 hc k.obj (by decide),ae9 hc hc2 (by decide),fun x hx=> ?_⟩;obtain⟨cur3,h3,_⟩:=(k.row x hx).2.2.2;exact ae9 h3 hc (by decide)
theorem Dk.xg (k:Dk S w g h c W cw bs ws left off){x:Wr}(hx:x∈ws):x.b≠g:=by
 obtain⟨cur3,h3,_⟩:=(k.row x hx).2.2.2;exact ae9 h3 k.obj (by decide)
def asD (g h:Nat) (W:Option Addr) (ws:List Wr) (k:Nat):Prop:=k=g\/k=h\/(∃a,W=some a/\k=a.block)\/∃x∈ws,k=x.b
theorem Dk.foot (k:Dk S w g h c W cw bs ws left off){j:Nat}(hj:asD g h W ws j):S j/\j<w.heap.size:=by
 rcases hj with rfl | rfl | ⟨a,e,rfl⟩ | ⟨x,hx,rfl⟩
 · exact⟨k.sg,k.lt⟩
 · exact⟨k.sh,k.hlt⟩
 · exact⟨k.sw a e,k.wlt e⟩
 · exact⟨k.sx x hx,k.xlt hx⟩
theorem Dk.keep (k:Dk S w g h c W cw bs ws left off) (hk:∀j,asD g h W ws j->w'.heap[j]?=w.heap[j]?):Dk S w' g h c W cw bs ws left off:=by
 refine⟨(hk g (.inl rfl)).trans k.obj,acm k.own fun j hj=> ?_,acm k.wai fun j hj=> ?_,fun x hx=> ?_,k.sg,k.sh,k.sw,k.sx⟩
 · injection hj with hj;subst hj;exact hk _ (.inr (.inl rfl))
 · rcases W with _ | a
   · cases hj
   · injection hj with hj;subst hj;exact hk _ (.inr (.inr (.inl ⟨a,rfl,rfl⟩)))
 · obtain⟨h1,h2,h3,h4⟩:=k.row x hx;exact⟨h1,h2,h3,h4.keep (hk _ (.inr (.inr (.inr ⟨x,hx,rfl⟩))))⟩
theorem Dk.below (k:Dk S w g h c W cw bs ws left off) (hb:Below w.heap.size w w'):Dk S w' g h c W cw bs ws left off:=k.keep fun j hj=>hb.block j (k.foot hj).2
theorem Dk.tch{R:Nat->Prop}(k:Dk S w g h c W cw bs ws left off) (ht:Tch R w w') (hd:∀j,S j->¬R j):Dk S w' g h c W cw bs ws left off:=k.keep fun j hj=>ht.block j (k.foot hj).2 (hd j (k.foot hj).1)
theorem Dk.more (k:Dk S w g h c W cw bs ws left off) (hS:∀j,asD g h W ws j->S' j):Dk S' w g h c W cw bs ws left off:=
 ⟨k.obj,k.own,k.wai,k.row,hS _ (.inl rfl),hS _ (.inr (.inl rfl)),fun a e=>hS _ (.inr (.inr (.inl ⟨a,e,rfl⟩))),fun x hx=>hS _ (.inr (.inr (.inr ⟨x,hx,rfl⟩)))⟩
theorem Dk.drew (k:Dk S w g h c W cw bs ws left off):Dk S w.drew g h c W cw bs ws left off:=⟨k.obj,k.own,k.wai,k.row,k.sg,k.sh,k.sw,k.sx⟩
theorem Dk.obj_{left':Int}{off':Bool}(k:Dk S w g h c W cw bs ws left off) (ho:w'.heap[g]?=some (.cells #[.slice (some ⟨h,0,none⟩) bs.length c, .slice W ws.length cw, .int .i64 left', .bool off'] 128 (0,0)))
 (hk:∀j,j≠g->w'.heap[j]?=w.heap[j]?):Dk S w' g h c W cw bs ws left' off':=by
 refine⟨ho,acm k.own fun j hj=> ?_,acm k.wai fun j hj=> ?_,fun x hx=> ?_,k.sg,k.sh,k.sw,k.sx⟩
 · injection hj with hj;subst hj;exact hk _ k.gh.symm
 · rcases W with _ | a
   · cases hj
   · injection hj with hj;subst hj;exact hk _ (k.wg rfl).1
 · obtain⟨h1,h2,h3,h4⟩:=k.row x hx;exact⟨h1,h2,h3,h4.keep (hk _ (k.xg hx))⟩
theorem Dk.set2 (k:Dk S w g h c W cw bs ws left off) (n:Int):Dk S (w.setCell ⟨g,2,none⟩ (.int .i64 n)) g h c W cw bs ws n off:=
 k.obj_ (by rw[heap_setCell_same w g 2 _ _ _ k.obj];rfl) fun j hj=>Below.heap_setCell _ _ _ _ hj
theorem Dk.set3 (k:Dk S w g h c W cw bs ws left off) (b:Bool):Dk S (w.setCell ⟨g,3,none⟩ (.bool b)) g h c W cw bs ws left b:=
 k.obj_ (by rw[heap_setCell_same w g 3 _ _ _ k.obj];rfl) fun j hj=>Below.heap_setCell _ _ _ _ hj
theorem Dk.none_ (k:Dk S w g h c W cw bs ws left off):Dk S (w.setCell ⟨g,1,none⟩ (.slice none 0 0)) g h c none 0 bs [] left off:=by
 have hk:∀j,j≠g->(w.setCell ⟨g,1,none⟩ (.slice none 0 0)).heap[j]?=w.heap[j]?:=fun j hj=>Below.heap_setCell _ _ _ _ hj;refine⟨by rw[heap_setCell_same w g 1 _ _ _ k.obj];rfl,acm k.own fun j hj=> ?_,World.ownsRow_nil _ _ _ _,(fun x hx=>by cases hx),k.sg,k.sh,(fun a e=>by cases e),(fun x hx=>by cases hx)⟩;injection hj with hj;subst hj;exact hk _ k.gh.symm
theorem Dk.over (k:Dk S w g h c W cw bs ws left off){cur:Array Value}(hrow:w.heap[h]?=some (.cells cur 5 (0,0))) (hsz:cur.size=c) (htake:cur.toList.take bs.length=bs.map bv) (off':Nat) (cs:List UInt8) (hfit:off'+cs.length<=bs.length):
 Dk S (w.setRow h (cur.toList.take off'++(cs.map bv++cur.toList.drop (off'+(cs.map bv).length))).toArray) g h c W cw (lay bs off' cs) ws left off:=by
 have hle:=k.cap.1;have hlen:=aca bs off' cs hfit;have hk:∀j,j≠h->(w.setRow h (cur.toList.take off'++(cs.map bv++cur.toList.drop (off'+(cs.map bv).length))).toArray).heap[j]?=w.heap[j]?:=fun j hj=>setRow_other w h j _ hj;refine⟨?_,⟨?_, .inr ⟨h,c,_,by rw[hlen],Nat.zero_le _,setRow_heap w h _ _ _ _ hrow,by omega,k.cap.2,?_,?_⟩⟩,acm k.wai fun j hj=> ?_,fun x hx=> ?_,k.sg,k.sh,k.sw,k.sx⟩
 · rw[hk g k.gh,hlen];exact k.obj
 · simp
 · simp;omega
 · rw[Nat.mul_one,hlen,List.toList_toArray];have e1:cur.toList=bs.map bv++cur.toList.drop bs.length:=by rw[<-htake,List.take_append_drop]
   have e2:bs.length=(bs.map bv).length:=by simp
   rw[e1,e2];rw[aiW (bs.map bv) _ off' (cs.map bv) (by simpa using hfit)];simp[lay]
 · rcases W with _ | a
   · cases hj
   · injection hj with hj;subst hj;exact hk _ (k.wg rfl).2.1
 · obtain⟨h1,h2,h3,h4⟩:=k.row x hx;exact⟨by omega,h2,h3,h4.keep (hk _ h2)⟩
theorem Dk.curs (k:Dk S w g h c W cw bs ws left off):∃cur:Array Value,w.heap[h]?=some (.cells cur 5 (0,0))/\cur.size=c/\cur.toList.take bs.length=bs.map bv:=by
 rcases k.own.2 with⟨h',_⟩ | ⟨g',cap,cur,h',_,hh,_,_,hs,ht⟩
 · cases h'
 · injection h' with e1 e2 e3;injection e1 with e1;injection e1 with e1;subst e1 e3;exact⟨cur,hh,by simpa using hs,by simpa using ht⟩
theorem Dk.at_ (k:Dk S w g h c W cw bs ws left off){i:Nat}{x:Wr}(hx:ws[i]?=some x):∃gw,W=some ⟨gw,0,none⟩/\w.cell? ⟨gw,i*2,none⟩=some (.int .i64 (x.s:Int))/\w.cell? ⟨gw,i*2+1,none⟩=some (.slice (some ⟨x.b,0,none⟩) 512 x.c):=by
 have hi:i<ws.length:=by
  rcases Nat.lt_or_ge i ws.length with h | h
  · exact h
  · rw[List.getElem?_eq_none h]at hx;cases hx
 obtain⟨f1,f2⟩:=al0 ws i x hx;have hw:=k.wai;rcases W with _ | a
 · rcases hw.2 with⟨_,h0⟩ | ⟨_,_,_,h',_⟩
   · omega
   · injection h' with e;cases e
 · obtain⟨gw,rfl,_⟩:=afM hw;exact⟨gw,rfl,by rw[hw.cellAt _ (by omega)];exact f1,by rw[hw.cellAt _ (by omega)];exact f2⟩
end
theorem aoN{k:IntKind}{a b:Int}(h:a=b):Ending.returned (.int k a)= .returned (.int k b):=by rw[h]
theorem auJ{a b:Bool}(h:a=b):Ending.returned (.bool a)= .returned (.bool b):=by rw[h]
theorem atT{A:Option Addr}{a b c:Nat}(h:a=b):Ending.returned (.slice A a c)= .returned (.slice A b c):=by rw[h]
section
variable {S:Nat->Prop} {w:World} {g h c:Nat} {W:Option Addr} {cw:Nat} {bs:List UInt8} {ws:List Wr} {left:Int} {off:Bool}
theorem adQ (k:Dk S w g h c W cw bs ws left off) (hl:bs.length<=100000):
 Calls Tryz.prog 147 #[.pointer (some ⟨g,0,none⟩)] w fun e w'=>e= .returned (.int .i64 ((bs.length/512:Nat):Int))/\w=w':=by
 have c0:=k.c0;go_enter Tryz.func147,Tryz.ntmps147
 go_wp2
 go_ret
 exact⟨aoN (by omega),rfl⟩
theorem aeJ (k:Dk S w g h c W cw bs ws left off) (hl:bs.length<=100000) (i:Nat) (hi:i*512+512<=bs.length):
 Calls Tryz.prog 248 #[.pointer (some ⟨g,0,none⟩), .int .i64 (i:Int)] w fun e w'=>e= .returned (.bool true)/\w=w':=by
 have HS:=hE0 (adQ k hl);obtain⟨n,hn⟩:=nmE (bs.length/512);rw[hn]at HS;have hin:i<n:=by omega
 clear hn;go_enter Tryz.func248,Tryz.ntmps248
 go_wp2_with fail
 refine HS.out.mono ?_;rintro e w1 ⟨rfl,rfl⟩;go_wp2
 go_ret
 exact⟨rfl,rfl⟩
theorem afo (k:Dk S w g h c W cw bs ws left off) (_hl:bs.length<=100000) (i:Nat) (hi:i*512+512<=bs.length):
 Calls Tryz.prog 157 #[.pointer (some ⟨g,0,none⟩), .int .i64 (i:Int)] w fun e w'=>e= .returned (.slice (some ⟨h,i*512,none⟩) 512 (c-i*512))/\w=w':=by
 have c0:=k.c0;obtain⟨hc1,hc2⟩:=k.cap;unfold maxLen at hc2;have hne:¬c=i*512:=by omega
 go_enter Tryz.func157,Tryz.ntmps157
 go_wp2
 go_ret
 exact⟨atT (by omega),rfl⟩
theorem amV (k:Dk S w g h c W cw bs ws left off) (hl:bs.length<=100000) (s b cb:Nat) (d:List UInt8) (hd:d.length=512) (hs:s*512+512<=bs.length) (hf:Fil w b d):
 Calls Tryz.prog 95 #[.pointer (some ⟨g,0,none⟩), .agg #[.int .i64 (s:Int), .slice (some ⟨b,0,none⟩) 512 cb]] w fun e w'=>e= .returned (.tuple #[])/\Dk S w' g h c W cw (lay bs (s*512) d) ws left off/\Tch (fun j=>j=h) w w':=by
 obtain⟨hc1,hc2⟩:=k.cap;unfold maxLen at hc2;obtain⟨w0,hw0⟩:=nmE ((w.alloc (.cells #[.int .i64 (s:Int), .slice (some ⟨b,0,none⟩) 512 cb] 167)).drew);have hb0:Below w.heap.size w w0:=by rw[<-hw0];exact((Below.refl _ _).alloc (Nat.le_refl _) _).drew
 have d0:w0.heap[w.heap.size]?=some (.cells #[.int .i64 (s:Int), .slice (some ⟨b,0,none⟩) 512 cb] 167 (0,0)):=by rw[<-hw0];exact heap_alloc_new w _
 have k0:=k.below hb0;have f0:=hf.keep (hb0.block b hf.lt);have HST:=hE0 (afo k0 hl s hs);obtain⟨cur,hrow,hsz,htake⟩:=k0.curs;have HF:=hE0 (k0.over hrow hsz htake (s*512) d (by omega));have HSRC:=hE0 (adc f0.reads);have HN:Hid ((d.map bv).length=Nat.min 512 512):=(show _=_ by rw[List.length_map,hd];rfl);have HFIT:Hid (s*512+(d.map bv).length<=cur.size):=(show _<=_ by rw[List.length_map];omega);have HROW:=hE0 hrow;have HT:Hid (Tch (fun j=>j=h) w (w0.setRow h (cur.toList.take (s*512)++(d.map bv++cur.toList.drop (s*512+(d.map bv).length))).toArray)):=
  (Tch.of_below (S:=fun j=>j=h) hb0).trans (S':=fun j=>j=h) ⟨rfl,rfl,rfl,by simp[World.setRow],fun j _ hj=>setRow_other w0 h j _ hj⟩ (fun _ _ h=>h)
 have e0:=cell_of_row w0 w.heap.size 0 _ _ (0,0) d0;have e1:=cell_of_row w0 w.heap.size 1 _ _ (0,0) d0;simp only[List.getElem?_toArray,List.getElem?_cons_zero,List.getElem?_cons_succ]at e0 e1;have hlt0:w.heap.size<w0.heap.size:=aae d0;have HW0:=hE0 hw0;have Hb:=hE0 hd;clear hw0 hb0 d0 k0 f0 hrow hsz htake hf k hd;go_enter Tryz.func95,Tryz.ntmps95
 go_wp2_with fail
 refine aaq w0.heap.size [([0,1,2,4,5],3)] [] [6] (by kernel_rfl) (by kernel_rfl) (by kernel_rfl) (fun _ _ _ _ _ h=>h) ?_;rw[HW0.out];have q0:∀x:LaterB w0.heap.size w0,x.val.cell? ⟨w.heap.size,0,none⟩=some (.int .i64 (s:Int)):=fun x=>(x.ext.cell (p:=⟨w.heap.size,0,none⟩) hlt0).trans e0;have q1:∀x:LaterB w0.heap.size w0,x.val.cell? ⟨w.heap.size,1,none⟩=some (.slice (some ⟨b,0,none⟩) 512 cb):=fun x=>(x.ext.cell (p:=⟨w.heap.size,1,none⟩) hlt0).trans e1;refine tail_cons (l:= ?seg1) ?hseg1 ?_
 case hseg1=>simp only[pick,lE1,lE2,lE3];rfl
 repeat (go_big_quiet_step (fail))
 refine wpQuiet_nil ?_;clear q0 q1;refine aau (vs:= #[.pointer (some ⟨g,0,none⟩), .int .i64 (s:Int)]) Tryz.call157 rfl rfl rfl (R:=fun r w'=>r= .slice (some ⟨h,s*512,none⟩) 512 (c-s*512)/\w'=w0) (HST.out.mono ?_) w0.heap.size (Nat.le_refl _) ?_
 · rintro e w' ⟨rfl,rfl⟩;exact⟨_,rfl,Below.refl _ _,rfl,rfl⟩
 rintro r w1 _ ⟨rfl,rfl⟩;refine aaN (l:= ?la1) (t:= ?tl1) ?hla1 ?htl1 ?_
 case hla1=>rfl
 case htl1=>simp only[pick,lE1,lE2,lE3];rfl
 refine wpQuiet_nil ?_;simp only[Act.put,lE4,lE5,lE6];refine wpList_copy_own rfl (.tmp 7) (.tmp 9) 37 37 rfl 5 Tryz.underlying37 (by kernel_rfl) h (s*512) 512 (c-s*512) ⟨b,0,none⟩ 512 cb ?cc1 ?cc2 cur 5 HROW.out (d.map bv) HN.out HSRC.out HFIT.out (afj d) ?_
 case cc1=>rfl
 case cc2=>rfl
 generalize w1.setRow h _=w2 at HF HT ⊢;go_wp2
 go_end0
 exact⟨rfl,HF.out,HT.out⟩
end
theorem akI (w:World) (n:Nat) (h1:2<=n) (h2:n<=128):
 Calls Tryz.prog 63 #[.int .i64 (n:Int)] w fun e w'=>e= .returned (.bool true)/\w=w':=by
 go_enter Tryz.func63,Tryz.ntmps63
 go_wp2
 go_ret
 exact⟨auJ (decide_eq_true (by omega)),rfl⟩
theorem aq3 (w:World) (n:Nat) (h1:2<=n) (h2:n<=128):
 Calls Tryz.prog 12 #[.int .i64 (n:Int)] w fun e w'=>e= .returned (.pointer (some ⟨w.heap.size+1,0,none⟩))/\Dk (adP (fun _=>False) w w') w' (w.heap.size+1) w.heap.size (n*512) none 0 (List.replicate (n*512) 0) [] (-1) false/\Below w.heap.size w w':=by
 have HM:=hE0 (akI w n h1 h2);have hmk:=fun W=>run_make_row' (P:=Tryz.prog) 37 5 (.int .u8 0) 1 Tryz.underlying37 aeZ rfl .i64 .i64 (n*512) (by omega) (by omega) W;have hc:((n*512:Nat):Int)=(n:Int)*512:=by omega
 rw[hc]at hmk;clear hc;go_enter Tryz.func12,Tryz.ntmps12
 go_wp2_with fail
 refine HM.out.mono ?_;rintro e w1 ⟨rfl,rfl⟩;go_wp2
 clear hmk;rw[acz];go_ret
 refine⟨rfl,⟨?_,?_,World.ownsRow_nil _ _ _ _,(fun x hx=>by cases hx), .inr ?_, .inr ?_,(fun a e=>by cases e),(fun x hx=>by cases hx)⟩,?_⟩
 · rw[List.length_replicate];simpa using heap_alloc_new (w.alloc (.cells (ab6 (List.replicate (n*512) 0)) 5)) (.cells #[.slice (some ⟨w.heap.size,0,none⟩) (n*512) (n*512), .slice none 0 0, .int .i64 (-1), .bool false] 128)
 · have hr:=World.ownsRow_lit (base:=0) (e:=5) (size:=1) w (ab6 (List.replicate (n*512) 0)) (n*512) (Nat.zero_le _) (by unfold maxLen;omega) (by rw[adC];simp);rw[List.length_replicate];have e:(ab6 (List.replicate (n*512) 0)).toList=(List.replicate (n*512) (0:UInt8)).map bv:=by simp[ab6]
   rw[e]at hr;exact acg hr ((Below.refl _ _).alloc (Nat.le_refl _) _)
 · simp
 · simp;omega
 · exact((Below.refl _ _).alloc (Nat.le_refl _) _).alloc (by simp) _
theorem aoO:(Tryz.prog.info? 167).map (fun i=>(i.zero,i.size,i.bytes))=some (some (.agg #[.int .i64 0, .slice none 0 0]),2,32):=by kernel_rfl
theorem aoP (w:World) (s:Int) (A:Option Addr) (n c:Nat):(Instr.buildSlice 126 1 #[(0, .agg #[.int .i64 s, .slice A n c])]).run Tryz.prog w= .ok (.slice (some ⟨w.heap.size,0,none⟩) 1 1) (w.alloc (.cells #[.int .i64 s, .slice A n c] 167)):=by
 obtain⟨i0,hi,hz0,hz1,hz2⟩:=info_parts aoO;refine run_buildSlice w 126 167 1 _ _ i0 _ Tryz.underlying126 hi hz0 (by omega) (by omega) ?_;rw[hz1];have e:Array.range (1*2)= #[0,1]:=by decide
 rw[e];simp[Instr.fill,Value.cells]
section
variable {S:Nat->Prop} {w w3 w4:World} {g h c:Nat} {W:Option Addr} {cw:Nat} {bs:List UInt8} {ws:List Wr} {left:Int} {off:Bool}
theorem Dk.pushed (k:Dk S w g h c W cw bs ws left off) (hb:Below w.heap.size w w3) (x:Wr) (hx1:x.s*512+512<=bs.length) (hx2:w.heap.size<=x.b) (hx3:x.d.length=512) (hx4:Fil w3 x.b x.d) (v:Value)
 (hown:w4.ownsRow 0 167 2 v (ws.length+1) (akm (ws++ [x]))) (hgr:w3.grownBy w4 (Value.slice W ws.length cw).ownBlock) (hat:v.ownBlock=(Value.slice W ws.length cw).ownBlock\/v.ownBlock=some w3.heap.size):
 w4.cell? ⟨g,1,none⟩=some (.slice W ws.length cw)/\w4.frozen? ⟨g,1,none⟩=false/\∃W' cw',v= .slice W' (ws.length+1) cw'/\Dk (adP S w (w4.setCell ⟨g,1,none⟩ v)) (w4.setCell ⟨g,1,none⟩ v) g h c W' cw' bs (ws++ [x]) left off/\Tch S w (w4.setCell ⟨g,1,none⟩ v):=by
 have k3:=k.below hb;have hne:∀j,j<w3.heap.size->(∀a,W=some a->j≠a.block)->w4.heap[j]?=w3.heap[j]?:=fun j hj hn=>hgr.block j hj (fun e=>by
  rcases W with _ | a
  · simp[Value.ownBlock]at e
  · simp[Value.ownBlock]at e;exact hn a rfl e)
 have hg4:w4.heap[g]?=w3.heap[g]?:=hne g k3.lt (fun a e=>(k3.wg e).1.symm);have hs4:(w4.setCell ⟨g,1,none⟩ v).heap.size=w4.heap.size:=by simp[World.setCell]
 have hoth:∀j,j≠g->(w4.setCell ⟨g,1,none⟩ v).heap[j]?=w4.heap[j]?:=fun j hj=>Below.heap_setCell _ _ _ _ hj;obtain⟨gw,cw',cur,hv,_,hrow,_⟩:∃g' cap cur,v= .slice (some ⟨g',0,none⟩) (ws.length+1) cap/\0<=g'/\w4.heap[g']?=some (.cells cur 167 (0,0))/\ws.length+1<=cap:=by
  rcases hown.2 with⟨_,h0⟩ | ⟨g',cap,cur,h1,h2,h3,h4,_⟩
  · omega
  · exact⟨g',cap,cur,h1,h2,h3,h4⟩
 have hgwlt:=aae hrow;have hgwg:gw≠g:=ae9 hrow (hg4.trans k3.obj) (by decide);subst hv;refine⟨(World.cell?_of_block (a:=⟨g,1,none⟩) hg4).trans k3.c1,(World.frozen?_of_block (a:=⟨g,1,none⟩) hg4).trans (k3.thaw 1),some ⟨gw,0,none⟩,cw',rfl,⟨?_,?_,?_,?_, .inl k.sg, .inl k.sh,?_,?_⟩,?_⟩
 · rw[heap_setCell_same w4 g 1 _ _ _ (hg4.trans k3.obj),List.length_append];rfl
 · refine acm k3.own fun j hj=> ?_;injection hj with hj;subst hj;rw[hoth _ k3.gh.symm];exact hne _ k3.hlt (fun a e=>(k3.wg e).2.1.symm)
 · rw[List.length_append];refine acm hown fun j hj=> ?_;injection hj with hj;subst hj;exact hoth _ hgwg
 · intro y hy;rcases List.mem_append.1 hy with hy | hy
   · obtain⟨h1,h2,h3,h4⟩:=k3.row y hy;refine⟨h1,h2,h3,h4.keep ?_⟩;rw[hoth _ (k3.xg hy)];exact hne _ (k3.xlt hy) (fun a e=>(k3.wg e).2.2 y hy)
   · obtain rfl:y=x:=by simpa using hy
     have hlt:=hx4.lt;have hyg:y.b≠g:=fun e=>by have:=k.lt;omega
     refine⟨hx1,fun e=>by have:=k.hlt;omega,hx3,hx4.keep ?_⟩;rw[hoth _ hyg];refine hne _ hlt (fun a e=> ?_);have:=k.wlt e;omega
 · intro a e;injection e with e;subst e;show adP S w _ gw;rcases hat with h1 | h1
   · left;rcases W with _ | a
     · simp[Value.ownBlock]at h1
     · simp[Value.ownBlock]at h1;rw[h1];exact k.sw a rfl
   · right;simp[Value.ownBlock]at h1;rw[hs4,h1];exact⟨hb.size,by omega⟩
 · intro y hy;rcases List.mem_append.1 hy with hy | hy
   · exact .inl (k.sx y hy)
   · obtain rfl:y=x:=by simpa using hy
     right;rw[hs4];have:=hx4.lt;have:=hgr.size;exact⟨hx2,by omega⟩
 · refine((Tch.of_below (S:=S) hb).trans (Tch.grown (S:=S) hgr fun j hj=> ?_) (fun _ _ h=>h)).trans (Tch.set (S:=S) w4 ⟨g,1,none⟩ _ k.sg) (fun _ _ h=>h);rcases W with _ | a
   · simp[Value.ownBlock]at hj
   · simp[Value.ownBlock]at hj;rw[<-hj];exact k.sw a rfl
theorem amW (k:Dk S w g h c W cw bs ws left false) (hl:bs.length<=100000) (hws:ws.length<=1000000) (hleft:left<0) (i:Nat) (hi:i*512+512<=bs.length) (A:Option Addr) (cA:Nat) (d:List UInt8) (hd:d.length=512) (hr:Rd w w.heap.size A 512 d):
 Calls Tryz.prog 255 #[.pointer (some ⟨g,0,none⟩), .int .i64 (i:Int), .slice A 512 cA] w fun e w'=>e= .returned .nilIface/\(∃W' cw' b cb,Dk (adP S w w') w' g h c W' cw' bs (ws++ [⟨i,b,cb,d⟩]) left false)/\Tch S w w':=by
 have hA:A=none->cA=0:=fun e=>by
  obtain⟨_,_,e1,_⟩:=hr.2 (by omega);rw[e]at e1;cases e1
 have HH:=hE0 (aeJ k hl i hi);have c2:=k.c2;have c3:=k.c3;have hle0:(left==0)=false:=by rw[beq_eq_false_iff_ne];omega
 obtain⟨w0,hw0⟩:=nmE w.drew;have k0:Dk S w0 g h c W cw bs ws left false:=by rw[<-hw0];exact k.drew
 have hsz0:w0.heap.size=w.heap.size:=by rw[<-hw0];rfl
 have r0:Rd w0 w0.heap.size A d.length d:=by rw[hd,hsz0,<-hw0];exact hr.drew
 have hb0:=adE hw0;have HC:=abM A cA w0.heap.size d w0 r0 (Nat.le_refl _) hA (by omega);rw[hd]at HC;have HC:=hE0 HC;have K0:=hE0 k0;have HW0:=hE0 hw0;have HB0:=hE0 hb0;have HD:=hE0 hd;have HSZ:=hE0 hsz0;clear hw0 k0 r0 hb0 hd k hr hA hsz0;go_enter Tryz.func255,Tryz.ntmps255
 go_wp2_with fail
 refine HH.out.mono ?_;rintro e w1 ⟨rfl,rfl⟩;go_wp2_with fail
 refine aaq w0.heap.size [([0,1,2,3,4,5,6],7),([8],9)] [] [10,11,12,13] (by kernel_rfl) (by kernel_rfl) (by kernel_rfl) (fun _ _ _ _ _ h=>h) ?_;rw[HW0.out];clear c2 c3 hle0;have q0:∀x:LaterB w0.heap.size w0,x.val.cell? ⟨g,1,none⟩=some (.slice W ws.length cw):=fun x=>(x.ext.cell (p:=⟨g,1,none⟩) K0.out.lt).trans K0.out.c1;refine tail_cons (l:= ?seg1) ?hseg1 ?_
 case hseg1=>simp only[pick,lE1,lE2,lE3];rfl
 repeat (go_big_quiet_step (fail))
 refine wpQuiet_nil ?_;clear q0;refine aau (vs:= #[.slice A 512 cA]) Tryz.call92 rfl rfl rfl (R:=fun r w'=>∃b cb,r= .slice (some ⟨b,0,none⟩) 512 cb/\w0.heap.size<=b/\Fil w' b d) (HC.out.mono ?_) w0.heap.size (Nat.le_refl _) ?_
 · rintro e w' ⟨A',c',rfl,ho,hb⟩;rw[HD.out]at ho;obtain⟨b,cb,e1,_,_⟩:=alE ho (by omega);injection e1 with e1 _ e3;subst e1 e3;exact⟨_,by rw[HD.out],hb,b,c',rfl,(ho.lt b rfl).1,Fil.of_own ho⟩
 rintro r w1 hb1 ⟨b,cb,rfl,hbb,hfil⟩;refine tail_cons (l:= ?seg2) ?hseg2 ?_
 case hseg2=>simp only[pick,lE1,lE2,lE3];rfl
 simp only[Act.put,lE4,lE5,lE6];repeat (go_big_quiet_step (fail))
 refine wpQuiet_nil ?_;obtain⟨w3,hw3⟩:=nmE (w1.alloc (.cells #[.int .i64 (i:Int), .slice (some ⟨b,0,none⟩) 512 cb] 167));have hro:=aoP w1 (i:Int) (some ⟨b,0,none⟩) 512 cb;rw[hw3]at hro;have hb13:=abE hw3;have hn3:=anE hw3;have hb3:Below w0.heap.size w0 w3:=hb1.trans (hb13.mono hb1.size);refine alK (w1:=w3) (v:= .slice (some ⟨w1.heap.size,0,none⟩) 1 1) rfl rfl ?rv1 (hb13.mono hb1.size) ?_
 case rv1=>exact acA rfl rfl hro
 refine⟨w0.heap.size,Nat.le_refl _,?_⟩;refine aaN (l:= ?la3) (t:= ?tl3) ?hla3 ?htl3 ?_
 case hla3=>rfl
 case htl3=>simp only[pick,lE1,lE2,lE3];rfl
 refine wpQuiet_nil ?_;simp only[Act.put,List.setIfInBounds_toArray];obtain⟨i0,hi0,hz0,hz1,hz2⟩:=info_parts aoO;have hwcap:=K0.out.wcap;have hnew:∀j u,[Value.int .i64 (i:Int), .slice (some ⟨b,0,none⟩) 512 cb][j]?=some u->w3.cell? ((⟨w1.heap.size,0,none⟩:Addr).add j)=some u:=by
  intro j u hu;have e:(⟨w1.heap.size,0,none⟩:Addr).add j=⟨w1.heap.size,j,none⟩:=by unfold Addr.add;split<;>simp_all
  rw[e,cell_of_row w3 _ j _ _ (0,0) hn3];simpa using hu
 have hone:∀u∈ [Value.int .i64 (i:Int), .slice (some ⟨b,0,none⟩) 512 cb],u.oneCell'=true:=by
  intro u hu;simp at hu;rcases hu with rfl | rfl<;>rfl
 have k3:=K0.out.below hb3;refine wpList_append_own_at w3 rfl (.tmp 46) (.tmp 51) 126 rfl 0 167 i0 _ 2 32 Tryz.underlying126 hi0 hz0 hz1 hz2 rfl (by decide) (.slice W ws.length cw) ws.length (akm ws) rfl k3.wai ⟨w1.heap.size,0,none⟩ 1 1 _ rfl rfl hnew hone (by unfold maxLen;omega) (by omega) (Nat.zero_le _) ?_;intro v4 w4 own4 gr4 _ at4;have own4':w4.ownsRow 0 167 2 v4 (ws.length+1) (akm (ws++ [⟨i,b,cb,d⟩])):=by rw[agd];exact own4
 obtain⟨p1,p2,W',cw',rfl,p3,p4⟩:=K0.out.pushed hb3 ⟨i,b,cb,d⟩ hi hbb HD.out (hfil.keep (hb13.block b hfil.lt)) v4 own4' gr4 at4;have P3:=hE0 p3;have P4:=hE0 p4;clear p3 p4 own4 own4' gr4 at4 k3 hone hnew hi0 hz0 hz1 hz2 hn3 hro hw3;go_wp2
 go_ret
 refine⟨rfl,⟨W',cw',b,cb,P3.out.more fun j hj=> ?_⟩,(Tch.of_below (S:=S) HB0.out).trans P4.out (fun _ _ h=>h)⟩;rcases(P3.out.foot hj).1 with h1 | h1
 · exact .inl h1
 · exact .inr ⟨HSZ.out▸h1.1,h1.2⟩
end
def adm (bs:List UInt8) (x:Nat × List UInt8):List UInt8:=lay bs (x.1*512) x.2
def aej (bs:List UInt8) (l:List (Nat × List UInt8)):List UInt8:=l.foldl adm bs
def aoQ (n:Nat) (l:List (Nat × List UInt8)):Prop:=∀x∈l,x.1*512+512<=n/\x.2.length=512
theorem agU (bs:List UInt8) (x:Nat × List UInt8) (h:x.1*512+512<=bs.length) (h2:x.2.length=512):(adm bs x).length=bs.length:=aca _ _ _ (by omega)
theorem abR:∀(l:List (Nat × List UInt8)) (bs:List UInt8),aoQ bs.length l->(aej bs l).length=bs.length
 | [],_,_=>rfl
 | x::r,bs,h=>by
  have hx:=h x (by simp);have e:=agU bs x hx.1 hx.2;have:=abR r (adm bs x) (fun y hy=>by rw[e];exact h y (by simp[hy]));rw[e]at this;exact this
theorem ahj (bs:List UInt8) (l:List (Nat × List UInt8)) (x:Nat × List UInt8):aej bs (l++ [x])=adm (aej bs l) x:=by simp[aej]
section
variable {S:Nat->Prop} {w:World} {g h c:Nat} {W:Option Addr} {cw:Nat} {bs:List UInt8} {ws:List Wr} {left:Int} {off:Bool}
theorem Dk.fits (k:Dk S w g h c W cw bs ws left off):aoQ bs.length (ws.map Wr.two):=by
 intro x hx;obtain⟨y,hy,rfl⟩:=List.mem_map.1 hx;exact⟨(k.row y hy).1,(k.row y hy).2.2.1⟩
theorem aoR (k:Dk S w g h c W cw bs ws left false) (hl:bs.length<=100000):
 Calls Tryz.prog 209 #[.pointer (some ⟨g,0,none⟩)] w fun e w'=>e= .returned .nilIface/\Dk S w' g h c none 0 (aej bs (ws.map Wr.two)) [] left false/\Tch S w w':=by
 have c1:=k.c1;have c3:=k.c3;have hwc:=k.wcap;unfold maxLen at hwc;go_enter Tryz.func209,Tryz.ntmps209
 go_wp2
 clear c1 c3;go_loopw [15] (fun i wr=>∃j:Nat,j<=ws.length/\i= .int .i64 j/\Dk S wr g h c W cw (aej bs ((ws.take j).map Wr.two)) ws left false/\Tch S w wr) (fun i _=>ws.length-(intOf i).toNat)
 case atStart=>exact⟨0,Nat.zero_le _,rfl,k,Tch.refl _ _⟩
 case round=>
  obtain⟨j,hj,rfl,kr,ht⟩:=hrel;by_cases hlt:j<ws.length
  · obtain⟨x,hx⟩:∃x,ws[j]?=some x:=⟨ws[j],List.getElem?_eq_getElem hlt⟩;obtain⟨gw,rfl,d0,d1⟩:=kr.at_ hx;have hxm:x∈ws:=List.mem_of_getElem? hx;obtain⟨x1,x2,x3,x4⟩:=kr.row x hxm;obtain⟨w1,hw1⟩:=nmE (wr.alloc (.cells #[.int .i64 (x.s:Int), .slice (some ⟨x.b,0,none⟩) 512 x.c] 167));have hb1:=abE hw1;have k1:=kr.below hb1;have hlen:=abR ((ws.take j).map Wr.two) bs (fun y hy=>k.fits y (by rw[List.map_take]at hy;exact List.mem_of_mem_take hy));have HS:=hE0 (amV k1 (by omega) x.s x.b x.c x.d x3 x1 (x4.keep (hb1.block _ x4.lt)));have E:Hid (lay (aej bs ((ws.take j).map Wr.two)) (x.s*512) x.d=aej bs ((ws.take (j+1)).map Wr.two)):=(show _=_ by
     rw[List.take_add_one,hx,List.map_append,Option.toList_some,List.map_cons,List.map_nil,ahj];rfl)
    have HT:=hE0 (ht.trans (Tch.of_below (S:=S) hb1) (fun _ _ h=>h));have HSH:=hE0 k.sh;have HW1:=hE0 hw1;clear hx x1 x2 x3 x4 k1 hb1 hw1 ht kr hlen k;go_wp2_with fail
    rw[HW1.out];refine HS.out.mono ?_;rintro e w2 ⟨rfl,k2,t2⟩;rw[E.out]at k2;have K2:=hE0 k2;have T2:=hE0 (HT.out.trans t2 (fun i _ hi=>by rw[hi];exact HSH.out));clear k2 t2 E HS HT d0 d1;go_wp2
    go_roundw
    case rel=>exact⟨j+1,by omega,by go_num,K2.out,T2.out⟩
    case measure=>simp[intOf];omega
  · obtain rfl:j=ws.length:=by omega
    rw[List.take_length]at kr;have c1:=kr.c1;have f1:=kr.thaw 1;have K2:=hE0 kr.none_;have T2:=hE0 (ht.trans (Tch.set (S:=S) wr ⟨g,1,none⟩ (.slice none 0 0) kr.sg) (fun _ _ h=>h));clear kr ht k;go_wp2
    go_ret
    exact⟨rfl,K2.out,T2.out⟩
end
section
variable {S:Nat->Prop} {w w':World} {g h c:Nat} {W:Option Addr} {cw:Nat} {bs:List UInt8} {ws:List Wr} {left:Int} {off:Bool} {K:Option Addr} {ck:Nat} {kb:List Bool}
end
def abv (bs:List UInt8) (l:List (Nat × List UInt8)) (i:Nat):List UInt8:=match l.reverse.find? (fun x=>x.1==i)with
 | some x=>x.2
 | none=>(bs.drop (i*512)).take 512
theorem aq4 (bs:List UInt8) (l:List (Nat × List UInt8)) (i j:Nat) (x:Nat × List UInt8) (hx:l[j]?=some x) (he:x.1=i) (hn:∀y∈l.drop (j+1),y.1≠i):abv bs l i=x.2:=by
 have hj:j<l.length:=by
  rcases Nat.lt_or_ge j l.length with h | h
  · exact h
  · rw[List.getElem?_eq_none h]at hx;cases hx
 have e:l.reverse=(l.drop (j+1)).reverse++x::(l.take j).reverse:=by
  rw[List.getElem?_eq_getElem hj]at hx;injection hx with hx;subst hx;conv=>lhs;rw[<-List.take_append_drop (j+1) l]
  rw[List.reverse_append,List.take_succ_eq_append_getElem hj,List.reverse_append];rfl
 have hf:(l.drop (j+1)).reverse.find? (fun x=>x.1==i)=none:=by
  rw[List.find?_eq_none];intro y hy;have:=hn y (by simpa using hy);simpa using this
 unfold abv;rw[e,List.find?_append,hf,Option.none_or,List.find?_cons_of_pos (by simpa using he)]
theorem ahk (bs:List UInt8) (l:List (Nat × List UInt8)) (i:Nat) (hn:∀y∈l,y.1≠i):abv bs l i=(bs.drop (i*512)).take 512:=by
 have hf:l.reverse.find? (fun x=>x.1==i)=none:=by
  rw[List.find?_eq_none];intro y hy;have:=hn y (by simpa using hy);simpa using this
 unfold abv;rw[hf]
def aq5 (bs:List UInt8) (w:World) (e:Ending) (w':World):Prop:=∃b o c',e= .returned (.slice (some ⟨b,o,none⟩) 512 c')/\Rd w w.heap.size (some ⟨b,o,none⟩) 512 bs/\w=w'
section
variable {S:Nat->Prop} {w:World} {g h c:Nat} {W:Option Addr} {cw:Nat} {bs:List UInt8} {ws:List Wr} {left:Int} {off:Bool}
theorem aq6 (k:Dk S w g h c W cw bs ws left off) (hl:bs.length<=100000) (i:Nat) (hi:i*512+512<=bs.length):
 Calls Tryz.prog 249 #[.pointer (some ⟨g,0,none⟩), .int .i64 (i:Int)] w fun e w'=>aq5 (abv bs (ws.map Wr.two) i) w e w':=by
 have c1:=k.c1;have hwc:=k.wcap;unfold maxLen at hwc;have HST:=hE0 (afo k hl i hi);go_enter Tryz.func249,Tryz.ntmps249
 go_wp2
 go_loop [5] (fun t=>∃j:Nat,j<=ws.length/\t= .int .i64 ((j:Int)-1)/\∀y∈(ws.map Wr.two).drop j,y.1≠i) (fun t=>(intOf t+1).toNat)
 case atStart=>exact⟨ws.length,Nat.le_refl _,rfl,by rw[List.drop_of_length_le (by simp)];intro y hy;cases hy⟩
 case round=>
  obtain⟨j,hj,rfl,hn⟩:=hrel;rcases j with _ | j
  · have hn2:=ahk bs (ws.map Wr.two) i (by simpa using hn);have hrd:=k.reads.sub (i*512) 512 hi;rw[<-hn2,Nat.zero_add]at hrd;have HRD:=hE0 hrd;clear hn hn2 hrd k;go_wp2_with fail
    refine HST.out.mono ?_;rintro e w1 ⟨rfl,rfl⟩;go_wp2
    go_ret
    exact⟨h,i*512,_,rfl,HRD.out,rfl⟩
  · obtain⟨x,hx⟩:∃x,ws[j]?=some x:=⟨ws[j],List.getElem?_eq_getElem (by omega)⟩;obtain⟨gw,rfl,d0,d1⟩:=k.at_ hx;have hxm:x∈ws:=List.mem_of_getElem? hx;obtain⟨x1,x2,x3,x4⟩:=k.row x hxm;have ej:((j+1:Nat):Int)-1=(j:Int):=by omega
    rw[ej];have hjl:j<ws.length:=by omega
    by_cases hs:x.s=i
    · have hn2:=aq4 bs (ws.map Wr.two) i j (Wr.two x) (by rw[List.getElem?_map,hx];rfl) hs hn;have hrd:=x4.reads;rw[x3]at hrd;have e:x.d=abv bs (ws.map Wr.two) i:=hn2.symm;rw[e]at hrd;have HRD:=hE0 hrd;have hq:((x.s:Int)==(i:Int))=true:=by rw[beq_iff_eq];omega
      clear hn hn2 hrd e k x1 x2 x3 x4 hx ej hs;go_wp2
      go_ret
      exact⟨x.b,0,_,rfl,HRD.out,rfl⟩
    · have hq:((x.s:Int)==(i:Int))=false:=by rw[beq_eq_false_iff_ne];omega
      have hn2:∀y∈(ws.map Wr.two).drop j,y.1≠i:=by
       intro y hy;rw[List.drop_eq_getElem_cons (by simpa using hjl)]at hy;rcases List.mem_cons.1 hy with rfl | hy
       · rw[List.getElem?_eq_getElem hjl]at hx;injection hx with hx;rw[List.getElem_map,hx];exact hs
       · exact hn y hy
      have HN:=hE0 hn2;clear hn hn2 k x1 x2 x3 x4 hx ej hs;go_wp2
      go_round
      case rel=>exact⟨j,by omega,rfl,HN.out⟩
      case measure=>simp[intOf]
theorem al1 (k:Dk S w g h c W cw bs ws left false) (hl:bs.length<=100000) (i:Nat) (hi:i*512+512<=bs.length):
 Calls Tryz.prog 204 #[.pointer (some ⟨g,0,none⟩), .int .i64 (i:Int)] w fun e w'=>aqF (abv bs (ws.map Wr.two) i) w e w':=by
 have HH:=hE0 (aeJ k hl i hi);have HL:=hE0 (aq6 k hl i hi);have c3:=k.c3;clear k;obtain⟨ys,hys⟩:=nmE (abv bs (ws.map Wr.two) i);rw[hys]at HL ⊢;clear hys;go_enter Tryz.func204,Tryz.ntmps204
 go_wp2_with fail
 refine HH.out.mono ?_;rintro e w1 ⟨rfl,rfl⟩;go_wp2_with fail
 refine HL.out.mono ?_;rintro e w1 ⟨b,o,c',rfl,hr,rfl⟩;have hlen:ys.length=512:=hr.1;have HC:=abM (some ⟨b,o,none⟩) c' w.heap.size ys w (by rw[hlen];exact hr) (Nat.le_refl _) (fun e=>by cases e) (by omega);rw[hlen]at HC;have HC:=hE0 HC;clear hlen hr;go_wp2_with fail
 refine HC.out.mono ?_;rintro e w2 ⟨A',c2,rfl,ho,hb⟩;have HO:=hE0 ho;clear ho;go_wp2
 go_ret2
 exact⟨A',c2,rfl,HO.out,hb⟩
end
section
variable {S:Nat->Prop} {w:World} {g h c:Nat} {W:Option Addr} {cw:Nat} {bs:List UInt8} {ws:List Wr} {left:Int} {off:Bool}
theorem amX (k:Dk S w g h c W cw bs ws left false) (hl:bs.length<=100000) (hws:ws.length<=1000000) (hleft:0<left) (hleft2:left<=9223372036854775807) (i:Nat) (hi:i*512+512<=bs.length) (A:Option Addr) (cA:Nat) (d:List UInt8) (hd:d.length=512) (hr:Rd w w.heap.size A 512 d) (hAg:∀a,A=some a->a.block≠g):
 Calls Tryz.prog 255 #[.pointer (some ⟨g,0,none⟩), .int .i64 (i:Int), .slice A 512 cA] w fun e w'=>e= .returned .nilIface/\(∃W' cw' b cb,Dk (adP S w w') w' g h c W' cw' bs (ws++ [⟨i,b,cb,d⟩]) (left-1) false)/\Tch S w w':=by
 have hA:A=none->cA=0:=fun e=>by
  obtain⟨_,_,e1,_⟩:=hr.2 (by omega);rw[e]at e1;cases e1
 have HH:=hE0 (aeJ k hl i hi);have c2:=k.c2;have c3:=k.c3;have hle0:(left==0)=false:=by rw[beq_eq_false_iff_ne];omega
 have f2:=k.thaw 2;obtain⟨w0,hw0⟩:=nmE ((w.setCell ⟨g,2,none⟩ (.int .i64 (left-1))).drew);have k0:Dk S w0 g h c W cw bs ws (left-1) false:=by rw[<-hw0];exact(k.set2 (left-1)).drew
 have hsz0:w0.heap.size=w.heap.size:=by rw[<-hw0];simp[World.setCell]
 have hb0:Tch (fun j=>j=g) w w0:=by rw[<-hw0];exact(Tch.set (S:=fun j=>j=g) w ⟨g,2,none⟩ _ rfl).drew
 have r0:Rd w0 w0.heap.size A d.length d:=by rw[hd];exact hr.tch hb0 hAg
 have HC:=abM A cA w0.heap.size d w0 r0 (Nat.le_refl _) hA (by omega);rw[hd]at HC;have HC:=hE0 HC;have K0:=hE0 k0;have HW0:=hE0 hw0;have HB0:Hid (Tch S w w0):=⟨hb0.os,hb0.tape,hb0.output,hb0.size,fun j hj hn=>hb0.block j hj (fun e=>hn (by rw[e];exact k.sg))⟩;have HD:=hE0 hd;have HSZ:=hE0 hsz0;clear hw0 k0 r0 hb0 hd k hr hA hsz0 hAg;go_enter Tryz.func255,Tryz.ntmps255
 go_wp2_with fail
 refine HH.out.mono ?_;rintro e w1 ⟨rfl,rfl⟩;go_wp2_with fail
 refine aaq w0.heap.size [([0,1,2,3,4,5,6],7),([8],9)] [] [10,11,12,13] (by kernel_rfl) (by kernel_rfl) (by kernel_rfl) (fun _ _ _ _ _ h=>h) ?_;rw[HW0.out];clear c2 c3 hle0 f2;have q0:∀x:LaterB w0.heap.size w0,x.val.cell? ⟨g,1,none⟩=some (.slice W ws.length cw):=fun x=>(x.ext.cell (p:=⟨g,1,none⟩) K0.out.lt).trans K0.out.c1;refine tail_cons (l:= ?seg1) ?hseg1 ?_
 case hseg1=>simp only[pick,lE1,lE2,lE3];rfl
 repeat (go_big_quiet_step (fail))
 refine wpQuiet_nil ?_;clear q0;refine aau (vs:= #[.slice A 512 cA]) Tryz.call92 rfl rfl rfl (R:=fun r w'=>∃b cb,r= .slice (some ⟨b,0,none⟩) 512 cb/\w0.heap.size<=b/\Fil w' b d) (HC.out.mono ?_) w0.heap.size (Nat.le_refl _) ?_
 · rintro e w' ⟨A',c',rfl,ho,hb⟩;rw[HD.out]at ho;obtain⟨b,cb,e1,_,_⟩:=alE ho (by omega);injection e1 with e1 _ e3;subst e1 e3;exact⟨_,by rw[HD.out],hb,b,c',rfl,(ho.lt b rfl).1,Fil.of_own ho⟩
 rintro r w1 hb1 ⟨b,cb,rfl,hbb,hfil⟩;refine tail_cons (l:= ?seg2) ?hseg2 ?_
 case hseg2=>simp only[pick,lE1,lE2,lE3];rfl
 simp only[Act.put,lE4,lE5,lE6];repeat (go_big_quiet_step (fail))
 refine wpQuiet_nil ?_;obtain⟨w3,hw3⟩:=nmE (w1.alloc (.cells #[.int .i64 (i:Int), .slice (some ⟨b,0,none⟩) 512 cb] 167));have hro:=aoP w1 (i:Int) (some ⟨b,0,none⟩) 512 cb;rw[hw3]at hro;have hb13:=abE hw3;have hn3:=anE hw3;have hb3:Below w0.heap.size w0 w3:=hb1.trans (hb13.mono hb1.size);refine alK (w1:=w3) (v:= .slice (some ⟨w1.heap.size,0,none⟩) 1 1) rfl rfl ?rv1 (hb13.mono hb1.size) ?_
 case rv1=>exact acA rfl rfl hro
 refine⟨w0.heap.size,Nat.le_refl _,?_⟩;refine aaN (l:= ?la3) (t:= ?tl3) ?hla3 ?htl3 ?_
 case hla3=>rfl
 case htl3=>simp only[pick,lE1,lE2,lE3];rfl
 refine wpQuiet_nil ?_;simp only[Act.put,List.setIfInBounds_toArray];obtain⟨i0,hi0,hz0,hz1,hz2⟩:=info_parts aoO;have hwcap:=K0.out.wcap;have hnew:∀j u,[Value.int .i64 (i:Int), .slice (some ⟨b,0,none⟩) 512 cb][j]?=some u->w3.cell? ((⟨w1.heap.size,0,none⟩:Addr).add j)=some u:=by
  intro j u hu;have e:(⟨w1.heap.size,0,none⟩:Addr).add j=⟨w1.heap.size,j,none⟩:=by unfold Addr.add;split<;>simp_all
  rw[e,cell_of_row w3 _ j _ _ (0,0) hn3];simpa using hu
 have hone:∀u∈ [Value.int .i64 (i:Int), .slice (some ⟨b,0,none⟩) 512 cb],u.oneCell'=true:=by
  intro u hu;simp at hu;rcases hu with rfl | rfl<;>rfl
 have k3:=K0.out.below hb3;refine wpList_append_own_at w3 rfl (.tmp 46) (.tmp 51) 126 rfl 0 167 i0 _ 2 32 Tryz.underlying126 hi0 hz0 hz1 hz2 rfl (by decide) (.slice W ws.length cw) ws.length (akm ws) rfl k3.wai ⟨w1.heap.size,0,none⟩ 1 1 _ rfl rfl hnew hone (by unfold maxLen;omega) (by omega) (Nat.zero_le _) ?_;intro v4 w4 own4 gr4 _ at4;have own4':w4.ownsRow 0 167 2 v4 (ws.length+1) (akm (ws++ [⟨i,b,cb,d⟩])):=by rw[agd];exact own4
 obtain⟨p1,p2,W',cw',rfl,p3,p4⟩:=K0.out.pushed hb3 ⟨i,b,cb,d⟩ hi hbb HD.out (hfil.keep (hb13.block b hfil.lt)) v4 own4' gr4 at4;have P3:=hE0 p3;have P4:=hE0 p4;clear p3 p4 own4 own4' gr4 at4 k3 hone hnew hi0 hz0 hz1 hz2 hn3 hro hw3;go_wp2
 go_ret
 refine⟨rfl,⟨W',cw',b,cb,P3.out.more fun j hj=> ?_⟩,HB0.out.trans P4.out (fun _ _ h=>h)⟩;rcases(P3.out.foot hj).1 with h1 | h1
 · exact .inl h1
 · exact .inr ⟨by have:=HSZ.out;omega,h1.2⟩
theorem amY (k:Dk S w g h c W cw bs ws left true) (hl:bs.length<=100000) (hleft:left≠0) (i:Nat) (hi:i*512+512<=bs.length) (A:Option Addr) (cA:Nat):
 Calls Tryz.prog 255 #[.pointer (some ⟨g,0,none⟩), .int .i64 (i:Int), .slice A 512 cA] w fun e w'=>e= .returned (.iface 130 (.int .i64 6))/\w=w':=by
 have HH:=hE0 (aeJ k hl i hi);have c2:=k.c2;have c3:=k.c3;have hle0:(left==0)=false:=by rw[beq_eq_false_iff_ne];exact hleft
 go_enter Tryz.func255,Tryz.ntmps255
 go_wp2_with fail
 with_reducible refine HH.out.mono ?_
 rintro e w1 ⟨rfl,rfl⟩;go_wp2
 go_ret
 exact⟨rfl,rfl⟩
theorem amZ (k:Dk S w g h c W cw bs ws 0 off) (hl:bs.length<=100000) (i:Nat) (hi:i*512+512<=bs.length) (A:Option Addr) (cA:Nat):
 Calls Tryz.prog 255 #[.pointer (some ⟨g,0,none⟩), .int .i64 (i:Int), .slice A 512 cA] w fun e w'=>e= .returned (.iface 130 (.int .i64 6))/\Dk S w' g h c W cw bs ws 0 true/\Tch S w w':=by
 have HH:=hE0 (aeJ k hl i hi);have c2:=k.c2;have c3:=k.c3;have f3:=k.thaw 3;have K1:=hE0 (k.set3 true);have T1:=hE0 (Tch.set (S:=S) w ⟨g,3,none⟩ (.bool true) k.sg);clear k;go_enter Tryz.func255,Tryz.ntmps255
 go_wp2_with fail
 with_reducible refine HH.out.mono ?_
 rintro e w1 ⟨rfl,rfl⟩;go_wp2
 go_ret
 exact⟨rfl,K1.out,T1.out⟩
theorem am0 (k:Dk S w g h c W cw bs ws left true):
 Calls Tryz.prog 209 #[.pointer (some ⟨g,0,none⟩)] w fun e w'=>e= .returned (.iface 130 (.int .i64 6))/\w=w':=by
 have c3:=k.c3;go_enter Tryz.func209,Tryz.ntmps209
 go_wp2
 go_ret
 exact⟨rfl,rfl⟩
end
def need (n:Nat):Nat:=(n+511)/512
def age (b:List UInt8) (i:Nat):List UInt8:=(b.drop (i*512)).take 512++List.replicate (512-(b.length-i*512)) 0
theorem aek (b:List UInt8) (i:Nat):(age b i).length=512:=by
 simp[age];omega
theorem Fill.over{B:Nat}{w0 w:World}{g:Nat}{t:TypeId}{bs:List UInt8}(h:Fill w g t bs) (hb:Below B w0 w) (hB:B<=g) (off:Nat) (cs:List UInt8):
 Fill (w.setRow g (((ab6 bs).toList.take off++(cs.map bv++(ab6 bs).toList.drop (off+(cs.map bv).length))).toArray)) g t (lay bs off cs)/\Below B w0 (w.setRow g (((ab6 bs).toList.take off++(cs.map bv++(ab6 bs).toList.drop (off+(cs.map bv).length))).toArray)):=by
 refine⟨?_,below_setRow hb hB _⟩;unfold Fill at h ⊢;rw[setRow_heap w g _ _ t _ h];simp[ab6,lay]
section
variable {S:Nat->Prop} {w:World} {g h c:Nat} {W:Option Addr} {cw:Nat} {bs:List UInt8} {ws:List Wr} {left:Int} {off:Bool}
theorem adR (w:World) (n:Nat) (hn:n<=9223372036854775807) (m:Nat) (hm:need n=m):
 Calls Tryz.prog 253 #[.int .i64 (n:Int)] w fun e w'=>e= .returned (.int .i64 (m:Int))/\w=w':=by
 unfold need at hm;by_cases h:n%512=0
 · have s1:decide ((0:Int)<(n:Int)%512)=false:=decide_eq_false (by omega);have HM:Hid ((n:Int)/512=(m:Int)):=(show _=_ by omega);clear hm;go_enter Tryz.func253,Tryz.ntmps253
   go_wp2
   go_ret
   exact⟨aoN HM.out,rfl⟩
 · have s1:decide ((0:Int)<(n:Int)%512)=true:=decide_eq_true (by omega);have HM:Hid ((n:Int)/512+1=(m:Int)):=(show _=_ by omega);clear hm;go_enter Tryz.func253,Tryz.ntmps253
   go_wp2
   go_ret
   exact⟨aoN HM.out,rfl⟩
theorem ajp (k:Dk S w g h c W cw bs ws left off) (N:Nat) (hN:bs.length=512*N) (hN2:N<=128) (p n:Nat) (hfit:p+need n<=N):
 Calls Tryz.prog 252 #[.pointer (some ⟨g,0,none⟩), .int .i64 (p:Int), .int .i64 (n:Int)] w fun e w'=>e= .returned (.bool true)/\w=w':=by
 have HS:=adQ k (by omega);rw[show bs.length/512=N by omega]at HS;have HS:=hE0 HS;obtain⟨m,hm⟩:=nmE (need n);have HE:=hE0 (adR w n (by unfold need at hfit;omega) m hm);rw[hm]at hfit;have h1:(p:Int)<=(N:Int):=by omega
 have h2:(m:Int)<=(N:Int)-(p:Int):=by omega
 clear hm k hN;go_enter Tryz.func252,Tryz.ntmps252
 go_wp2_with fail
 with_reducible refine HS.out.mono ?_
 rintro e w1 ⟨rfl,rfl⟩;go_wp2_with fail
 with_reducible refine HE.out.mono ?_
 rintro e w1 ⟨rfl,rfl⟩;go_wp2_with fail
 with_reducible refine HS.out.mono ?_
 rintro e w1 ⟨rfl,rfl⟩;go_wp2
 go_ret
 exact⟨rfl,rfl⟩
end
theorem akJ (w:World) (A:Addr) (cA:Nat) (b:List UInt8) (hr:Rd w w.heap.size (some A) b.length b) (_hb:b.length<=1000000) (hpos:0<b.length):
 Calls Tryz.prog 256 #[.slice (some A) b.length cA] w fun e w'=>e= .returned (.slice (some ⟨w.heap.size,0,none⟩) 512 512)/\Fill w' w.heap.size 5 (age b 0)/\Below w.heap.size w w':=by
 obtain⟨z,hz⟩:=nmE (List.replicate 512 (0:UInt8));have hzl:z.length=512:=by rw[<-hz];simp
 have hmk:∀W:World,(Instr.makeSlice 37 (.int .i64 512) (.int .i64 512)).run Tryz.prog W= .ok (.slice (some ⟨W.heap.size,0,none⟩) 512 512) (W.alloc (.cells (ab6 z) 5)):=fun W=>by
  have:=run_make_row' (P:=Tryz.prog) 37 5 (.int .u8 0) 1 Tryz.underlying37 aeZ rfl .i64 .i64 512 (by omega) (by omega) W;rw[acz,hz]at this;exact this
 obtain⟨w0,hw0⟩:=nmE (w.alloc (.cells (ab6 z) 5));have hf:Fill w0 w.heap.size 5 z:=by rw[<-hw0];exact Fill.made w 5 _
 have hbl:=abE hw0;have rs:=hr.below hbl;have hn:((b.take 512).map bv).length=Nat.min b.length 512:=by rw[List.length_map,List.length_take];exact Nat.min_comm _ _
 have hsrc:∀j v,((b.take 512).map bv)[j]?=some v->w0.cell? (A.add j)=some v:=fun j v hj=>adc rs j v (by
  rw[List.map_take]at hj;rcases Nat.lt_or_ge j 512 with h | h
  · rwa [List.getElem?_take_of_lt h]at hj
  · rw[List.getElem?_eq_none (by simp;omega)]at hj;cases hj)
 have hov:=hf.over hbl (Nat.le_refl _) 0 (b.take 512);have e1:lay z 0 (b.take 512)=age b 0:=by
  rw[<-hz];simp only[lay,age,List.take_zero,List.nil_append,Nat.zero_mul,List.drop_zero,Nat.zero_add,List.drop_replicate,List.length_take,Nat.sub_zero];congr 2;omega
 rw[e1]at hov;have HOV:=hE0 hov;have HSRC:=hE0 hsrc;have HN:=hE0 hn;have HF:=hE0 hf;have HFIT:Hid (0+((b.take 512).map bv).length<=(ab6 z).size):=(show _<=_ by rw[adC,hzl,List.length_map,List.length_take];omega);have HW0:=hE0 hw0;clear hov hsrc hn hf hbl rs hr e1 hz hzl hw0;go_enter Tryz.func256,Tryz.ntmps256
 go_wp2_with (rw[HW0.out];(refine wpList_copy_own rfl (.tmp 5) (.tmp 6) 37 37 rfl 5 Tryz.underlying37 (by kernel_rfl) w.heap.size 0 512 512 A b.length cA rfl rfl _ 5 HF.out ((b.take 512).map bv) HN.out HSRC.out HFIT.out (afj _) ?_);generalize w0.setRow _ _=w2 at HOV ⊢)
 go_ret
 exact⟨rfl,HOV.out.1,HOV.out.2⟩
def wk (K:Nat) (left:Int) (off:Bool):Nat:=if off=true then 0 else if left<0 then K else min K left.toNat
def abU (left:Int) (j:Nat):Int:=if left<0 then left else left-j
def agf (p:Nat) (b:List UInt8) (j:Nat):List (Nat × List UInt8):=(List.range j).map fun i=>(p+i,age b i)
theorem ajq (p:Nat) (b:List UInt8) (j:Nat):agf p b (j+1)=agf p b j++ [(p+j,age b j)]:=by simp[agf,List.range_succ]
theorem aoS (b:List UInt8) (i:Nat):age (b.drop (i*512)) 0=age b i:=by simp[age]
theorem agh (p:Nat) (b:List UInt8) (j:Nat):(agf p b j).length=j:=by simp[agf]
theorem ahl (left:Int):abU left 0=left:=by unfold abU;split<;>omega
theorem am1 (left:Int) (j:Nat) (h:(j:Int)<=left\/left<0):abU (abU left j) 1=abU left (j+1):=by
 unfold abU;by_cases h0:left<0
 · simp[h0]
 · have:¬(left-(j:Int)<0):=by omega
   simp[h0,this];omega
section
variable {S:Nat->Prop} {w:World} {g h c:Nat} {W:Option Addr} {cw:Nat} {bs:List UInt8} {ws:List Wr} {left:Int} {off:Bool}
theorem akK (k:Dk S w g h c W cw bs ws left false) (hl:bs.length<=100000) (hws:ws.length<=1000000) (hl0:left≠0) (hl2:left<=9223372036854775807) (i:Nat) (hi:i*512+512<=bs.length) (A:Option Addr) (cA:Nat) (d:List UInt8) (hd:d.length=512) (hr:Rd w w.heap.size A 512 d) (hAg:∀a,A=some a->a.block≠g):
 Calls Tryz.prog 255 #[.pointer (some ⟨g,0,none⟩), .int .i64 (i:Int), .slice A 512 cA] w fun e w'=>e= .returned .nilIface/\(∃W' cw' b cb,Dk (adP S w w') w' g h c W' cw' bs (ws++ [⟨i,b,cb,d⟩]) (abU left 1) false)/\Tch S w w':=by
 by_cases h0:left<0
 · have e:abU left 1=left:=by simp[abU,h0]
   rw[e];exact amW k hl hws h0 i hi A cA d hd hr
 · have e:abU left 1=left-1:=by simp[abU,h0]
   rw[e];exact amX k hl hws (by omega) hl2 i hi A cA d hd hr hAg
theorem am2 (k:Dk S w g h c W cw bs ws left off) (hl:bs.length<=100000) (hbad:off=true\/left=0) (i:Nat) (hi:i*512+512<=bs.length) (A:Option Addr) (cA:Nat):
 Calls Tryz.prog 255 #[.pointer (some ⟨g,0,none⟩), .int .i64 (i:Int), .slice A 512 cA] w fun e w'=>e= .returned (.iface 130 (.int .i64 6))/\Dk S w' g h c W cw bs ws left true/\Tch S w w':=by
 by_cases h0:left=0
 · subst h0;exact amZ k hl i hi A cA
 · obtain rfl:off=true:=by rcases hbad with h | h;exact h;exact absurd h h0
   refine(amY k hl h0 i hi A cA).mono ?_;rintro e w' ⟨rfl,rfl⟩;exact⟨rfl,k,Tch.refl _ _⟩
theorem Dk.regrow{S:Nat->Prop}{w w1 w2:World}(k:Dk (adP (adP S w w1) w1 w2) w2 g h c W cw bs ws left off) (h1:w.heap.size<=w1.heap.size) (h2:w1.heap.size<=w2.heap.size):Dk (adP S w w2) w2 g h c W cw bs ws left off:=k.more fun j hj=>by
 rcases(k.foot hj).1 with(h | h) | h
 · exact .inl h
 · exact .inr ⟨h.1,by omega⟩
 · exact .inr ⟨by omega,h.2⟩
theorem Tch.regrow{S:Nat->Prop}{w w1 w2:World}(h:Tch S w w1) (h2:Tch (adP S w w1) w1 w2):Tch S w w2:=h.trans h2 fun i hi hg=>by
 rcases hg with h | h
 · exact h
 · omega
theorem am3 (k:Dk S w g h c W cw bs ws left off) (N:Nat) (hN:bs.length=512*N) (hN2:N<=128) (hws:ws.length<=100000) (hl2:left<=9223372036854775807) (p:Nat) (A:Option Addr) (cA:Nat) (b:List UInt8) (hr:Rd w w.heap.size A b.length b) (hA:b.length<=cA) (hAm:cA<=9223372036854775807) (hAS:0<b.length->∀a,A=some a->¬S a.block) (K:Nat) (hK:need b.length=K) (hfit:p+K<=N) (m:Nat) (hm:wk K left off=m):
 Calls Tryz.prog 208 #[.pointer (some ⟨g,0,none⟩), .int .i64 (p:Int), .slice A b.length cA] w fun e w'=>e= .returned (if m<K then .iface 130 (.int .i64 6) else .nilIface)/\(∃W' cw' vs,Dk (adP S w w') w' g h c W' cw' bs vs (abU left m) (off || decide (m<K))/\vs.map Wr.two=ws.map Wr.two++agf p b m)/\Tch S w w':=by
 have hmK:m<=K:=by rw[<-hm];unfold wk;split;omega;split;omega;omega
 have hbl:b.length<=65536:=by unfold need at hK;omega
 have hon:off=true->m=0:=fun e=>by rw[<-hm];unfold wk;simp[e]
 have hml:off=false->(m:Int)<=left\/left<0:=fun e=>by
  rw[<-hm];unfold wk;by_cases h0:left<0
  · exact .inr h0
  · left;simp[e,h0];omega
 have hmlt:off=false->m<K->left=(m:Int):=fun e h=>by
  rw[<-hm]at h ⊢;unfold wk at h ⊢;by_cases h0:left<0
  · simp[e,h0]at h
  · simp[e,h0]at h ⊢;omega
 have HF:=hE0 (ajp k N hN hN2 p b.length (by rw[hK];exact hfit));have HE:=hE0 (adR w b.length (by omega) K hK);have k0:Dk (adP S w w) w g h c W cw bs ws (abU left 0) off:=by rw[ahl];exact k.more fun j hj=> .inl (k.foot hj).1
 have HK:=hE0 hK;have HNN:=hE0 hN;have HR:=hE0 hr;clear hK hN hr hm k;go_enter Tryz.func208,Tryz.ntmps208
 go_wp2_with fail
 with_reducible refine HF.out.mono ?_
 rintro e w1 ⟨rfl,rfl⟩;go_wp2_with fail
 with_reducible refine HE.out.mono ?_
 rintro e w1 ⟨rfl,rfl⟩;clear HF HE;go_wp2
 go_loopw [19] (fun i wr=>∃j:Nat,j<=m/\i= .int .i64 j/\(∃W' cw' vs,Dk (adP S w wr) wr g h c W' cw' bs vs (abU left j) off/\vs.map Wr.two=ws.map Wr.two++agf p b j)/\Tch S w wr) (fun i _=>K-(intOf i).toNat)
 case atStart=>exact⟨0,Nat.zero_le _,rfl,⟨W,cw,ws,k0,by simp[agf]⟩,Tch.refl _ _⟩
 case round=>
  obtain⟨j,hj,rfl,⟨W',cw',vs,kr,hvs⟩,ht⟩:=hrel;have hvl:vs.length=ws.length+j:=by have:=congrArg List.length hvs;simpa[agh]using this
  by_cases hlt:j<K
  · have hjb:j*512<b.length:=by have:=HK.out;unfold need at this;omega
    have rr:=HR.out.tch ht (hAS (by omega));obtain⟨bA,oA,rfl,hbA,_⟩:=rr.2 (by omega);obtain⟨cs,hcs⟩:=nmE (b.drop (j*512));have hcl:cs.length=b.length-j*512:=by rw[<-hcs];simp
    have rs:=rr.sub (j*512) (b.length-j*512) (by omega);rw[List.take_of_length_le (by simp),hcs,<-hcl]at rs;have HP:=akJ wr ⟨bA,oA+j*512,none⟩ (cA-j*512) cs rs (by omega) (by omega);rw[hcl,<-hcs,aoS]at HP;have HP:=hE0 HP;have HKR:=hE0 kr;have HVS:=hE0 hvs;have HT:=hE0 ht;have hne:¬cA=j*512:=by omega
    clear rr rs hcs kr hvs ht k0;go_wp2_with fail
    with_reducible refine HP.out.mono ?_
    rintro e w2 ⟨rfl,hf,hb⟩;have rf:=hf.reads;rw[aek]at rf;have k2:=HKR.out.below hb;by_cases hjm:j<m
    · have hof:off=false:=by
       cases off
       · rfl
       · have:=hon rfl;omega
      subst hof;have hml':=hml rfl;have hl0:abU left j≠0:=by unfold abU;split<;>omega
      have hl3:abU left j<=9223372036854775807:=by unfold abU;split<;>omega
      have HW:=akK k2 (by have:=HNN.out;omega) (by omega) hl0 hl3 (p+j) (by have:=HNN.out;omega) (some ⟨wr.heap.size,0,none⟩) 512 (age b j) (aek b j) rf (fun a e=>by
       injection e with e;subst e;have:=HKR.out.lt;dsimp only;omega)
      rw[am1 left j (by omega),Int.natCast_add]at HW;have HW:=hE0 HW;have HSZ:=hE0 hb.size;have T2:Hid (Tch (adP S w wr) wr w2):=Tch.of_below hb;have HSR:=hE0 HT.out.size;clear hf hb rf k2 hl0 hl3 hne hcl;go_wp2_with fail
      with_reducible refine HW.out.mono ?_
      rintro e w3 ⟨rfl,⟨W3,cw3,b3,cb3,k3⟩,t3⟩;have t23:=T2.out.trans t3 (fun i _ h=>h);have t03:=HT.out.regrow t23;have k3':Dk (adP S w w3) w3 g h c W3 cw3 bs (vs++ [⟨p+j,b3,cb3,age b j⟩]) (abU left (j+1)) false:=k3.more fun i hi=>by
       have h1:=HSR.out;have h2:=HSZ.out;have h3:=t3.size;rcases(k3.foot hi).1 with(h | h) | h
       · exact .inl h
       · exact .inr ⟨h.1,by omega⟩
       · exact .inr ⟨by omega,h.2⟩
      have e3:(vs++ [(⟨p+j,b3,cb3,age b j⟩:Wr)]).map Wr.two=ws.map Wr.two++agf p b (j+1):=by rw[List.map_append,HVS.out,ajq,List.append_assoc];rfl
      have K3:=hE0 k3';have E3:=hE0 e3;have T3:=hE0 t03;clear k3 t3 t23 t03 k3' e3 HW T2;go_wp2
      go_roundw
      case rel=>exact⟨j+1,by omega,by go_num,⟨W3,cw3,_,K3.out,E3.out⟩,T3.out⟩
      case measure=>simp[intOf];omega
    · obtain rfl:j=m:=by omega
      have hbad:off=true\/abU left j=0:=by
       cases off
       · right;have:=hmlt rfl hlt;unfold abU;split<;>omega
       · exact .inl rfl
      have HW:=am2 k2 (by have:=HNN.out;omega) hbad (p+j) (by have:=HNN.out;omega) (some ⟨wr.heap.size,0,none⟩) 512;rw[Int.natCast_add]at HW;have HW:=hE0 HW;have HSZ:=hE0 hb.size;have T2:Hid (Tch (adP S w wr) wr w2):=Tch.of_below hb;clear hf hb rf k2 hne hcl;go_wp2_with fail
      with_reducible refine HW.out.mono ?_
      rintro e w3 ⟨rfl,k3,t3⟩;have t03:=HT.out.regrow (T2.out.trans t3 (fun i _ h=>h));have k3':Dk (adP S w w3) w3 g h c W' cw' bs vs (abU left j) true:=by
       exact k3.more fun i hi=>by
        have h2:=HSZ.out;have h3:=t3.size;rcases(k3.foot hi).1 with h | h
        · exact .inl h
        · exact .inr ⟨h.1,by omega⟩
      have K3:=hE0 k3';have T3:=hE0 t03;clear k3 t3 t03 k3' HW T2;go_wp2
      go_ret
      exact⟨rfl,⟨W',cw',_,K3.out,HVS.out⟩,T3.out⟩
  · obtain rfl:j=K:=by omega
    obtain rfl:m=j:=by omega
    have K3:=hE0 kr;have T3:=hE0 ht;have HVS:=hE0 hvs;clear kr ht hvs k0;go_wp2
    go_ret
    exact⟨rfl,⟨W',cw',_,K3.out,HVS.out⟩,T3.out⟩
end
def adn (bs:List UInt8) (l:List (Nat × List UInt8)) (p j:Nat):List UInt8:=((List.range j).map fun i=>abv bs l (p+i)).flatten
theorem ac5 (bs:List UInt8) (l:List (Nat × List UInt8)) (p j:Nat):adn bs l p (j+1)=adn bs l p j++abv bs l (p+j):=by simp[adn,List.range_succ]
theorem acP (bs:List UInt8) (l:List (Nat × List UInt8)) (i:Nat) (hf:aoQ bs.length l) (hi:i*512+512<=bs.length):(abv bs l i).length=512:=by
 unfold abv;split
 · rename_i x h;exact(hf x (List.mem_reverse.1 (List.mem_of_find?_eq_some h))).2
 · rw[List.length_take,List.length_drop];omega
theorem afp (bs:List UInt8) (l:List (Nat × List UInt8)) (p:Nat) (hf:aoQ bs.length l) (j:Nat) (h:(p+j)*512<=bs.length):(adn bs l p j).length=512*j:=by
 induction j with
 | zero=>simp[adn]
 | succ j ih=>
  have h1:=ih (by omega);have h2:=acP bs l (p+j) hf (by omega);rw[ac5,List.length_append,h1,h2];omega
theorem aq7 (J x:List UInt8) (m:Nat) (hx:x.length=512):lay (J++List.replicate m 0) J.length (x.take m)=J++(x++List.replicate (m-512) 0).take m:=by
 unfold lay;rw[List.take_left];congr 1;have e:m-min m x.length=min (m-x.length) (m-512):=by omega
 rw[List.drop_append,List.drop_of_length_le (by omega),List.nil_append,Nat.add_sub_cancel_left,List.length_take,List.drop_replicate,List.take_append,List.take_replicate,e]
def adS (bs:List UInt8) (l:List (Nat × List UInt8)) (p n j:Nat):List UInt8:=(adn bs l p j++List.replicate (n-512*j) 0).take n
theorem akL (bs:List UInt8) (l:List (Nat × List UInt8)) (p n j:Nat) (hf:aoQ bs.length l) (hj:512*j<n) (hi:(p+j)*512+512<=bs.length):
 lay (adS bs l p n j) (j*512) ((abv bs l (p+j)).take (n-j*512))=adS bs l p n (j+1):=by
 have hl:=afp bs l p hf j (by omega);have hx:=acP bs l (p+j) hf hi;have e:j*512=(adn bs l p j).length:=by omega
 unfold adS;rw[List.take_of_length_le (by simp;omega),ac5,List.append_assoc,List.take_append,List.take_of_length_le (by omega:(adn bs l p j).length<=n),hl,show n-j*512=n-512*j by omega,e,aq7 _ _ _ hx];congr 4
theorem aie (bs:List UInt8) (l:List (Nat × List UInt8)) (p n j:Nat) (hf:aoQ bs.length l) (hi:(p+j)*512<=bs.length):(adS bs l p n j).length=n:=by
 have hl:=afp bs l p hf j hi;simp[adS,hl];omega
theorem Fill.own{w:World}{g:Nat}{bs:List UInt8}{base:Nat}(h:Fill w g 5 bs) (hB:base<=g) (hm:bs.length<=1000000):w.ownsRow base 5 1 (.slice (some ⟨g,0,none⟩) bs.length bs.length) bs.length (bs.map bv):=by
 refine⟨by simp, .inr ⟨g,bs.length,ab6 bs,rfl,hB,h,Nat.le_refl _,by unfold maxLen;omega,by rw[adC];simp,?_⟩⟩;rw[Nat.mul_one];simp only[ab6];rw[List.take_of_length_le (by simp)]
section
variable {S:Nat->Prop} {w:World} {g h c:Nat} {W:Option Addr} {cw:Nat} {bs:List UInt8} {ws:List Wr} {left:Int} {off:Bool}
theorem aoT (k:Dk S w g h c W cw bs ws left off) (N:Nat) (hN:bs.length=512*N) (hN2:N<=128) (p n K:Nat) (hK:need n=K) (hfit:p+K<=N) (ho:off=true->n=0) (out:List UInt8) (hout:(adn bs (ws.map Wr.two) p K).take n=out):
 Calls Tryz.prog 206 #[.pointer (some ⟨g,0,none⟩), .int .i64 (p:Int), .int .i64 (n:Int)] w fun e w'=>aqF out w e w':=by
 have hbl:n<=65536:=by unfold need at hK;omega
 have HF:=hE0 (ajp k N hN hN2 p n (by rw[hK];exact hfit));have HE:=hE0 (fun w=>adR w n (by omega) K hK);have hfs:=k.fits;obtain⟨z,hz⟩:=nmE (List.replicate n (0:UInt8));have hmk:∀W:World,(Instr.makeSlice 37 (.int .i64 (n:Int)) (.int .i64 (n:Int))).run Tryz.prog W= .ok (.slice (some ⟨W.heap.size,0,none⟩) n n) (W.alloc (.cells (ab6 z) 5)):=fun W=>by
  have:=run_make_row' (P:=Tryz.prog) 37 5 (.int .u8 0) 1 Tryz.underlying37 aeZ rfl .i64 .i64 n (by omega) (by omega) W;rw[acz,hz]at this;exact this
 obtain⟨w0,hw0⟩:=nmE (w.alloc (.cells (ab6 z) 5));have hf:Fill w0 w.heap.size 5 z:=by rw[<-hw0];exact Fill.made w 5 _
 have hbl0:=abE hw0;have e0:z=adS bs (ws.map Wr.two) p n 0:=by simp[adS,adn,<-hz]
 have hend:adS bs (ws.map Wr.two) p n K=out:=by
  have:n-512*K=0:=by unfold need at hK;omega
  rw[<-hout];simp[adS,this]
 have hlen:=fun j hj=>aie bs (ws.map Wr.two) p n j hfs hj;rw[e0]at hf;have HF0:=hE0 hf;have HB0:=hE0 hbl0;have HW0:=hE0 hw0;have HKK:=hE0 k;have HNN:=hE0 hN;have HK:=hE0 hK;have HFS:=hE0 hfs;have HEND:=hE0 hend;have HLEN:=hE0 hlen;obtain⟨gb,hgb⟩:=nmE w.heap.size;have HGB:=hE0 hgb;clear hz hw0 hf hbl0 e0 k hN hK hout hfs hend hlen;go_enter Tryz.func206,Tryz.ntmps206
 go_wp2_with fail
 with_reducible refine HF.out.mono ?_
 rintro e w1 ⟨rfl,rfl⟩;clear HF;go_wp2_with fail
 rw[HW0.out]
 with_reducible refine(HE.out w0).mono ?_
 rintro e w1 ⟨rfl,rfl⟩;clear HE hmk HW0;clear hgb;go_wp2
 go_loopw [26] (fun i wr=>∃j:Nat,j<=K/\i= .int .i64 j/\Fill wr gb 5 (adS bs (ws.map Wr.two) p n j)/\Below gb w wr) (fun i _=>K-(intOf i).toNat)
 case atStart=>exact⟨0,Nat.zero_le _,rfl,by rw[<-HGB.out];exact HF0.out,by rw[<-HGB.out];exact HB0.out⟩
 case round=>
  obtain⟨j,hj,rfl,hf,hb⟩:=hrel;by_cases hlt:j<K
  · have hjn:512*j<n:=by have:=HK.out;unfold need at this;omega
    have hNb:=HNN.out;have hof:off=false:=by
     cases off
     · rfl
     · have:=ho rfl;omega
    subst hof;obtain⟨P,hP⟩:=nmE (adS bs (ws.map Wr.two) p n j);have hPl:P.length=n:=by rw[<-hP];exact HLEN.out j (by omega)
    have hst:=akL bs (ws.map Wr.two) p n j HFS.out hjn (by omega);have hxl:=acP bs (ws.map Wr.two) (p+j) HFS.out (by omega);have hrd:=al1 (HKK.out.below (HGB.out▸hb)) (by omega) (p+j) (by omega);obtain⟨x,hx⟩:=nmE (abv bs (ws.map Wr.two) (p+j));rw[hP,hx]at hst;rw[hP]at hf;rw[hx]at hxl hrd;rw[Int.natCast_add]at hrd;have HRD:=hE0 hrd;have HST:=hE0 hst;have HFI:=hE0 hf;have HB:=hE0 hb;have hne:¬n=j*512:=by omega
    have HXL:=hE0 hxl;have HPL:=hE0 hPl;clear hrd hst hf hb hx hP hNb hxl hPl;go_wp2_with fail
    with_reducible refine HRD.out.mono ?_
    rintro e w2 ⟨A',c',rfl,hown,hb2⟩;rw[HXL.out]at hown ⊢;obtain⟨hr2,_⟩:=(⟨(ahS hown),trivial⟩:_/\True);obtain⟨A2,c2,e2,_,hr2⟩:=hr2;injection e2 with e2 _ e3;subst e2 e3;obtain⟨b2,o2,rfl,_,_⟩:=hr2.2 (by omega);have hlt2:=HFI.out.lt;have hf2:=HFI.out.below hb2 hlt2;have hov:=hf2.over ((HB.out.trans (hb2.mono (by omega)))) (Nat.le_refl _) (j*512) (x.take (n-j*512));rw[HST.out]at hov;have HOV:=hE0 hov;have HN2:Hid (((x.take (n-j*512)).map bv).length=Nat.min 512 (n-j*512)):=(show _=_ by rw[List.length_map,List.length_take,HXL.out];exact Nat.min_comm _ _);have HSRC:Hid (∀i v,((x.take (n-j*512)).map bv)[i]?=some v->w2.cell? ((⟨b2,o2,none⟩:Addr).add i)=some v):=fun i v hi=>adc hr2 i v (by
     rw[List.map_take]at hi;rcases Nat.lt_or_ge i (n-j*512)with h | h
     · rwa [List.getElem?_take_of_lt h]at hi
     · rw[List.getElem?_eq_none (by simp;omega)]at hi;cases hi)
    have HFIT:Hid (j*512+((x.take (n-j*512)).map bv).length<=(ab6 P).size):=(show _<=_ by rw[HN2.out,adC,HPL.out];have:=Nat.min_le_right 512 (n-j*512);simp only[Nat.min_def]at this ⊢;omega);have HF2:=hE0 hf2;clear hown hb2 hr2 hf2 hov HRD HST;go_wp2_with (refine wpList_copy_own rfl (.tmp 43) (.tmp 44) 37 37 rfl 5 Tryz.underlying37 (by kernel_rfl) gb (j*512) (n-j*512) (n-j*512) ⟨b2,o2,none⟩ 512 _ rfl rfl _ 5 HF2.out ((x.take (n-j*512)).map bv) HN2.out HSRC.out HFIT.out (afj _) ?_;generalize w2.setRow _ _=w3 at HOV ⊢)
    go_roundw
    case rel=>exact⟨j+1,by omega,by go_num,HOV.out.1,HOV.out.2⟩
    case measure=>simp[intOf];omega
  · obtain rfl:j=K:=by omega
    rw[HEND.out]at hf;have hol:out.length=n:=by rw[<-HEND.out];exact HLEN.out j (by have:=HNN.out;omega)
    have HO:=hE0 (hf.own (base:=gb) (Nat.le_refl _) (by omega));have HB:=hE0 hb;have HOL:=hE0 hol;clear hf hb hol;go_wp2
    go_ret2
    refine⟨some ⟨gb,0,none⟩,out.length,?_,HGB.out▸HO.out,HGB.out▸HB.out⟩;rw[HOL.out];rfl
end
def Wr.one (x:Wr):Value:= .slice (some ⟨x.b,0,none⟩) 512 x.c
structure Rq (S:Nat->Prop) (w:World) (g:Nat) (L:Option Addr) (cl:Nat) (W:Option Addr) (cw:Nat) (ls ws:List Wr) (left:Int) (off:Bool):Prop where
 obj:w.heap[g]?=some (.cells #[.slice L ls.length cl, .slice W ws.length cw, .bool off, .int .i64 left] 64 (0,0))
 lrow:w.ownsRow 0 37 1 (.slice L ls.length cl) ls.length (ls.map Wr.one)
 wrow:w.ownsRow 0 170 2 (.slice W ws.length cw) ws.length (akm ws)
 lf:∀x∈ls,x.d.length=512/\Fil w x.b x.d
 wf:∀x∈ws,x.s<ls.length/\x.d.length=512/\Fil w x.b x.d
 sg:S g
 sl:∀a,L=some a->S a.block
 sw:∀a,W=some a->S a.block
 sx:∀x∈ls,S x.b
 sy:∀x∈ws,S x.b
section
variable {S S':Nat->Prop} {w w':World} {g:Nat} {L:Option Addr} {cl:Nat} {W:Option Addr} {cw:Nat} {ls ws:List Wr} {left:Int} {off:Bool}
end
def auK (ls:List Wr):List UInt8:=(ls.map Wr.d).flatten
section
variable {S:Nat->Prop} {w:World} {g:Nat} {L:Option Addr} {cl:Nat} {W:Option Addr} {cw:Nat} {ls ws:List Wr} {left:Int} {off:Bool} {K:Option Addr} {ck:Nat} {kb:List Bool}
end
def sec (bs:List UInt8) (s:Nat):List UInt8:=(bs.drop (512*s)).take 512
theorem aq8 (bs:List UInt8) (x:Nat × List UInt8) (h:x.1*512+512<=bs.length) (h2:x.2.length=512):sec (adm bs x) x.1=x.2:=by
 have e:(bs.take (x.1*512)).length=512*x.1:=by simp;omega
 unfold sec adm lay;rw[List.drop_append,e,List.drop_eq_nil_of_le (by omega),List.nil_append,Nat.sub_self,List.drop_zero,<-h2];exact List.take_left
theorem aoU (bs:List UInt8) (x:Nat × List UInt8) (s:Nat) (h:x.1*512+512<=bs.length) (h2:x.2.length=512) (hs:x.1≠s):sec (adm bs x) s=sec bs s:=by
 apply List.ext_getElem?;intro i;unfold sec adm lay;rcases Nat.lt_or_ge i 512 with hi | hi
 · rw[List.getElem?_take_of_lt hi,List.getElem?_take_of_lt hi,List.getElem?_drop,List.getElem?_drop];have e:(bs.take (x.1*512)).length=x.1*512:=by simp;omega
   rcases Nat.lt_or_ge s x.1 with h3 | h3
   · rw[List.getElem?_append_left (by omega),List.getElem?_take_of_lt (by omega)]
   · rw[List.getElem?_append_right (by omega),e,List.getElem?_append_right (by omega),h2,List.getElem?_drop];have e2:x.1*512+512+(512*s+i-x.1*512-512)=512*s+i:=by omega
     rw[e2]
 · rw[List.getElem?_eq_none (by simp;omega),List.getElem?_eq_none (by simp;omega)]
theorem ahm (bs:List UInt8) (l:List (Nat × List UInt8)) (x:Nat × List UInt8) (i:Nat):abv bs (l++ [x]) i=if x.1=i then x.2 else abv bs l i:=by
 unfold abv;rw[List.reverse_append,List.reverse_singleton,List.singleton_append,List.find?_cons];by_cases h:x.1=i
 · rw[if_pos h];simp[h]
 · rw[if_neg h];have:(x.1==i)=false:=by rw[beq_eq_false_iff_ne];exact h
   rw[this]
structure Two (Sd Sr:Nat->Prop) (B:Nat) (w:World) (g h c:Nat) (W:Option Addr) (cw gr:Nat) (L:Option Addr) (cl:Nat) (V:Option Addr) (cv:Nat) (bs:List UInt8) (ls ws vs:List Wr) (left:Int) (off:Bool) (n:Nat):Prop where
 d:Dk Sd w g h c W cw bs ws left off
 r:Rq Sr w gr L cl V cv ls vs left off
 sd:∀j,Sd j->B<=j/\j<w.heap.size/\¬Sr j
 sr:∀j,Sr j->B<=j/\j<w.heap.size
 hj:auK ls=bs
 hw:vs.map Wr.two=ws.map Wr.two
 l1: -1<=left
 l2:left<=9223372036854775807
 hn:ws.length<=n
 hl:ls.length<=128
 hB:B<=w.heap.size
section
variable {Sd Sr:Nat->Prop} {B:Nat} {w w1 w2:World} {g h c:Nat} {W:Option Addr} {cw gr:Nat} {L:Option Addr} {cl:Nat} {V:Option Addr} {cv:Nat} {bs:List UInt8} {ls ws vs:List Wr} {left:Int} {off:Bool} {n:Nat}
end
def aeK (b:List UInt8) (j:Nat):List UInt8:=((List.range j).map fun i=>age b i).flatten
theorem agi (b:List UInt8) (j:Nat):aeK b (j+1)=aeK b j++age b j:=by simp[aeK,List.range_succ]
theorem aoV (b:List UInt8) (j:Nat):aeK b j=b.take (512*j)++List.replicate (512*j-b.length) 0:=by
 induction j with
 | zero=>simp[aeK]
 | succ j ih=>
  rw[agi,ih];unfold age;have e:512*(j+1)=512*j+512:=by omega
  rw[e,Nat.mul_comm j 512];by_cases h:512*j<=b.length
  · rw[show 512*j-b.length=0 by omega,List.replicate_zero,List.append_nil,<-List.append_assoc,List.take_add];congr 2;omega
  · rw[List.drop_eq_nil_of_le (by omega),List.take_nil,List.nil_append,List.take_of_length_le (by omega),List.take_of_length_le (by omega),List.append_assoc,List.replicate_append_replicate];congr 2;omega
theorem akM (b:List UInt8) (K:Nat) (hK:need b.length=K):(aeK b K).take b.length=b:=by
 unfold need at hK;rw[aoV,show b.take (512*K)=b from List.take_of_length_le (by omega),List.take_left]
theorem ael (l:List (Nat × List UInt8)) (bs:List UInt8) (i:Nat) (hf:aoQ bs.length l):abv (aej bs l) [] i=abv bs l i:=by
 have sec_last:∀z:List UInt8,abv z [] i=sec z i:=fun z=>by
  rw[ahk z [] i (by simp)];unfold sec;rw[Nat.mul_comm]
 rw[sec_last];obtain⟨r,hr⟩:=nmE l.reverse;have hl:l=r.reverse:=by rw[<-hr,List.reverse_reverse]
 subst hl;clear hr;induction r with
 | nil=>exact(sec_last bs).symm
 | cons x r ih=>
  rw[List.reverse_cons]at hf ⊢;have hf':aoQ bs.length r.reverse:=fun y hy=>hf y (List.mem_append_left _ hy);have hx:=hf x (by simp);have hlen:=abR r.reverse bs hf';rw[ahj,ahm];by_cases h:x.1=i
  · rw[if_pos h,<-h];exact aq8 _ x (by rw[hlen];exact hx.1) hx.2
  · rw[if_neg h,aoU _ x i (by rw[hlen];exact hx.1) hx.2 h];exact ih hf'
theorem ac6 (z:List UInt8) (p:Nat) (b:List UInt8) (j i:Nat):abv z (agf p b j) i=if p<=i/\i<p+j then age b (i-p) else abv z [] i:=by
 induction j with
 | zero=>rw[if_neg (by omega)];rfl
 | succ j ih=>
  rw[ajq,ahm,ih];by_cases h:p+j=i
  · rw[if_pos h,if_pos (by omega),show i-p=j by omega]
  · rw[if_neg h];by_cases h2:p<=i/\i<p+j
    · rw[if_pos h2,if_pos (by omega)]
    · rw[if_neg h2,if_neg (by omega)]
theorem agj{bs bs':List UInt8}{l l':List (Nat × List UInt8)}(p j:Nat) (h:∀i,i<j->abv bs l (p+i)=abv bs' l' (p+i)):adn bs l p j=adn bs' l' p j:=by
 induction j with
 | zero=>rfl
 | succ j ih=>rw[ac5,ac5,ih (fun i hi=>h i (by omega)),h j (by omega)]
theorem am4 (z:List UInt8) (p:Nat) (b:List UInt8) (K:Nat):adn z (agf p b K) p K=aeK b K:=by
 have:∀j,j<=K->adn z (agf p b K) p j=aeK b j:=fun j=>by
  induction j with
  | zero=>intro _;rfl
  | succ j ih=>
   intro hj;rw[ac5,agi,ih (by omega),ac6,if_pos (by omega)];congr 2;omega
 exact this K (Nat.le_refl _)
theorem aoW{w:World}{base n c:Nat}{A:Option Addr}{bs:List UInt8}(h:w.ownsRow base 5 1 (.slice A n c) n (bs.map bv)):n<=c/\c<=maxLen:=by
 rcases h.2 with⟨h',h0⟩ | ⟨_,_,_,h',_,_,h1,h2,_⟩
 · injection h' with _ _ e;rw[h0,e];exact⟨Nat.le_refl _,Nat.zero_le _⟩
 · injection h' with _ _ e;rw[e];exact⟨h1,h2⟩
section
variable {S:Nat->Prop} {w:World} {g:Nat} {L:Option Addr} {cl:Nat} {W:Option Addr} {cw:Nat} {ls ws:List Wr} {left:Int} {off:Bool}
end
def aeL:List Rk->List Value
 | []=> []
 | x::r=> .int .i64 x.o:: .int .i64 x.s:: .bool x.u::aeL r
theorem ajr:∀(l:List Rk) (i:Nat) (x:Rk),l[i]?=some x->(aeL l)[i*3]?=some (.int .i64 x.o)/\(aeL l)[i*3+1]?=some (.int .i64 x.s)/\(aeL l)[i*3+2]?=some (.bool x.u)
 | [],_,_,h=>by simp at h
 | y::r,0,x,h=>by
  simp at h;subst h;exact⟨rfl,rfl,rfl⟩
 | y::r,i+1,x,h=>by
  have:=ajr r i x (by simpa using h);have e:(i+1)*3=i*3+1+1+1:=by omega
  rw[e];exact⟨by simpa[aeL]using this.1,by simpa[aeL]using this.2.1,by simpa[aeL]using this.2.2⟩
def auL (l:List Rk):Prop:=∀x∈l,(0<=x.o/\x.o<=1000000000)/\(0<=x.s/\x.s<=20000)
section
variable {B g n:Nat} {N:Int} {A1 A2:Option Addr} {c1 c2:Nat} {l:List Rk} {d:List (List UInt8)} {xs:List Value} {w w3 w4 w':World}
theorem ajs{w:World}{B c:Nat}{A:Option Addr}{l:List Rk}(h:w.ownsRow B 112 3 (.slice A l.length c) l.length (aeL l)) (hl:auL l):RkRd w w.heap.size A l:=fun hn=>by
 rcases h.2 with⟨hv,h0⟩ | ⟨b,cap,cur,hv,hbg,hg,hnc,hcm,hsz,htk⟩
 · omega
 · injection hv with e1 e2 e3;subst e1;refine⟨b,0,rfl,aab hg,fun j x hx=> ?_⟩;have hj:j<l.length:=(List.getElem?_eq_some_iff.1 hx).1;obtain⟨q0,q1,q2⟩:=ajr l j x hx;have hb:=hl x (List.mem_of_getElem? hx);have hc:∀(i:Nat) (v:Value),i<l.length*3->(aeL l)[i]?=some v->w.cell? ⟨b,i,none⟩=some v:=fun i v hi hv=>by
    rw[cell_of_row _ _ _ _ _ _ hg];rw[<-htk,List.getElem?_take,if_pos hi]at hv;rw[<-hv];simp
   simp only[Nat.zero_add];exact⟨hc _ _ (by omega) q0,hc _ _ (by omega) q1,hc _ _ (by omega) q2,by omega,by omega⟩
end
section
variable {B g:Nat} {N:Int} {A1 A2:Option Addr} {c1 c2:Nat} {l:List Rk} {d:List (List UInt8)} {xs:List Value} {w:World}
end
def abp (b:List UInt8) (i j:Nat):Bool:=abV ((b.drop j).take 4)==abS 0 ((b.drop i).take (j-i))
def aaO:List UInt8->Nat->Nat->Option (List Rk)
 | _,0,_=>some []
 | b,k+1,o=>match adz (abV (b.take 8))with
  | none=>none
  | some (s,u)=>(aaO (b.drop 8) k (o+s)).map (⟨(o:Int),(s:Int),u⟩:: ·)
def aaH:List Rk->Nat
 | []=>0
 | x::l=>(if x.u then x.s.toNat-16 else 0)+aaH l
def afN:List Rk->List UInt8->List (List UInt8)
 | [],_=> []
 | x::l,b=>if x.u then b.take (x.s.toNat-16)::afN l (b.drop (x.s.toNat-16)) else afN l b
def acK (b:List UInt8):Nat:=abV ((b.drop 8).take 8)
def acQ (b:List UInt8):Nat:=abV ((b.drop 16).take 8)
def ado (b:List UInt8):Nat:=
 if b.length<28 then 3 else if b.take 8≠imMarkB then 3 else if abp b 0 24=false then 9
 else if abT (acK b:Int)=false then 3 else if 1024<acQ b then 3 else 0
def asE (n:Nat) (o:Option (List Rk)):Nat × List Rk:=match o with
 | none=>(3,[])
 | some l=>if abc (n:Int) 184 false l=false then (3,[]) else (0,l)
def abx (b:List UInt8) (n k:Nat):Nat × List Rk:=
 if b.length<32+8*k then (3,[]) else if abp b 28 (28+8*k)=false then (9,[])
 else asE n (aaO (b.drop 28) k 184)
def aem (b:List UInt8) (l:List Rk):Nat × List (List UInt8):=
 if b.length≠32+8*l.length+aaH l+8 then (3,[])
 else if abp b (32+8*l.length) (32+8*l.length+aaH l)=false then (9,[])
 else if abp b 0 (32+8*l.length+aaH l+4)=false then (9,[])
 else (0,afN l (b.drop (32+8*l.length)))
theorem afa:∀{k:Nat}{b:List UInt8}{o:Nat}{l:List Rk},aaO b k o=some l->l.length=k
 | 0,b,o,l,h=>by
  rw[aaO]at h;injection h with h;rw[<-h];rfl
 | k+1,b,o,l,h=>by
  rw[aaO]at h;split at h
  · cases h
  · rename_i s u e
    cases hm:aaO (b.drop 8) k (o+s)with
    | none=>rw[hm]at h;cases h
    | some l'=>
     rw[hm]at h;injection h with h;rw[<-h,List.length_cons,afa hm]
theorem agk:∀{k:Nat}{b:List UInt8}{o:Nat}{l:List Rk},aaO b k o=some l->aaO b (k+1) o=match adz (abV ((b.drop (8*k)).take 8))with
  | none=>none
  | some (s,u)=>some (l++ [⟨((o+(l.map (·.s.toNat)).sum:Nat):Int),(s:Int),u⟩])
 | 0,b,o,l,h=>by
  rw[aaO]at h;injection h with h;subst h;rw[aaO,Nat.mul_zero,List.drop_zero]
  cases hu:adz (abV (b.take 8))with
  | none=>rfl
  | some x=>simp[aaO]
 | k+1,b,o,l,h=>by
  rw[aaO]at h;split at h
  · cases h
  · rename_i s u e
    cases hm:aaO (b.drop 8) k (o+s)with
    | none=>rw[hm]at h;cases h
    | some l'=>
     rw[hm]at h;injection h with h;subst h;have ih:=agk hm;rw[aaO,e];dsimp only;rw[ih,List.drop_drop,show 8+8*k=8*(k+1) from by omega]
     cases hu:adz (abV ((b.drop (8*(k+1))).take 8))with
     | none=>rfl
     | some x=>simp[Nat.add_assoc]
theorem akN{k:Nat}:∀{j:Nat}{b:List UInt8}{o:Nat},aaO b k o=none->aaO b (k+j) o=none:=by
 induction k with
 | zero=>intro j b o h;rw[aaO]at h;cases h
 | succ k ih=>
  intro j b o h;rw[show k+1+j=(k+j)+1 from by omega];rw[aaO]at h ⊢;split at h
  · rfl
  · rename_i s u e
    cases hm:aaO (b.drop 8) k (o+s)with
    | none=>rw[ih hm];rfl
    | some l'=>rw[hm]at h;cases h
theorem asF{a m:List UInt8}(h:a≠m):((amG a).toList==m)=false:=by
 unfold amG;rw[beq_eq_false_iff_ne];simpa using h
def asG (b:List UInt8):Value:=if ado b=0 then .tuple #[.int .i64 (acK b:Int), .int .i64 (acQ b:Int), .nilIface] else .tuple #[.int .i64 0, .int .i64 0, .iface 130 (.int .i64 (ado b:Int))]
theorem am5 (w:World) (A:Option Addr) (n c B:Nat) (b:List UInt8) (hr:Rd w B A n b) (hnc:n<=c) (hc:c<=9223372036854775807) (hn:n<=900000):
 Calls Tryz.prog 275 #[.slice A n c] w fun e w'=>e= .returned (asG b)/\w=w':=by
 have hbl:b.length=n:=hr.1;unfold asG ado;rw[hbl];by_cases h28:n<28
 · rw[if_pos h28];have g1:decide (n<28)=true:=decide_eq_true h28;clear hr hbl;go_enter Tryz.func275,Tryz.ntmps275
   go_wp2
   go_ret3
   exact⟨rfl,rfl⟩
 rw[if_neg h28];have g1:decide (n<28)=false:=decide_eq_false h28;by_cases hm:b.take 8≠imMarkB
 · rw[if_pos hm];obtain⟨g,off,rfl,_⟩:=hr.2 (by omega);obtain⟨sx,hsx⟩:=nmE (amG (b.take 8));have q1:(convert 37 9 (.slice (some ⟨g,off,none⟩) 8 c)).run Tryz.prog w= .ok (.string sx) w:=by
    have h:=hr.sub 0 8 (by omega);rw[List.drop_zero,Nat.add_zero]at h;rw[<-hsx];exact adG (c:=c) h
   have e1:=asF hm;rw[hsx]at e1;unfold imMarkB at e1;have g3:(8:Int)<=(c:Int):=by omega
   clear hr hbl hm hsx;go_enter Tryz.func275,Tryz.ntmps275
   go_wp2
   go_ret3
   exact⟨rfl,rfl⟩
 have hm':b.take 8=imMarkB:=Decidable.byContradiction hm;rw[if_neg hm];by_cases hs:abp b 0 24=false
 · rw[if_pos hs];have HS:=hE0 (ack w A n c B b 0 24 hr hnc hc hn (by omega) (by omega) false hs);obtain⟨g,off,rfl,_⟩:=hr.2 (by omega);have q1:(convert 37 9 (.slice (some ⟨g,off,none⟩) 8 c)).run Tryz.prog w= .ok (.string ⟨#[67,78,84,76,1,0,0,0]⟩) w:=by
    have h:=hr.sub 0 8 (by omega);rw[List.drop_zero,hm',Nat.add_zero]at h;have h2:=adG (c:=c) h;rw[akE]at h2;exact h2
   have g3:(8:Int)<=(c:Int):=by omega
   clear hr hbl hm hm' hs;go_enter Tryz.func275,Tryz.ntmps275
   go_wp2_with fail
   refine HS.out.mono ?_;rintro e w2 ⟨rfl,rfl⟩;go_wp2
   go_ret3
   exact⟨rfl,rfl⟩
 have hs':abp b 0 24=true:=by simpa using hs
 rw[if_neg hs];by_cases hl:abT (acK b:Int)=false\/1024<acQ b
 · have e:(if (if abT (acK b:Int)=false then 3 else if 1024<acQ b then 3 else 0)=0 then Value.tuple #[.int .i64 (acK b:Int), .int .i64 (acQ b:Int), .nilIface] else .tuple #[.int .i64 0, .int .i64 0, .iface 130 (.int .i64 (((if abT (acK b:Int)=false then 3 else if 1024<acQ b then 3 else 0):Nat):Int))])= .tuple #[.int .i64 0, .int .i64 0, .iface 130 (.int .i64 3)]:=by
    rcases hl with hl | hl
    · rw[if_pos hl];rfl
    · rw[if_pos hl];split<;>rfl
   rw[e];have HS:=hE0 (ack w A n c B b 0 24 hr hnc hc hn (by omega) (by omega) true hs');have HG1:=hE0 (adD A n c B b 8 w hr hnc (by omega) (by omega));have HG2:=hE0 (adD A n c B b 16 w hr hnc (by omega) (by omega));unfold acK acQ at hl;have hN2:abV ((b.drop 8).take 8)<18446744073709551616:=adB _ (List.length_take_le _ _);have hK2:abV ((b.drop 16).take 8)<18446744073709551616:=adB _ (List.length_take_le _ _);obtain⟨N,hN⟩:=nmE (abV ((b.drop 8).take 8));obtain⟨K,hK⟩:=nmE (abV ((b.drop 16).take 8));rw[hN]at HG1 hl hN2;rw[hK]at HG2 hl hK2;obtain⟨g,off,rfl,_⟩:=hr.2 (by omega);have q1:(convert 37 9 (.slice (some ⟨g,off,none⟩) 8 c)).run Tryz.prog w= .ok (.string ⟨#[67,78,84,76,1,0,0,0]⟩) w:=by
    have h:=hr.sub 0 8 (by omega);rw[List.drop_zero,hm',Nat.add_zero]at h;have h2:=adG (c:=c) h;rw[akE]at h2;exact h2
   have g3:(8:Int)<=(c:Int):=by omega
   clear hr hbl hm hm' hs hs' hN hK e;obtain⟨y,hy⟩:=nmE (abT (N:Int));have HL:=hE0 (agc w N hN2 y hy);rw[hy]at hl;clear hy
   cases y with
   | false=>
    clear hl;go_enter Tryz.func275,Tryz.ntmps275
    go_wp2_with fail
    refine HS.out.mono ?_;rintro e w2 ⟨rfl,rfl⟩;go_wp2_with fail
    refine HG1.out.mono ?_;rintro e w2 ⟨rfl,rfl⟩;go_wp2_with fail
    refine HG2.out.mono ?_;rintro e w2 ⟨rfl,rfl⟩;go_wp2_with fail
    refine HL.out.mono ?_;rintro e w2 ⟨rfl,rfl⟩;go_wp2
    go_ret3
    exact⟨rfl,rfl⟩
   | true=>
    have hk:1024<K:=hl.resolve_left (by simp);have g2:decide (1024<K)=true:=decide_eq_true hk;clear hl;go_enter Tryz.func275,Tryz.ntmps275
    go_wp2_with fail
    refine HS.out.mono ?_;rintro e w2 ⟨rfl,rfl⟩;go_wp2_with fail
    refine HG1.out.mono ?_;rintro e w2 ⟨rfl,rfl⟩;go_wp2_with fail
    refine HG2.out.mono ?_;rintro e w2 ⟨rfl,rfl⟩;go_wp2_with fail
    refine HL.out.mono ?_;rintro e w2 ⟨rfl,rfl⟩;go_wp2
    go_ret3
    exact⟨rfl,rfl⟩
 have hl1:abT (acK b:Int)=true:=by
  cases h:abT (acK b:Int)with
  | true=>rfl
  | false=>exact absurd (Or.inl h) hl
 have hl2:acQ b<=1024:=by
  refine Nat.le_of_not_lt fun h=>hl (Or.inr h)
 have e:(if abT (acK b:Int)=false then 3 else if 1024<acQ b then 3 else 0)=0:=by rw[hl1,if_neg (by simp),if_neg (by omega)]
 rw[e,if_pos rfl];exact aoz w A n c B b hr hnc hc hn (by omega) hm' hs' _ _ rfl rfl hl1 hl2
def RkC (cs:Array Value) (l:List Rk):Prop:=∀j x,l[j]?=some x->cs[j*3]?=some (.int .i64 x.o)/\cs[j*3+1]?=some (.int .i64 x.s)/\cs[j*3+2]?=some (.bool x.u)/\
 (-9223372036854775808<=x.o/\x.o<=9223372036854775807)/\(-9223372036854775808<=x.s/\x.s<=9223372036854775807)
theorem RkC.rd{w:World}{g:Nat}{cs:Array Value}{t:TypeId}{l:List Rk}(h:RkC cs l) (hg:w.heap[g]?=some (.cells cs t (0,0))):RkRd w w.heap.size (some ⟨g,0,none⟩) l:=fun _=>by
 refine⟨g,0,rfl,aab hg,fun j x hx=> ?_⟩;obtain⟨h0,h1,h2,h3⟩:=h j x hx;simp only[Nat.zero_add];exact⟨(cell_of_row _ _ _ _ _ _ hg).trans h0,(cell_of_row _ _ _ _ _ _ hg).trans h1,(cell_of_row _ _ _ _ _ _ hg).trans h2,h3⟩
theorem RkC.snoc{cs:Array Value}{l:List Rk}{k:Nat}(h:RkC cs l) (hs:cs.size=3*k) (hl:l.length<k) (o s:Int) (u:Bool) (ho: -9223372036854775808<=o/\o<=9223372036854775807) (hsb: -9223372036854775808<=s/\s<=9223372036854775807):
 RkC (((cs.setIfInBounds (l.length*3) (.int .i64 o)).setIfInBounds (l.length*3+1) (.int .i64 s)).setIfInBounds (l.length*3+2) (.bool u)) (l++ [⟨o,s,u⟩]):=by
 intro j x hx;by_cases hj:j<l.length
 · rw[List.getElem?_append_left hj]at hx;obtain⟨h0,h1,h2,h3⟩:=h j x hx;simp only[Array.getElem?_setIfInBounds];rw[if_neg (by omega),if_neg (by omega),if_neg (by omega),if_neg (by omega),if_neg (by omega),if_neg (by omega),if_neg (by omega),if_neg (by omega),if_neg (by omega)];exact⟨h0,h1,h2,h3⟩
 · rw[List.getElem?_append_right (by omega)]at hx;have e:j=l.length:=by
    have:=(List.getElem?_eq_some_iff.1 hx).1;simp at this;omega
   subst e;simp at hx;subst hx;simp only[Array.getElem?_setIfInBounds];simp[hs];refine⟨?_,?_,?_,ho,hsb⟩<;>omega
theorem asH (W:World) (k:Nat) (hk:k<=1024):∃cs,cs.size=3*k/\(Instr.makeSlice 56 (.int .i64 (k:Int)) (.int .i64 (k:Int))).run Tryz.prog W= .ok (.slice (some ⟨W.heap.size,0,none⟩) k k) (W.alloc (.cells cs 112)):=by
 obtain⟨i0,hi,hz0,hz1,hz2⟩:=info_parts asB;have h:=run_makeSlice (P:=Tryz.prog) W 56 112 i0 _ Tryz.underlying56 hi hz0 .i64 .i64 k k (by omega) (by omega) (by rw[hz1];omega) (by rw[hz2];omega) (by omega);refine⟨_,?_,h⟩;rw[size_madeCells,hz1];omega
def atI (x:Nat × List Rk) (A:Option Addr):Value:=if x.1=0 then .tuple #[.slice A x.2.length x.2.length, .nilIface] else .tuple #[.slice none 0 0, .iface 130 (.int .i64 (x.1:Int))]
theorem aq9{w:World}{g i k:Nat}{cs:Array Value}{t:TypeId}(hg:w.heap[g]?=some (.cells cs t (0,0))) (hs:cs.size=3*k) (hi:i<k):
 (∃y,w.cell? ⟨g,i*3,none⟩=some y)/\(∃y,w.cell? ⟨g,i*3+1,none⟩=some y)/\(∃y,w.cell? ⟨g,i*3+2,none⟩=some y)/\
 w.frozen? ⟨g,i*3,none⟩=false/\w.frozen? ⟨g,i*3+1,none⟩=false/\w.frozen? ⟨g,i*3+2,none⟩=false:=
 ⟨⟨_,(cell_of_row _ _ _ _ _ _ hg).trans (Array.getElem?_eq_getElem (by omega))⟩,⟨_,(cell_of_row _ _ _ _ _ _ hg).trans (Array.getElem?_eq_getElem (by omega))⟩,⟨_,(cell_of_row _ _ _ _ _ _ hg).trans (Array.getElem?_eq_getElem (by omega))⟩,
  frozen_of_row w g _ _ _ hg,frozen_of_row w g _ _ _ hg,frozen_of_row w g _ _ _ hg⟩
theorem aoX{w:World}{g i:Nat}{cs:Array Value}{t:TypeId}(hg:w.heap[g]?=some (.cells cs t (0,0))) (x0 x1 x2:Value):
 (((w.setCell ⟨g,i*3,none⟩ x0).setCell ⟨g,i*3+1,none⟩ x1).setCell ⟨g,i*3+2,none⟩ x2).heap[g]?=some (.cells (((cs.setIfInBounds (i*3) x0).setIfInBounds (i*3+1) x1).setIfInBounds (i*3+2) x2) t (0,0)):=by
 have h1:=heap_setCell_same w g (i*3) _ _ x0 hg;have h2:=heap_setCell_same _ g (i*3+1) _ _ x1 h1;exact heap_setCell_same _ g (i*3+2) _ _ x2 h2
theorem ajt (w:World) (A:Option Addr) (n c B N k:Nat) (b:List UInt8) (hr:Rd w B A n b) (hBw:B<=w.heap.size) (hnc:n<=c) (hc:c<=9223372036854775807) (hn:n<=900000) (hN:abT (N:Int)=true) (hk:k<=1024):
 Calls Tryz.prog 276 #[.slice A n c, .int .i64 (N:Int), .int .i64 (k:Int)] w fun e w'=>∃A2,e= .returned (atI (abx b N k) A2)/\RkRd w' w'.heap.size A2 (abx b N k).2/\Below w.heap.size w w':=by
 have hbl:b.length=n:=hr.1;have HT:=hE0 (fun W (j:Nat) (hj:j<=1024)=>aib W j (by omega));have hT:=(HT.out w k hk);obtain⟨E,hE⟩:=nmE (28+k*8);rw[hE]at hT;have hEb:E<=10000:=by omega
 unfold abx;rw[hbl,show 32+8*k=E+4 from by omega,show 28+8*k=E from by omega];by_cases h1:n<E+4
 · rw[if_pos h1];have g1:decide (n<E+4)=true:=decide_eq_true h1;have g1':decide ((n:Int)<(E:Int)+4)=true:=decide_eq_true (by omega);clear HT hr hbl hE;go_enter Tryz.func276,Tryz.ntmps276
   go_wp2_with fail
   refine hT.mono ?_;rintro e w2 ⟨rfl,rfl⟩;go_wp2
   go_ret2
   exact⟨none,rfl,fun h=>absurd h (by simp),Below.refl _ _⟩
 rw[if_neg h1];have g1:decide (n<E+4)=false:=decide_eq_false h1;have g1':decide ((n:Int)<(E:Int)+4)=false:=decide_eq_false (by omega);obtain⟨sy,hsy⟩:∃y,abp b 28 E=y:=⟨_,rfl⟩;have HS:=hE0 (ack w A n c B b 28 E hr hnc hc hn (by omega) (by omega) sy hsy);rw[hsy]
 cases sy with
 | false=>
  rw[if_pos rfl];clear HT hr hbl hE hsy;go_enter Tryz.func276,Tryz.ntmps276
  go_wp2_with fail
  refine hT.mono ?_;rintro e w2 ⟨rfl,rfl⟩;go_wp2_with fail
  refine HS.out.mono ?_;rintro e w2 ⟨rfl,rfl⟩;go_wp2
  go_ret2
  exact⟨none,rfl,fun h=>absurd h (by simp),Below.refl _ _⟩
 | true=>
  rw[if_neg (by simp)];obtain⟨r,hres⟩:=nmE (asE N (aaO (b.drop 28) k 184));rw[hres];have HRES:=hE0 hres;clear hres;obtain⟨cs0,hs0,hmk⟩:=asH w k hk;obtain⟨w1,hw1⟩:=nmE (w.alloc (.cells cs0 112));have hb1:=abE hw1;have n1:=anE hw1;have HR:=hE0 ((hr.more hBw));have HN1:=hE0 n1;have HB1:=hE0 hb1;have HW1:=hE0 hw1;have HS0:=hE0 hs0;obtain⟨h184,h16,_⟩:=(aaR (N:Int)).1 hN;have HEE:=hE0 hE;clear hr hbl hsy hw1 hb1 n1 hN hE;go_enter Tryz.func276,Tryz.ntmps276
  go_wp2_with fail
  refine hT.mono ?_;rintro e w2 ⟨rfl,rfl⟩;go_wp2_with fail
  refine HS.out.mono ?_;rintro e w2 ⟨rfl,rfl⟩;go_wp2_with (first | (rw[HW1.out]) | fail)
  go_loopw [10,34] (fun o t wr=>∃(j:Nat) (l:List Rk) (cs:Array Value) (z:Nat),o= .int .i64 (z:Int)/\t= .int .i64 (j:Int)/\j<=k/\z=184+(l.map (·.s.toNat)).sum/\z<=184+20000*j/\aaO (b.drop 28) j 184=some l/\wr.heap[w.heap.size]?=some (.cells cs 112 (0,0))/\cs.size=3*k/\RkC cs l/\Below w.heap.size w wr) (fun _ t _=>k-(intOf t).toNat)
  case atStart=>exact⟨0,[],cs0,184,rfl,rfl,Nat.zero_le _,rfl,by omega,rfl,HN1.out,HS0.out,fun j x hx=>by simp at hx,HB1.out⟩
  case round=>
   obtain⟨j,l,cs,z,rfl,rfl,hj,hz,hzb,hbk,hg,hsz,hrk,hb⟩:=hrel;have hll:=afa hbk;by_cases hlt:j<k
   · have hT2:=HT.out wr j (by omega);obtain⟨p,hp⟩:=nmE (28+j*8);rw[hp]at hT2;have hG:=adD A n c w.heap.size b p wr (HR.out.below hb) hnc (by omega) (by have:=HEE.out;omega);have hv:abV ((b.drop p).take 8)<18446744073709551616:=adB _ (List.length_take_le _ _);have hsn:=agk hbk;rw[List.drop_drop,show 28+8*j=p from by omega]at hsn;obtain⟨v,hvv⟩:=nmE (abV ((b.drop p).take 8));rw[hvv]at hG hv hsn;have hU:=abg (w:=wr) v hv;obtain⟨un,hun⟩:=nmE (adz v);rw[hun]at hU hsn;have HG:=hE0 hG;have HU:=hE0 hU;have HT2:=hE0 hT2;have HSN:=hE0 hsn;have HB:=hE0 hb;have hp2:p<=10000:=by omega
     clear hG hU hT2 hsn hb hvv hv
     cases un with
     | none=>
      have HE0:Hid (aaO (b.drop 28) k 184=none):=(show _=none by
       have h:=akN (j:=k-(j+1)) HSN.out;rw[show j+1+(k-(j+1))=k from by omega]at h;exact h)
      have HR3:Hid (r=(3,[])):=(show _=_ by rw[<-HRES.out,HE0.out];rfl);clear HSN hbk hg hsz hrk hz hll hun hp;unfold aoc at HU;go_wp2_with fail
      refine HT2.out.mono ?_;rintro e w2 ⟨rfl,rfl⟩;go_wp2_with fail
      refine HG.out.mono ?_;rintro e w2 ⟨rfl,rfl⟩;go_wp2_with fail
      refine HU.out.mono ?_;rintro e w2 ⟨rfl,rfl⟩;go_wp2
      go_ret2
      exact⟨none,by rw[HR3.out];rfl,by rw[HR3.out];exact fun h=>absurd h (by simp),HB.out⟩
     | some x=>
      obtain⟨s,u⟩:=x;have hs3:=(aac _).1 (acV hun).1;have hsn:=HSN.out;dsimp only at hsn;rw[<-hz]at hsn;have HRK:=hE0 (hrk.snoc hsz (by omega) (z:Int) (s:Int) u (by omega) (by omega));have HGG:=hE0 (aoX (i:=j) hg (.int .i64 (z:Int)) (.int .i64 (s:Int)) (.bool u));obtain⟨⟨y0,c0⟩,⟨y1,c1⟩,⟨y2,c2⟩,f0,f1,f2⟩:=aq9 hg hsz hlt;rw[hll]at HRK;have HZ:Hid (((z+s:Nat))=184+((l++ [(⟨(z:Int),(s:Int),u⟩:Rk)]).map (·.s.toNat)).sum):=(show _=_ by
       simp[hz,Nat.add_assoc])
      have HSNN:=hE0 hsn;have HSZ:=hE0 hsz;have hgl:=aab hg;have HBS:=hE0 (((HB.out.setCell (p:=⟨w.heap.size,j*3,none⟩) (Nat.le_refl _) (.int .i64 (z:Int))).setCell (p:=⟨w.heap.size,j*3+1,none⟩) (Nat.le_refl _) (.int .i64 (s:Int))).setCell (p:=⟨w.heap.size,j*3+2,none⟩) (Nat.le_refl _) (.bool u));clear HSN hbk hg hsz hrk hz hll hun hsn hp;unfold aoc at HU;go_wp2_with fail
      refine HT2.out.mono ?_;rintro e w2 ⟨rfl,rfl⟩;go_wp2_with fail
      refine HG.out.mono ?_;rintro e w2 ⟨rfl,rfl⟩;go_wp2_with fail
      refine HU.out.mono ?_;rintro e w2 ⟨rfl,rfl⟩;go_wp2
      go_roundw
      case rel=>exact⟨j+1,_,_,z+s,by go_num,by go_num,by omega,HZ.out,by omega,HSNN.out,HGG.out,by simp[HSZ.out],HRK.out,HBS.out⟩
      case measure=>simp only[intOf];omega
   · have e:j=k:=by omega
     subst e;have hrd:=hrk.rd hg;have HRD:=hE0 hrd;obtain⟨y,hy⟩:=nmE (abc (N:Int) 184 false l);have HROW:=hE0 (aji wr (some ⟨w.heap.size,0,none⟩) j l hrd (by omega) (N:Int) ⟨h184,h16⟩ y hy);rw[hll]at HROW;have HB:=hE0 hb;have hres:=HRES.out;rw[hbk]at hres;unfold asE at hres;dsimp only at hres;rw[hy]at hres;have HR3:=hE0 hres;clear hres;have HLL:=hE0 hll;clear hrd hy hb hbk hrk hg hsz hz hll
     cases y with
     | false=>
      go_wp2_with fail
      refine HROW.out.mono ?_;rintro e w3 ⟨rfl,hb3⟩;have HF:=hE0 (HB.out.trans (hb3.mono HB.out.size));clear hb3;go_wp2
      go_ret2
      have e:r=(3,[]):=by rw[<-HR3.out];rfl
      exact⟨none,by rw[e];rfl,by rw[e];exact fun h=>absurd h (by simp),HF.out⟩
     | true=>
      go_wp2_with fail
      refine HROW.out.mono ?_;rintro e w3 ⟨rfl,hb3⟩;have HF:=hE0 (HB.out.trans (hb3.mono HB.out.size));have HRF:=hE0 ((HRD.out.below hb3).more hb3.size);clear hb3;go_wp2
      go_ret2
      have e:r=(0,l):=by rw[<-HR3.out];rfl
      exact⟨some ⟨w.heap.size,0,none⟩,by rw[e];unfold atI;rw[if_pos rfl];dsimp only;rw[HLL.out];rfl,by rw[e];exact HRF.out,HF.out⟩
def atU (x:Nat × List (List UInt8)) (A:Option Addr) (c:Nat):Value:=if x.1=0 then .tuple #[.slice A x.2.length c, .nilIface] else .tuple #[.slice none 0 0, .iface 130 (.int .i64 (x.1:Int))]
theorem aif:∀{l:List Rk},(∀x∈l,aaD x.s=true)->aaH l<=20000*l.length
 | [],_=>Nat.le_refl _
 | x::l,h=>by
  have h1:=aif fun y hy=>h y (List.mem_cons_of_mem _ hy);have h2:=(aac _).1 (h x List.mem_cons_self);unfold aaH;rw[List.length_cons];split<;>omega
theorem aig{s:Int}(h:aaD s=true):∃q:Nat,s=((q+16:Nat):Int)/\s.toNat-16=q/\q<=20000:=by
 have h2:=(aac _).1 h;exact⟨s.toNat-16,by omega,rfl,by omega⟩
theorem am6 (w:World) (A A2:Option Addr) (n c B k2:Nat) (b:List UInt8) (l:List Rk) (hr:Rd w B A n b) (hnc:n<=c) (hc:c<=9223372036854775807) (hn:n<=900000) (hl:RkRd w w.heap.size A2 l) (hBw:B<=w.heap.size) (hll:l.length<=1024) (hs:∀x∈l,aaD x.s=true) (hbad:(aem b l).1≠0):
 Calls Tryz.prog 277 #[.slice A n c, .slice A2 l.length k2] w fun e w'=>e= .returned (atU (aem b l) none 0)/\(aem b l).2= []/\Below w.heap.size w w':=by
 have hbl:b.length=n:=hr.1;have hh:=aif hs;obtain⟨D,hD⟩:=nmE (aem b l);rw[hD]at hbad ⊢;unfold aem at hD;rw[hbl]at hD;obtain⟨m,hm⟩:=nmE l.length;rw[hm]at hll hh hD ⊢;obtain⟨E,hE⟩:=nmE (28+m*8);obtain⟨T,hT⟩:=nmE (E+4+aaH l);have hTE:E+4<=T:=by omega
 rw[show 32+8*m=E+4 from by omega,hT]at hD;have HT:=aib w m (by omega);rw[hE]at HT;have HTT:=hE0 HT;have HR:=hE0 (hr.more hBw);have HL:=hE0 hl;have HSZ:=hE0 hs;have HM:=hE0 hm;have HTL:=hE0 hT;have hEb:E<=10000:=by omega
 have hTb:T<=30000000:=by omega
 have HDD:=hE0 hD;clear hr hl hs hm hT HT hD hE hh hbl;go_enter Tryz.func277,Tryz.ntmps277
 go_wp2_with fail
 refine HTT.out.mono ?_;rintro e w2 ⟨rfl,rfl⟩;go_wp2_with fail
 go_loopw [7,20] (fun o t wr=>∃(j z:Nat),o= .int .i64 (z:Int)/\t= .int .i64 (j:Int)/\j<=m/\z+aaH (l.drop j)=T/\Below w.heap.size w wr) (fun _ t _=>m-(intOf t).toNat)
 case atStart=>exact⟨0,E+4,by go_num,rfl,Nat.zero_le _,HTL.out,Below.refl _ _⟩
 case round=>
  obtain⟨j,z,rfl,rfl,hj,hz,hb⟩:=hrel;have hzT:z<=T:=by omega
  by_cases hlt:j<m
  · obtain⟨x,hx⟩:∃x,l[j]?=some x:=⟨l[j]'(by rw[HM.out];exact hlt),List.getElem?_eq_getElem _⟩;obtain⟨b2,o,rfl,hbb,hcl⟩:=HL.out (by rw[HM.out];omega);obtain⟨p0,p1,p2,hxo,hxs⟩:=hcl j x hx;have r0:=(hb.cell (p:=⟨b2,o+j*3,none⟩) hbb).trans p0;have r1:=(hb.cell (p:=⟨b2,o+j*3+1,none⟩) hbb).trans p1;have r2:=(hb.cell (p:=⟨b2,o+j*3+2,none⟩) hbb).trans p2;have hsx:=HSZ.out x (List.mem_of_getElem? hx);rw[adM hx]at hz;unfold aaH at hz;obtain⟨xo,xs,xu⟩:=x;dsimp only at p0 p1 p2 r0 r1 r2 hz hxo hxs hsx;obtain⟨q,hq1,hq2,hq3⟩:=aig hsx;have hxb:16<=xs/\xs<=20016:=by omega
    rw[hq2]at hz;obtain⟨w4,hw4⟩:=nmE (wr.alloc (.cells #[.int .i64 xo, .int .i64 xs, .bool xu] 112));have hb4:Below w.heap.size w w4:=by rw[<-hw4];exact hb.alloc hb.size _
    have n4:=anE hw4;obtain⟨d0,d1,d2⟩:=aal n4;have hl4:=aab n4;have HHELD:=hE0 (ac4 w4 xo xs xu hsx);have HW4:=hE0 hw4;have HB4:=hE0 hb4;have HZ:=hE0 hz;clear hx hb p0 p1 p2 hb4 n4 hw4 hcl hz
    cases xu with
    | false=>
     have HF:Hid (z+aaH (l.drop (j+1))=T):=(show _=T by have:=HZ.out;simpa using this);clear hq1 hq2;go_wp2_with (first | (rw[HW4.out]) | fail)
     go_roundw
     case rel=>exact⟨j+1,z,rfl,by go_num,by omega,HF.out,HB4.out⟩
     case measure=>simp only[intOf];omega
    | true=>
     have HF:Hid (z+q+aaH (l.drop (j+1))=T):=(show _=T by have:=HZ.out;rw[if_pos rfl]at this;omega);have HQ:=hE0 hq1;clear hq1 hq2;go_wp2_with (first | (rw[HW4.out]) | fail)
     refine HHELD.out.mono ?_;rintro e w5 ⟨rfl,hb5⟩;have HB5:=hE0 (HB4.out.trans (hb5.mono HB4.out.size));clear hb5;go_wp2_with fail
     go_roundw
     case rel=>exact⟨j+1,z+q,by have:=HQ.out;go_num,by go_num,by omega,HF.out,HB5.out⟩
     case measure=>simp only[intOf];omega
  · have hd:l.drop j= []:=List.drop_eq_nil_of_le (by rw[HM.out];omega);rw[hd]at hz;have hz2:z=T:=hz;subst hz2;have HB:=hE0 hb;have hR:=HR.out.below hb;have hDD:=HDD.out;clear hb hz hd;by_cases h1:n≠z+8
    · rw[if_pos h1]at hDD;have g1:((n:Int) !=(z:Int)+8)=true:=by rw[bne_iff_ne];omega
      have HD3:=hE0 hDD;clear hDD hR;go_wp2
      go_ret2
      exact⟨by rw[<-HD3.out];rfl,by rw[<-HD3.out],HB.out⟩
    · rw[if_neg h1]at hDD;have h1':n=z+8:=Decidable.byContradiction h1;have g1:((n:Int) !=(z:Int)+8)=false:=by rw[bne_eq_false_iff_eq];omega
      obtain⟨y1,hy1⟩:∃y,abp b (E+4) z=y:=⟨_,rfl⟩;obtain⟨y2,hy2⟩:∃y,abp b 0 (z+4)=y:=⟨_,rfl⟩;rw[hy1,hy2]at hDD;have HS1:=hE0 (ack wr A n c w.heap.size b (E+4) z hR hnc hc hn (by omega) (by omega) y1 hy1);have HS2:=hE0 (ack wr A n c w.heap.size b 0 (z+4) hR hnc hc hn (by omega) (by omega) y2 hy2);rw[show((E+4:Nat):Int)=(E:Int)+4 from by omega]at HS1;rw[show((z+4:Nat):Int)=(z:Int)+4 from by omega]at HS2;have HD3:=hE0 hDD;clear hDD hR hy1 hy2 h1 h1'
      cases y1 with
      | false=>
       go_wp2_with fail
       refine HS1.out.mono ?_;rintro e w5 ⟨rfl,rfl⟩;go_wp2
       go_ret2
       exact⟨by rw[<-HD3.out];rfl,by rw[<-HD3.out];rfl,HB.out⟩
      | true=>
       cases y2 with
       | false=>
        go_wp2_with fail
        refine HS1.out.mono ?_;rintro e w5 ⟨rfl,rfl⟩;go_wp2_with fail
        refine HS2.out.mono ?_;rintro e w5 ⟨rfl,rfl⟩;go_wp2
        go_ret2
        exact⟨by rw[<-HD3.out];rfl,by rw[<-HD3.out];rfl,HB.out⟩
       | true=>
        exact absurd (by rw[<-HD3.out];rfl) hbad
theorem aoY (w:World) (A A2:Option Addr) (n c B k2:Nat) (b:List UInt8) (l:List Rk) (hr:Rd w B A n b) (hnc:n<=c) (hc:c<=9223372036854775807) (hn:n<=900000) (hl:RkRd w w.heap.size A2 l) (hBw:B<=w.heap.size) (hll:l.length<=1024) (hs:∀x∈l,aaD x.s=true) (hbad:(aem b l).1=0):
 Calls Tryz.prog 277 #[.slice A n c, .slice A2 l.length k2] w fun e w'=>∃A3 c3,e= .returned (atU (aem b l) A3 c3)/\(∃xs,w'.ownsRow w.heap.size 37 1 (.slice A3 (aem b l).2.length c3) (aem b l).2.length xs/\DtO w' (aem b l).2 xs)/\Below w.heap.size w w':=by
 have hbl:b.length=n:=hr.1;have hh:=aif hs;obtain⟨D,hD⟩:=nmE (aem b l);rw[hD]at hbad ⊢;unfold aem at hD;rw[hbl]at hD;obtain⟨m,hm⟩:=nmE l.length;rw[hm]at hll hh hD ⊢;obtain⟨E,hE⟩:=nmE (28+m*8);obtain⟨T,hT⟩:=nmE (E+4+aaH l);have hTE:E+4<=T:=by omega
 rw[show 32+8*m=E+4 from by omega,hT]at hD;have HT:=aib w m (by omega);rw[hE]at HT;have HTT:=hE0 HT;have HR:=hE0 (hr.more hBw);have HL:=hE0 hl;have HSZ:=hE0 hs;have HM:=hE0 hm;have HTL:=hE0 hT;have hEb:E<=10000:=by omega
 have hTb:T<=30000000:=by omega
 have HDD:=hE0 hD;clear hr hl hs hm hT HT hD hE hh hbl;go_enter Tryz.func277,Tryz.ntmps277
 go_wp2_with fail
 refine HTT.out.mono ?_;rintro e w2 ⟨rfl,rfl⟩;go_wp2_with fail
 go_loopw [7,20] (fun o t wr=>∃(j z:Nat),o= .int .i64 (z:Int)/\t= .int .i64 (j:Int)/\j<=m/\z+aaH (l.drop j)=T/\Below w.heap.size w wr) (fun _ t _=>m-(intOf t).toNat)
 case atStart=>exact⟨0,E+4,by go_num,rfl,Nat.zero_le _,HTL.out,Below.refl _ _⟩
 case round=>
  obtain⟨j,z,rfl,rfl,hj,hz,hb⟩:=hrel;have hzT:z<=T:=by omega
  by_cases hlt:j<m
  · obtain⟨x,hx⟩:∃x,l[j]?=some x:=⟨l[j]'(by rw[HM.out];exact hlt),List.getElem?_eq_getElem _⟩;obtain⟨b2,o,rfl,hbb,hcl⟩:=HL.out (by rw[HM.out];omega);obtain⟨p0,p1,p2,hxo,hxs⟩:=hcl j x hx;have r0:=(hb.cell (p:=⟨b2,o+j*3,none⟩) hbb).trans p0;have r1:=(hb.cell (p:=⟨b2,o+j*3+1,none⟩) hbb).trans p1;have r2:=(hb.cell (p:=⟨b2,o+j*3+2,none⟩) hbb).trans p2;have hsx:=HSZ.out x (List.mem_of_getElem? hx);rw[adM hx]at hz;unfold aaH at hz;obtain⟨xo,xs,xu⟩:=x;dsimp only at p0 p1 p2 r0 r1 r2 hz hxo hxs hsx;obtain⟨q,hq1,hq2,hq3⟩:=aig hsx;have hxb:16<=xs/\xs<=20016:=by omega
    rw[hq2]at hz;obtain⟨w4,hw4⟩:=nmE (wr.alloc (.cells #[.int .i64 xo, .int .i64 xs, .bool xu] 112));have hb4:Below w.heap.size w w4:=by rw[<-hw4];exact hb.alloc hb.size _
    have n4:=anE hw4;obtain⟨d0,d1,d2⟩:=aal n4;have hl4:=aab n4;have HHELD:=hE0 (ac4 w4 xo xs xu hsx);have HW4:=hE0 hw4;have HB4:=hE0 hb4;have HZ:=hE0 hz;clear hx hb p0 p1 p2 hb4 n4 hw4 hcl hz
    cases xu with
    | false=>
     have HF:Hid (z+aaH (l.drop (j+1))=T):=(show _=T by have:=HZ.out;simpa using this);clear hq1 hq2;go_wp2_with (first | (rw[HW4.out]) | fail)
     go_roundw
     case rel=>exact⟨j+1,z,rfl,by go_num,by omega,HF.out,HB4.out⟩
     case measure=>simp only[intOf];omega
    | true=>
     have HF:Hid (z+q+aaH (l.drop (j+1))=T):=(show _=T by have:=HZ.out;rw[if_pos rfl]at this;omega);have HQ:=hE0 hq1;clear hq1 hq2;go_wp2_with (first | (rw[HW4.out]) | fail)
     refine HHELD.out.mono ?_;rintro e w5 ⟨rfl,hb5⟩;have HB5:=hE0 (HB4.out.trans (hb5.mono HB4.out.size));clear hb5;go_wp2_with fail
     go_roundw
     case rel=>exact⟨j+1,z+q,by have:=HQ.out;go_num,by go_num,by omega,HF.out,HB5.out⟩
     case measure=>simp only[intOf];omega
  · have hd:l.drop j= []:=List.drop_eq_nil_of_le (by rw[HM.out];omega);rw[hd]at hz;have hz2:z=T:=hz;subst hz2;have HB:=hE0 hb;have hR:=HR.out.below hb;have hDD:=HDD.out;clear hb hz hd;have h1:n=z+8:=by
     refine Decidable.byContradiction fun h=> ?_;rw[if_pos h]at hDD;rw[<-hDD]at hbad;exact absurd hbad (by decide)
    rw[if_neg (fun h=>h h1)]at hDD;have g1:((n:Int) !=(z:Int)+8)=false:=by rw[bne_eq_false_iff_eq];omega
    have hy1:abp b (E+4) z=true:=by
     cases h:abp b (E+4) z with
     | true=>rfl
     | false=>
      rw[h,if_pos rfl]at hDD;rw[<-hDD]at hbad;exact absurd hbad (by decide)
    rw[if_neg (by rw[hy1];simp)]at hDD;have hy2:abp b 0 (z+4)=true:=by
     cases h:abp b 0 (z+4)with
     | true=>rfl
     | false=>
      rw[h,if_pos rfl]at hDD;rw[<-hDD]at hbad;exact absurd hbad (by decide)
    rw[if_neg (by rw[hy2];simp)]at hDD;have HS1:=hE0 (ack wr A n c w.heap.size b (E+4) z hR hnc hc hn (by omega) (by omega) true hy1);have HS2:=hE0 (ack wr A n c w.heap.size b 0 (z+4) hR hnc hc hn (by omega) (by omega) true hy2);rw[show((E+4:Nat):Int)=(E:Int)+4 from by omega]at HS1;rw[show((z+4:Nat):Int)=(z:Int)+4 from by omega]at HS2;obtain⟨F,hF⟩:=nmE (afN l (b.drop (E+4)));rw[hF]at hDD;have HD3:=hE0 hDD;have HFF:=hE0 hF;have HTL2:=hE0 HTL.out;have hzn:z+8<=n:=by omega
    have hEz:E+4<=z:=hTE;obtain⟨g,off,rfl,hgB,_⟩:=HR.out.2 (by omega);clear hDD hR hy1 hy2 h1 hbad HTL hF;go_wp2_with fail
    refine HS1.out.mono ?_;rintro e w5 ⟨rfl,rfl⟩;go_wp2_with fail
    refine HS2.out.mono ?_;rintro e w5 ⟨rfl,rfl⟩;go_wp2_with fail
    have HBr:=HB;clear HB HS1 HS2 HTT;go_loopw [6,10,52] (fun o v t W=>∃(j p:Nat) (d:List (List UInt8)) (xs:List Value) (A3:Option Addr) (c3:Nat),o= .int .i64 (p:Int)/\v= .slice A3 d.length c3/\t= .int .i64 (j:Int)/\j<=m/\E+4<=p/\p+aaH (l.drop j)=z/\d++afN (l.drop j) (b.drop p)=F/\W.ownsRow w.heap.size 37 1 (.slice A3 d.length c3) d.length xs/\DtO W d xs/\d.length<=j/\Below w.heap.size w W) (fun _ _ t _=>m-(intOf t).toNat)
    case atStart=>exact⟨0,E+4,[],[],none,0,by go_num,rfl,rfl,Nat.zero_le _,Nat.le_refl _,HTL2.out,HFF.out,World.ownsRow_nil _ _ _ _,fun i y h=>by simp at h,Nat.le_refl _,HBr.out⟩
    case round=>
     obtain⟨j,p,d,xs,A3,c3,rfl,rfl,rfl,hj,hp,hpz,hcut,hown,hdo,hdl,hb⟩:=hrel;by_cases hlt:j<m
     · obtain⟨x,hx⟩:∃x,l[j]?=some x:=⟨l[j]'(by rw[HM.out];exact hlt),List.getElem?_eq_getElem _⟩;obtain⟨b2,o,rfl,hbb,hcl⟩:=HL.out (by rw[HM.out];omega);obtain⟨p0,p1,p2,hxo,hxs⟩:=hcl j x hx;have r0:=(hb.cell (p:=⟨b2,o+j*3,none⟩) hbb).trans p0;have r1:=(hb.cell (p:=⟨b2,o+j*3+1,none⟩) hbb).trans p1;have r2:=(hb.cell (p:=⟨b2,o+j*3+2,none⟩) hbb).trans p2;have hsx:=HSZ.out x (List.mem_of_getElem? hx);rw[adM hx]at hpz hcut;unfold aaH at hpz;unfold afN at hcut;obtain⟨xo,xs',xu⟩:=x;dsimp only at p0 p1 p2 r0 r1 r2 hpz hxo hxs hsx hcut;obtain⟨q,hq1,hq2,hq3⟩:=aig hsx;have hxb:16<=xs'/\xs'<=20016:=by omega
       rw[hq2]at hpz hcut;obtain⟨w4,hw4⟩:=nmE (wr.alloc (.cells #[.int .i64 xo, .int .i64 xs', .bool xu] 112));have hb04:=abE hw4;have hb4:Below w.heap.size w w4:=hb.trans (hb04.mono hb.size);have n4:=anE hw4;obtain⟨d0,d1,d2⟩:=aal n4;have hl4:=aab n4;have hown4:=ab2 hown hb04 (acJ hown);have hdo4:DtO w4 d xs:=by rw[<-hw4];exact hdo.grown (World.grownBy_alloc wr _ none) (fun k h=>by cases h)
       have HW4:=hE0 hw4;have HN4:=hE0 n4;have HB4:=hE0 hb4;have HO4:=hE0 hown4;have HD4:=hE0 hdo4;clear hx hb p0 p1 p2 hb4 hb04 n4 hw4 hcl hown hdo hown4 hdo4
       cases xu with
       | false=>
        have HF:Hid (p+aaH (l.drop (j+1))=z):=(show _=z by simpa using hpz);have HC:Hid (d++afN (l.drop (j+1)) (b.drop p)=F):=(show _=_ by simpa using hcut);clear hq1 hq2 hpz hcut;go_wp2_with (first | (rw[HW4.out]) | fail)
        go_roundw
        case rel=>exact⟨j+1,p,d,xs,A3,c3,rfl,rfl,by go_num,by omega,hp,HF.out,HC.out,HO4.out,HD4.out,by omega,HB4.out⟩
        case measure=>simp only[intOf];omega
       | true=>
        rw[if_pos rfl]at hpz hcut;have hpq:p+q<=z:=by omega
        have HF:Hid (p+q+aaH (l.drop (j+1))=z):=(show _=z by omega);have HC:Hid ((d++ [(b.drop p).take q])++afN (l.drop (j+1)) (b.drop (p+q))=F):=(show _=_ by
         rw[<-hcut,List.append_assoc,List.drop_drop];rfl)
        have hyl:((b.drop p).take q).length=q:=(HR.out.sub p q (by omega)).1;obtain⟨y,hy⟩:=nmE ((b.drop p).take q);rw[hy]at HC hyl;have HHELD:=hE0 (fun(V:World)=>ac4 V xo xs' true hsx);rw[show xs'-16=(q:Int) from by omega]at HHELD;have hcl:∀V:World,Below w.heap.size w V->Calls Tryz.prog 92 #[.slice (some ⟨g,off+p,none⟩) q (c-p)] V fun e w'=>an5 y V e w':=fun V hV=>by
         have h:=HR.out.sub p q (by omega);rw[hy]at h;have h2:=abM (some ⟨g,off+p,none⟩) (c-p) w.heap.size y V (by rw[hyl];exact h.below hV) hV.size (fun e=>by cases e) (by omega);rw[hyl]at h2;exact h2
        have HCL:=hE0 hcl;have HYL:=hE0 hyl;have hg1:(p:Int)<(c:Int):=by omega
        have hg2:(p:Int)+(q:Int)<=(c:Int):=by omega
        obtain⟨i0,hi,hz0,hz1,hz2⟩:=info_parts aoB;clear hq1 hq2 hpz hcut hy hcl hyl;go_wp2_with (first | (rw[HW4.out]) | fail)
        refine(HHELD.out w4).mono ?_;rintro e w5 ⟨rfl,hb5⟩;have HN5:=hE0 ((hb5.block _ (aab HN4.out)).trans HN4.out);have HB5:=hE0 (HB4.out.trans (hb5.mono HB4.out.size));have HO5:=hE0 (ab2 HO4.out hb5 (acJ HO4.out));have HD5:=hE0 (HD4.out.stay hb5);clear hb5 d0 d1 d2 hl4;go_wp2_with fail
        refine(HCL.out w5 HB5.out).mono ?_;rintro e w6 ⟨A6,k6,rfl,ho6,hb6⟩;rw[HYL.out]at ho6 ⊢;have hO6:=ab2 HO5.out hb6 (acJ HO5.out);have hD6:=HD5.out.stay hb6;have n6:=(hb6.block _ (aab HN5.out)).trans HN5.out;have hB6:=HB5.out.trans (hb6.mono HB5.out.size);obtain⟨w7,hw7⟩:=nmE (w6.alloc (.cells #[.slice A6 q k6] 37));have hb7:=abE hw7;have n7:=anE hw7;have m7:=(hb7.block _ (aab n6)).trans n6;have hO7:=ab2 hO6 hb7 (acJ hO6);have hD7:=hD6.stay hb7;have ho7:=ab2 ho6 hb7 (acJ ho6);have hB7:=hB6.trans (hb7.mono hB6.size);have hlx:xs.length=d.length:=by have:=hO7.1;omega
        have hrow:=aoA hO7;have HRUN:=hE0 (fun V:World=>ajm V A6 q k6);have HW7:=hE0 hw7;have HNEW:Hid (∀j u,[Value.slice A6 q k6][j]?=some u->w7.cell? ((⟨w6.heap.size,0,none⟩:Addr).add j)=some u):=fun j u hu=>by
         have e:(⟨w6.heap.size,0,none⟩:Addr).add j=⟨w6.heap.size,j,none⟩:=by unfold Addr.add;split<;>simp_all
         rw[e,cell_of_row w7 _ j _ _ (0,0) n7];simpa using hu
        have HONE:Hid (∀u∈ [Value.slice A6 q k6],u.oneCell'=true):=fun u hu=>by
         simp at hu;rcases hu with rfl;rfl
        have hB7s:w.heap.size<=w7.heap.size:=hB7.size;have HO7:=hE0 hO7;have HD7:=hE0 hD7;have Ho7:=hE0 ho7;have HB7:=hE0 hB7;have HN7:=hE0 m7;have HROW:=hE0 hrow;have HLX:=hE0 hlx;have HGE:=hE0 (ajl hO7);have hdb:d.length<=2000:=by omega
        have hne:∀k,(Value.slice A3 d.length c3).ownBlock=some k->k≠wr.heap.size:=fun k hk e=>by
         obtain⟨cs,fz,h⟩:=hrow k hk;rw[e,m7]at h;injection h with h;injection h with _ h _;exact absurd h (by decide)
        have HNE:=hE0 hne;have hl7:=aab m7;clear ho6 hb6 hO6 hD6 n6 hB6 hw7 hb7 n7 m7 hO7 hD7 ho7 hB7 hlx hrow hne HCL;go_wp2_with (first
         | (rw[HRUN.out])
         | (rw[HW7.out])
         | (at_builtin;go_must (refine wpList_append_own _ rfl _ _ 57 rfl w.heap.size 37 i0 _ 1 24 Tryz.underlying57 hi hz0 hz1 hz2 rfl (by decide) _ d.length xs rfl HO7.out ⟨w6.heap.size,0,none⟩ 1 1 [.slice A6 q k6] rfl rfl HNEW.out HONE.out (by unfold maxLen;omega) (by omega) hB7s ?_);intro x8 w8 own8 gr8 at8
            have gr8':w7.grownBy w8 (Value.slice A3 d.length c3).ownBlock:=gr8;have e8:=(gr8'.block _ hl7 (fun e=>HNE.out _ e.symm rfl)).trans HN7.out;obtain⟨c80,c81,c82⟩:=aal e8;have hl8:=aab e8;have HB8:Hid (Below w.heap.size w w8):=HB7.out.grown gr8' hB7s (fun k hk=>HGE.out k hk);have OWN8:Hid (w8.ownsRow w.heap.size 37 1 x8 (d.length+1) (xs++ [.slice A6 q k6])):=own8;have Ho8:Hid (w8.ownsRow w5.heap.size 5 1 (.slice A6 q k6) q (y.map bv)):=acG Ho7.out gr8' (fun k hk hrk=>by obtain⟨cs,fz,h⟩:=HROW.out k hrk;exact adl Ho7.out hk h (by decide));have HD8:Hid (DtO w8 d xs):=HD7.out.grown gr8' (fun k hk=>by obtain⟨cs,fz,h⟩:=HROW.out k hk;exact⟨cs,_,fz,by decide,h⟩);clear own8 gr8 gr8' at8 e8)
         | fail)
        refine(HHELD.out w8).mono ?_;rintro e w9 ⟨rfl,hb9⟩;obtain⟨A8,c8,rfl,_⟩:=aei OWN8.out;have HO9:=hE0 (ab2 OWN8.out hb9 (acJ OWN8.out));have Ho9:=ad6 (ab2 Ho8.out hb9 (acJ Ho8.out)) (Nat.zero_le _);have HD9:=HD8.out.stay hb9;have HB9:=hE0 (HB8.out.trans (hb9.mono HB8.out.size));have HDS:Hid (DtO w9 (d++ [y]) (xs++ [.slice A6 q k6])):=(show DtO _ _ _ by
         have e:=HYL.out;subst e;exact HD9.snoc HLX.out (by omega) Ho9)
        clear Ho9 HD9 hb9;go_wp2_with fail
        go_roundw
        case rel=>exact⟨j+1,p+q,d++ [y],_,A8,c8,by go_num,by rw[List.length_append,List.length_singleton],by go_num,by omega,by omega,HF.out,HC.out,by rw[List.length_append,List.length_singleton];exact HO9.out,HDS.out,by rw[List.length_append,List.length_singleton];omega,HB9.out⟩
        case measure=>simp only[intOf];omega
     · have hd:l.drop j= []:=List.drop_eq_nil_of_le (by rw[HM.out];omega);rw[hd]at hcut;have hcut2:d=F:=by
        have:afN [] (b.drop p)= []:=by unfold afN;rfl
        rw[this,List.append_nil]at hcut;exact hcut
       have HE:Hid (D=(0,d)):=(show D=(0,d) by rw[<-HD3.out,hcut2]);have HRD:=hE0 (And.intro hown hdo);have HBF:=hE0 hb;clear hcut hcut2 hd hown hdo hb;go_wp2
       go_ret2
       exact⟨A3,c3,by rw[HE.out];rfl,by rw[HE.out];exact⟨xs,HRD.out⟩,HBF.out⟩
def aeM (b:List UInt8):Nat × Nat × List Rk × List (List UInt8):=
 if ado b≠0 then (ado b,0,[],[])
 else if (abx b (acK b) (acQ b)).1≠0 then ((abx b (acK b) (acQ b)).1,0,[],[])
 else if (aem b (abx b (acK b) (acQ b)).2).1≠0 then ((aem b (abx b (acK b) (acQ b)).2).1,0,[],[])
 else (0,acK b,(abx b (acK b) (acQ b)).2,(aem b (abx b (acK b) (acQ b)).2).2)
def aiO (c:Nat):Value:=if c=0 then .nilIface else .iface 130 (.int .i64 (c:Int))
theorem al2{b:List UInt8}(h:ado b=0):abT (acK b:Int)=true/\acQ b<=1024:=by
 unfold ado at h;split at h
 · cases h
 split at h
 · cases h
 split at h
 · cases h
 split at h
 · cases h
 rename_i h1;split at h
 · cases h
 rename_i h2;exact⟨by cases e:abT (acK b:Int)<;>simp_all,Nat.le_of_not_lt h2⟩
theorem al3{b:List UInt8}{n k:Nat}(h:(abx b n k).1=0):(abx b n k).2.length=k/\∀x∈(abx b n k).2,aaD x.s=true:=by
 unfold abx at h ⊢;split
 · rename_i h1;rw[if_pos h1]at h;cases h
 rename_i h1;rw[if_neg h1]at h;split
 · rename_i h2;rw[if_pos h2]at h;cases h
 rename_i h2;rw[if_neg h2]at h
 cases e:aaO (b.drop 28) k 184 with
 | none=>rw[e]at h;cases h
 | some l=>
  rw[e]at h;unfold asE at h ⊢;dsimp only at h ⊢;split
  · rename_i h3;rw[if_pos h3]at h;cases h
  · rename_i h3;exact⟨afa e,aeE (by simpa using h3)⟩
theorem am7 (w:World) (A:Option Addr) (n c B:Nat) (b:List UInt8) (hr:Rd w B A n b) (hB:B<=w.heap.size) (hnc:n<=c) (hc:c<=9223372036854775807) (hn:n<=900000):
 Calls Tryz.prog 254 #[.slice A n c] w fun e w'=>∃A1 A2 c1 c2,e= .returned (.tuple #[.agg #[.int .i64 ((aeM b).2.1:Int), .slice A1 (aeM b).2.2.1.length c1, .slice A2 (aeM b).2.2.2.length c2],aiO (aeM b).1])/\RkRd w' w'.heap.size A1 (aeM b).2.2.1/\DtRd w' w'.heap.size A2 (aeM b).2.2.2/\(∀a,A2=some a->w.heap.size<=a.block)/\Below w.heap.size w w':=by
 obtain⟨G,hG⟩:=nmE (aeM b);rw[hG];unfold aeM at hG;obtain⟨w1,hw1⟩:=nmE (w.alloc (.cells #[.int .i64 0, .slice none 0 0, .slice none 0 0] 107));have hb1:=abE hw1;have n1:=anE hw1;have HR1:=hE0 ((hr.more hB).below hb1);have hHH:=am5 w1 A n c _ b HR1.out hnc hc hn;unfold asG at hHH;have HN1:=hE0 n1;have HB1:=hE0 hb1;have HW1:=hE0 hw1;clear hr hw1 hb1 n1;by_cases hh:ado b≠0
 · rw[if_pos hh]at hG;rw[if_neg hh]at hHH;obtain⟨k,hk⟩:=nmE (ado b);rw[hk]at hG hHH hh;have HG:=hE0 hG;have HH:=hE0 hHH;have hk0:(k:Int)≠0:=by omega
   clear hG hHH hk;have HKK:=hE0 hh;have n1:=HN1.out;have hl1:=aab n1;obtain⟨f0,f1,f2⟩:=acI n1;obtain⟨z0,z1,z2⟩:=aal n1;have HM:=hE0 (aeI n1 (.int .i64 0) (.slice none 0 0) (.slice none 0 0));have HF:=hE0 (((HB1.out.setCell (p:=⟨w.heap.size,0,none⟩) (Nat.le_refl _) (.int .i64 0)).setCell (p:=⟨w.heap.size,1,none⟩) (Nat.le_refl _) (.slice none 0 0)).setCell (p:=⟨w.heap.size,2,none⟩) (Nat.le_refl _) (.slice none 0 0));have N1':=hE0 n1;clear n1;go_enter Tryz.func254,Tryz.ntmps254
   go_wp2_with (first | (rw[HW1.out]) | fail)
   refine HH.out.mono ?_;rintro e w2 ⟨rfl,rfl⟩;go_wp2
   (try simp only[Exit.inBlock,Exit.then])
   refine ajk (g:=w.heap.size) (x:= .iface 130 (.int .i64 (k:Int))) Tryz.results254 ?_ ?_ ?_ HM.out ?_
   · rfl
   · rfl
   · rfl
   · refine⟨none,none,0,0,?_,?_,?_,fun _ h=>(by cases h),HF.out⟩
     · rw[<-HG.out];unfold aiO;dsimp only;rw[if_neg HKK.out];rfl
     · rw[<-HG.out];exact fun h=>absurd h (by simp)
     · rw[<-HG.out];exact fun h=>absurd h (by simp)
 have hh0:ado b=0:=Decidable.byContradiction hh;obtain⟨hlo,hcn⟩:=al2 hh0;rw[if_neg hh]at hG;rw[if_pos hh0]at hHH;have HH:=hE0 hHH;have hBL:=ajt w1 A n c _ (acK b) (acQ b) b HR1.out (by have:=HB1.out.size;omega) hnc hc hn hlo hcn;clear hHH;by_cases hb0:(abx b (acK b) (acQ b)).1≠0
 · rw[if_pos hb0]at hG;have eV:∀A,atI (abx b (acK b) (acQ b)) A= .tuple #[.slice none 0 0, .iface 130 (.int .i64 ((abx b (acK b) (acQ b)).1:Int))]:=fun A=>by unfold atI;rw[if_neg hb0]
   simp only[eV]at hBL;clear eV;obtain⟨k,hk⟩:=nmE ((abx b (acK b) (acQ b)).1);rw[hk]at hG hBL hb0;have HG:=hE0 hG;have HBL:=hE0 hBL;have HKK:=hE0 hb0;clear hG hBL hk hb0 hh hh0 hlo;go_enter Tryz.func254,Tryz.ntmps254
   go_wp2_with (first | (rw[HW1.out]) | fail)
   refine HH.out.mono ?_;rintro e w2 ⟨rfl,rfl⟩;go_wp2_with fail
   refine HBL.out.mono ?_;rintro e w2 ⟨A2,rfl,_,hb2⟩;have n1:=(hb2.block _ (aab HN1.out)).trans HN1.out;have hl1:=aab n1;obtain⟨f0,f1,f2⟩:=acI n1;obtain⟨z0,z1,z2⟩:=aal n1;have HM:=hE0 (aeI n1 (.int .i64 0) (.slice none 0 0) (.slice none 0 0));have HF:=hE0 ((((HB1.out.trans (hb2.mono HB1.out.size)).setCell (p:=⟨w.heap.size,0,none⟩) (Nat.le_refl _) (.int .i64 0)).setCell (p:=⟨w.heap.size,1,none⟩) (Nat.le_refl _) (.slice none 0 0)).setCell (p:=⟨w.heap.size,2,none⟩) (Nat.le_refl _) (.slice none 0 0));have N1':=hE0 n1;clear n1;clear hb2;go_wp2
   (try simp only[Exit.inBlock,Exit.then])
   refine ajk (g:=w.heap.size) (x:= .iface 130 (.int .i64 (k:Int))) Tryz.results254 ?_ ?_ ?_ HM.out ?_
   · rfl
   · rfl
   · rfl
   · refine⟨none,none,0,0,?_,?_,?_,fun _ h=>(by cases h),HF.out⟩
     · rw[<-HG.out];unfold aiO;dsimp only;rw[if_neg HKK.out];rfl
     · rw[<-HG.out];exact fun h=>absurd h (by simp)
     · rw[<-HG.out];exact fun h=>absurd h (by simp)
 have hb1':(abx b (acK b) (acQ b)).1=0:=Decidable.byContradiction hb0;obtain⟨hlen,hszs⟩:=al3 hb1';rw[if_neg hb0]at hG;have eV:∀A,atI (abx b (acK b) (acQ b)) A= .tuple #[.slice A (abx b (acK b) (acQ b)).2.length (abx b (acK b) (acQ b)).2.length, .nilIface]:=fun A=>by unfold atI;rw[if_pos hb1']
 simp only[eV]at hBL;clear eV;obtain⟨l,hl⟩:=nmE ((abx b (acK b) (acQ b)).2);rw[hl]at hG hBL hlen hszs;have hll:l.length<=1024:=by omega
 have HBL:=hE0 hBL;have HSZ:=hE0 hszs;clear hBL hl hb0 hb1' hszs;by_cases hd0:(aem b l).1≠0
 · rw[if_pos hd0]at hG;have HDB:=hE0 (fun V A2 k2 (hV:Below w.heap.size w V) (hr2:Rd V w.heap.size A n b) (hrk:RkRd V V.heap.size A2 l)=>am6 V A A2 n c w.heap.size k2 b l hr2 hnc hc hn hrk hV.size hll HSZ.out hd0);unfold atU at HDB;rw[if_neg hd0]at HDB;obtain⟨k,hk⟩:=nmE ((aem b l).1);rw[hk]at hG HDB hd0;have HG:=hE0 hG;have HKK:=hE0 hd0;obtain⟨ll,hlll⟩:=nmE l.length;rw[hlll]at HBL HDB;clear hG hk hd0 hh hh0 hlo hlen hll hlll;go_enter Tryz.func254,Tryz.ntmps254
   go_wp2_with (first | (rw[HW1.out]) | fail)
   refine HH.out.mono ?_;rintro e w2 ⟨rfl,rfl⟩;go_wp2_with fail
   refine HBL.out.mono ?_;rintro e w2 ⟨A2,rfl,hrk2,hb2⟩;have HD:=hE0 (HDB.out w2 A2 ll (HB1.out.trans (hb2.mono HB1.out.size)) (HR1.out.below (hb2.mono HB1.out.size)) hrk2);have HB2:=hE0 hb2;have N2:=hE0 ((hb2.block _ (aab HN1.out)).trans HN1.out);clear hb2 hrk2 HDB;go_wp2_with fail
   refine HD.out.mono ?_;rintro e w3 ⟨rfl,_,hb3⟩;have hb2:=HB2.out.trans (hb3.mono HB2.out.size);have n1:=(hb3.block _ (aab N2.out)).trans N2.out;have hl1:=aab n1;obtain⟨f0,f1,f2⟩:=acI n1;obtain⟨z0,z1,z2⟩:=aal n1;have HM:=hE0 (aeI n1 (.int .i64 0) (.slice none 0 0) (.slice none 0 0));have HF:=hE0 ((((HB1.out.trans (hb2.mono HB1.out.size)).setCell (p:=⟨w.heap.size,0,none⟩) (Nat.le_refl _) (.int .i64 0)).setCell (p:=⟨w.heap.size,1,none⟩) (Nat.le_refl _) (.slice none 0 0)).setCell (p:=⟨w.heap.size,2,none⟩) (Nat.le_refl _) (.slice none 0 0));have N1':=hE0 n1;clear n1;clear hb2 hb3;go_wp2
   (try simp only[Exit.inBlock,Exit.then])
   refine ajk (g:=w.heap.size) (x:= .iface 130 (.int .i64 (k:Int))) Tryz.results254 ?_ ?_ ?_ HM.out ?_
   · rfl
   · rfl
   · rfl
   · refine⟨none,none,0,0,?_,?_,?_,fun _ h=>(by cases h),HF.out⟩
     · rw[<-HG.out];unfold aiO;dsimp only;rw[if_neg HKK.out];rfl
     · rw[<-HG.out];exact fun h=>absurd h (by simp)
     · rw[<-HG.out];exact fun h=>absurd h (by simp)
 have hd1:(aem b l).1=0:=Decidable.byContradiction hd0;rw[if_neg hd0]at hG;have HDB:=hE0 (fun V A2 k2 (hV:Below w.heap.size w V) (hr2:Rd V w.heap.size A n b) (hrk:RkRd V V.heap.size A2 l)=>aoY V A A2 n c w.heap.size k2 b l hr2 hnc hc hn hrk hV.size hll HSZ.out hd1);have eV:∀A c,atU (aem b l) A c= .tuple #[.slice A (aem b l).2.length c, .nilIface]:=fun A c=>by unfold atU;rw[if_pos hd1]
 simp only[eV]at HDB;clear eV;obtain⟨d,hd⟩:=nmE ((aem b l).2);rw[hd]at hG HDB;obtain⟨ll,hlll⟩:=nmE l.length;obtain⟨dl,hdll⟩:=nmE d.length;rw[hlll]at HBL HDB;rw[hdll]at HDB;have HG:=hE0 hG;have HLL:=hE0 hlll;have HDL:=hE0 hdll;obtain⟨N,hN⟩:=nmE (acK b);obtain⟨K,hK⟩:=nmE (acQ b);rw[hN,hK]at HH HBL;rw[hN]at HG;clear hG hd hd0 hd1 hh hh0 hlo hlen hll hlll hdll hN hK hcn;go_enter Tryz.func254,Tryz.ntmps254
 go_wp2_with (first | (rw[HW1.out]) | fail)
 refine HH.out.mono ?_;rintro e w2 ⟨rfl,rfl⟩;go_wp2_with fail
 refine HBL.out.mono ?_;rintro e w2 ⟨A2,rfl,hrk2,hb2⟩;have HD:=hE0 (HDB.out w2 A2 ll (HB1.out.trans (hb2.mono HB1.out.size)) (HR1.out.below (hb2.mono HB1.out.size)) hrk2);have HB2:=hE0 hb2;have HRK2:=hE0 hrk2;have N2:=hE0 ((hb2.block _ (aab HN1.out)).trans HN1.out);clear hb2 hrk2 HDB;go_wp2_with fail
 refine HD.out.mono ?_;rintro e w3 ⟨A3,c3,rfl,hdt3,hb3⟩;have n2:=(hb3.block _ (aab N2.out)).trans N2.out;have hl2:=aab n2;obtain⟨f0,f1,f2⟩:=acI n2;obtain⟨z0,z1,z2⟩:=aal n2;have HM:=hE0 (aeI n2 (.int .i64 (N:Int)) (.slice A2 ll ll) (.slice A3 dl c3));have hB3:=HB1.out.trans ((HB2.out.trans (hb3.mono HB2.out.size)).mono HB1.out.size);have HF:=hE0 (((hB3.setCell (p:=⟨w.heap.size,0,none⟩) (Nat.le_refl _) (.int .i64 (N:Int))).setCell (p:=⟨w.heap.size,1,none⟩) (Nat.le_refl _) (.slice A2 ll ll)).setCell (p:=⟨w.heap.size,2,none⟩) (Nat.le_refl _) (.slice A3 dl c3));have N2':=hE0 n2;have HRK3:=hE0 ((HRK2.out.below hb3).more hb3.size);have HDT3:=hE0 hdt3;have HG3:Hid (∀a,A3=some a->w.heap.size<=a.block):=(show ∀a,_->_ from fun a e=>by
  obtain⟨xs,ho,_⟩:=hdt3;have h1:=ajl ho a.block (by rw[e];rfl);have h2:=HB1.out.size;have h3:=HB2.out.size;omega)
 clear hb3 n2 hB3 HBL HH hdt3;go_wp2
 (try simp only[Exit.inBlock,Exit.then])
 refine ajk (g:=w.heap.size) (x:= .nilIface) Tryz.results254 ?_ ?_ ?_ HM.out ?_
 · rfl
 · rfl
 · rfl
 · refine⟨A2,A3,ll,c3,?_,?_,?_,HG3.out,HF.out⟩
   · rw[<-HG.out];dsimp only;rw[HLL.out,HDL.out];rfl
   · rw[<-HG.out];refine(HRK3.out.off N2'.out fun k hk=> ?_).more (by simp);rw[heap_setCell_other _ _ _ _ hk,heap_setCell_other _ _ _ _ hk,heap_setCell_other _ _ _ _ hk]
   · rw[<-HG.out];obtain⟨xs,ho,hdo⟩:=HDT3.out;rw[<-HDL.out]at ho;have g0:=acl w3 w.heap.size 0 (.int .i64 (N:Int));have g1:=acl (w3.setCell ⟨w.heap.size,0,none⟩ (.int .i64 (N:Int))) w.heap.size 1 (.slice A2 ll ll);have g2:=acl ((w3.setCell ⟨w.heap.size,0,none⟩ (.int .i64 (N:Int))).setCell ⟨w.heap.size,1,none⟩ (.slice A2 ll ll)) w.heap.size 2 (.slice A3 dl c3);have k0:=N2'.out;have k1:=heap_setCell_same w3 w.heap.size 0 _ _ (.int .i64 (N:Int)) k0;have k2:=heap_setCell_same _ w.heap.size 1 _ _ (.slice A2 ll ll) k1;have o1:=acG ho g0 (fun k hk hrk=>by injection hrk with hrk;subst hrk;exact adl ho hk k0 (by decide));have o2:=acG o1 g1 (fun k hk hrk=>by injection hrk with hrk;subst hrk;exact adl o1 hk k1 (by decide));have o3:=acG o2 g2 (fun k hk hrk=>by injection hrk with hrk;subst hrk;exact adl o2 hk k2 (by decide));have d1:=hdo.grown g0 (fun k hrk=>by injection hrk with hrk;subst hrk;exact⟨_,_,_,by decide,k0⟩);have d2:=d1.grown g1 (fun k hrk=>by injection hrk with hrk;subst hrk;exact⟨_,_,_,by decide,k1⟩);have d3:=d2.grown g2 (fun k hrk=>by injection hrk with hrk;subst hrk;exact⟨_,_,_,by decide,k2⟩);exact d3.rd o3
end Go.Proofs.YtncadccbepjekaaGreatDoor
