/- Texts of mine, joined. -/
import Derived.Great.BuildSlice
import Derived.Laws.ResultCell
import Derived.Test.YtncadccbepjekaaGreatDoorU8
set_option maxRecDepth 100000
set_option maxHeartbeats 1000000
namespace Go.Proofs.YtncadccbepjekaaGreatDoor
open Go.RowKit
structure Wr where
 s:Nat
 b:Nat
 c:Nat
 d:List UInt8
def Wr.two (x:Wr):Nat × List UInt8:=(x.s,x.d)
def akY:List Wr->List Value
 | []=> []
 | x::r=> .int .i64 (x.s:Int):: .slice (some ⟨x.b,0,none⟩) 512 x.c::akY r
theorem agM (a b:List Wr):akY (a++b)=akY a++akY b:=by
 induction a with
 | nil=>rfl
 | cons x r ih=>simp[akY,ih]
theorem amE:∀(ws:List Wr) (i:Nat) (x:Wr),ws[i]?=some x->(akY ws)[i*2]?=some (.int .i64 (x.s:Int))/\(akY ws)[i*2+1]?=some (.slice (some ⟨x.b,0,none⟩) 512 x.c)
 | [],_,_,h=>by simp at h
 | y::r,0,x,h=>by
  simp at h;subst h;exact⟨rfl,rfl⟩
 | y::r,i+1,x,h=>by
  have:=amE r i x (by simpa using h);have e:(i+1)*2=i*2+1+1:=by omega
  rw[e];exact⟨by simpa[akY]using this.1,by simpa[akY]using this.2⟩
def Fil (w:World) (b:Nat) (d:List UInt8):Prop:=∃cur:Array Value,w.heap[b]?=some (.cells cur 5 (0,0))/\d.length<=cur.size/\cur.toList.take d.length=d.map bv
section
variable {w w':World} {b:Nat} {d:List UInt8}
theorem Fil.lt (h:Fil w b d):b<w.heap.size:=by
 obtain⟨_,h,_⟩:=h;exact aae h
theorem Fil.keep (h:Fil w b d) (hk:w'.heap[b]?=w.heap[b]?):Fil w' b d:=by
 obtain⟨cur,h1,h2⟩:=h;exact⟨cur,hk.trans h1,h2⟩
theorem Fil.reads (h:Fil w b d):Rd w w.heap.size (some ⟨b,0,none⟩) d.length d:=by
 have hlt:=h.lt;obtain⟨cur,h1,h2,h3⟩:=h;refine⟨rfl,fun _=>⟨b,0,rfl,hlt,fun j u hu=> ?_⟩⟩;have hj:j<d.length:=by
  rcases Nat.lt_or_ge j d.length with h | h
  · exact h
  · rw[List.getElem?_eq_none h]at hu;cases hu
 rw[Nat.zero_add,cell_of_row w b j _ _ (0,0) h1];have:(cur.toList.take d.length)[j]?=(d.map bv)[j]?:=by rw[h3]
 rw[List.getElem?_take_of_lt hj,List.getElem?_map,hu]at this;simpa[bv]using this
theorem Fil.of_own{base n c g:Nat}(h:w.ownsRow base 5 1 (.slice (some ⟨g,0,none⟩) n c) n (d.map bv)):Fil w g d:=by
 rcases h.2 with⟨h',_⟩ | ⟨g',cap,cur,h',_,hh,hnc,_,hcs,hcur⟩
 · cases h'
 · injection h' with e1 e2 e3;injection e1 with e1;injection e1 with e1;subst e1;have e:n=d.length:=by have:=h.1;simpa using this.symm
   subst e;exact⟨cur,hh,by omega,by simpa using hcur⟩
end
structure Dk (S:Nat->Prop) (w:World) (g h c:Nat) (W:Option Addr) (cw:Nat) (bs:List UInt8) (ws:List Wr) (left:Int) (off:Bool):Prop where
 obj:w.heap[g]?=some (.cells #[.slice (some ⟨h,0,none⟩) bs.length c, .slice W ws.length cw, .int .i64 left, .bool off] 128 (0,0))
 own:w.ownsRow 0 5 1 (.slice (some ⟨h,0,none⟩) bs.length c) bs.length (bs.map bv)
 wai:w.ownsRow 0 167 2 (.slice W ws.length cw) ws.length (akY ws)
 row:∀x∈ws,x.s*512+512<=bs.length/\x.b≠h/\x.d.length=512/\Fil w x.b x.d
 sg:S g
 sh:S h
 sw:∀a,W=some a->S a.block
 sx:∀x∈ws,S x.b
def adz (S:Nat->Prop) (w w':World) (k:Nat):Prop:=S k\/(w.heap.size<=k/\k<w'.heap.size)
theorem acq{w w':World}{base n size:Nat}{e:TypeId}{v:Value}{xs:List Value}(h:w.ownsRow base e size v n xs) (hk:∀k,v.ownBlock=some k->w'.heap[k]?=w.heap[k]?):w'.ownsRow base e size v n xs:=by
 refine⟨h.1,?_⟩;rcases h.2 with h2 | ⟨g,cap,cur,hv,hg,hh,r⟩
 · exact .inl h2
 · refine .inr ⟨g,cap,cur,hv,hg,?_,r⟩;rw[hk g (by rw[hv];rfl)];exact hh
theorem agh{w:World}{base n size c:Nat}{e:TypeId}{a:Addr}{xs:List Value}(h:w.ownsRow base e size (.slice (some a) n c) n xs):∃b,a=⟨b,0,none⟩/\∃cur,w.heap[b]?=some (.cells cur e (0,0)):=by
 rcases h.2 with⟨h',_⟩ | ⟨g',cap,cur,h',_,hh,_⟩
 · cases h'
 · injection h' with e1;injection e1 with e1;exact⟨g',e1,cur,hh⟩
theorem afy{w:World}{a b:Nat}{s t:TypeId}{x y:Array Value}(h:w.heap[a]?=some (.cells x s (0,0))) (k:w.heap[b]?=some (.cells y t (0,0))) (hne:s≠t):a≠b:=by
 intro e;subst e;rw[h]at k;injection k with k;injection k with _ k;exact hne k
section
variable {S S':Nat->Prop} {w w':World} {g h c:Nat} {W:Option Addr} {cw:Nat} {bs:List UInt8} {ws:List Wr} {left:Int} {off:Bool}
theorem Dk.c0 (k:Dk S w g h c W cw bs ws left off):w.cell? ⟨g,0,none⟩=some (.slice (some ⟨h,0,none⟩) bs.length c):=by rw[cell_of_row w g 0 _ _ (0,0) k.obj];rfl
theorem Dk.c1 (k:Dk S w g h c W cw bs ws left off):w.cell? ⟨g,1,none⟩=some (.slice W ws.length cw):=by rw[cell_of_row w g 1 _ _ (0,0) k.obj];rfl
theorem Dk.c2 (k:Dk S w g h c W cw bs ws left off):w.cell? ⟨g,2,none⟩=some (.int .i64 left):=by rw[cell_of_row w g 2 _ _ (0,0) k.obj];rfl
theorem Dk.c3 (k:Dk S w g h c W cw bs ws left off):w.cell? ⟨g,3,none⟩=some (.bool off):=by rw[cell_of_row w g 3 _ _ (0,0) k.obj];rfl
theorem Dk.thaw (k:Dk S w g h c W cw bs ws left off) (i:Nat):w.frozen? ⟨g,i,none⟩=false:=frozen_of_row w g i _ _ k.obj
theorem Dk.lt (k:Dk S w g h c W cw bs ws left off):g<w.heap.size:=aae k.obj
theorem Dk.hlt (k:Dk S w g h c W cw bs ws left off):h<w.heap.size:=(k.own.lt h rfl).2
theorem Dk.wlt (k:Dk S w g h c W cw bs ws left off){a:Addr}(e:W=some a):a.block<w.heap.size:=by subst e;exact(k.wai.lt a.block rfl).2
theorem Dk.xlt (k:Dk S w g h c W cw bs ws left off){x:Wr}(hx:x∈ws):x.b<w.heap.size:=(k.row x hx).2.2.2.lt
theorem Dk.reads (k:Dk S w g h c W cw bs ws left off):Rd w w.heap.size (some ⟨h,0,none⟩) bs.length bs:=(Fil.of_own k.own).reads
theorem Dk.cap (k:Dk S w g h c W cw bs ws left off):bs.length<=c/\c<=maxLen:=by
 rcases k.own.2 with⟨h',_⟩ | ⟨_,_,_,h',_,_,h1,h2,_⟩
 · cases h'
 · injection h' with _ _ e;subst e;exact⟨h1,h2⟩
theorem Dk.wcap (k:Dk S w g h c W cw bs ws left off):ws.length<=cw/\cw<=maxLen:=by
 rcases k.wai.2 with⟨h',h0⟩ | ⟨_,_,_,h',_,_,h1,h2,_⟩
 · injection h' with _ _ e;subst e;rw[h0];exact⟨Nat.le_refl _,Nat.zero_le _⟩
 · injection h' with _ _ e;subst e;exact⟨h1,h2⟩
theorem Dk.gh (k:Dk S w g h c W cw bs ws left off):g≠h:=by
 obtain⟨b,e,cur,hc⟩:=agh k.own;injection e with e;subst e;exact afy k.obj hc (by decide)
theorem Dk.wg (k:Dk S w g h c W cw bs ws left off){a:Addr}(e:W=some a):a.block≠g/\a.block≠h/\∀x∈ws,x.b≠a.block:=by
 subst e;obtain⟨b,e,cur,hc⟩:=agh k.wai;obtain⟨b2,e2,cur2,hc2⟩:=agh k.own;injection e2 with e2;subst e e2;refine⟨afy hc k.obj (by decide),afy hc hc2 (by decide),fun x hx=> ?_⟩;obtain⟨cur3,h3,_⟩:=(k.row x hx).2.2.2;exact afy h3 hc (by decide)
theorem Dk.xg (k:Dk S w g h c W cw bs ws left off){x:Wr}(hx:x∈ws):x.b≠g:=by
 obtain⟨cur3,h3,_⟩:=(k.row x hx).2.2.2;exact afy h3 k.obj (by decide)
def atm (g h:Nat) (W:Option Addr) (ws:List Wr) (k:Nat):Prop:=k=g\/k=h\/(∃a,W=some a/\k=a.block)\/∃x∈ws,k=x.b
theorem Dk.foot (k:Dk S w g h c W cw bs ws left off){j:Nat}(hj:atm g h W ws j):S j/\j<w.heap.size:=by
 rcases hj with rfl | rfl | ⟨a,e,rfl⟩ | ⟨x,hx,rfl⟩
 · exact⟨k.sg,k.lt⟩
 · exact⟨k.sh,k.hlt⟩
 · exact⟨k.sw a e,k.wlt e⟩
 · exact⟨k.sx x hx,k.xlt hx⟩
theorem Dk.keep (k:Dk S w g h c W cw bs ws left off) (hk:∀j,atm g h W ws j->w'.heap[j]?=w.heap[j]?):Dk S w' g h c W cw bs ws left off:=by
 refine⟨(hk g (.inl rfl)).trans k.obj,acq k.own fun j hj=> ?_,acq k.wai fun j hj=> ?_,fun x hx=> ?_,k.sg,k.sh,k.sw,k.sx⟩
 · injection hj with hj;subst hj;exact hk _ (.inr (.inl rfl))
 · rcases W with _ | a
   · cases hj
   · injection hj with hj;subst hj;exact hk _ (.inr (.inr (.inl ⟨a,rfl,rfl⟩)))
 · obtain⟨h1,h2,h3,h4⟩:=k.row x hx;exact⟨h1,h2,h3,h4.keep (hk _ (.inr (.inr (.inr ⟨x,hx,rfl⟩))))⟩
theorem Dk.below (k:Dk S w g h c W cw bs ws left off) (hb:Below w.heap.size w w'):Dk S w' g h c W cw bs ws left off:=k.keep fun j hj=>hb.block j (k.foot hj).2
theorem Dk.tch{R:Nat->Prop}(k:Dk S w g h c W cw bs ws left off) (ht:Tch R w w') (hd:∀j,S j->¬R j):Dk S w' g h c W cw bs ws left off:=k.keep fun j hj=>ht.block j (k.foot hj).2 (hd j (k.foot hj).1)
theorem Dk.more (k:Dk S w g h c W cw bs ws left off) (hS:∀j,atm g h W ws j->S' j):Dk S' w g h c W cw bs ws left off:=
 ⟨k.obj,k.own,k.wai,k.row,hS _ (.inl rfl),hS _ (.inr (.inl rfl)),fun a e=>hS _ (.inr (.inr (.inl ⟨a,e,rfl⟩))),fun x hx=>hS _ (.inr (.inr (.inr ⟨x,hx,rfl⟩)))⟩
theorem Dk.drew (k:Dk S w g h c W cw bs ws left off):Dk S w.drew g h c W cw bs ws left off:=⟨k.obj,k.own,k.wai,k.row,k.sg,k.sh,k.sw,k.sx⟩
theorem Dk.obj_{left':Int}{off':Bool}(k:Dk S w g h c W cw bs ws left off) (ho:w'.heap[g]?=some (.cells #[.slice (some ⟨h,0,none⟩) bs.length c, .slice W ws.length cw, .int .i64 left', .bool off'] 128 (0,0)))
 (hk:∀j,j≠g->w'.heap[j]?=w.heap[j]?):Dk S w' g h c W cw bs ws left' off':=by
 refine⟨ho,acq k.own fun j hj=> ?_,acq k.wai fun j hj=> ?_,fun x hx=> ?_,k.sg,k.sh,k.sw,k.sx⟩
 · injection hj with hj;subst hj;exact hk _ k.gh.symm
 · rcases W with _ | a
   · cases hj
   · injection hj with hj;subst hj;exact hk _ (k.wg rfl).1
 · obtain⟨h1,h2,h3,h4⟩:=k.row x hx;exact⟨h1,h2,h3,h4.keep (hk _ (k.xg hx))⟩
theorem Dk.set2 (k:Dk S w g h c W cw bs ws left off) (n:Int):Dk S (w.setCell ⟨g,2,none⟩ (.int .i64 n)) g h c W cw bs ws n off:=
 k.obj_ (by rw[heap_setCell_same w g 2 _ _ _ k.obj];rfl) fun j hj=>Below.heap_setCell _ _ _ _ hj
theorem Dk.set3 (k:Dk S w g h c W cw bs ws left off) (b:Bool):Dk S (w.setCell ⟨g,3,none⟩ (.bool b)) g h c W cw bs ws left b:=
 k.obj_ (by rw[heap_setCell_same w g 3 _ _ _ k.obj];rfl) fun j hj=>Below.heap_setCell _ _ _ _ hj
theorem Dk.none_ (k:Dk S w g h c W cw bs ws left off):Dk S (w.setCell ⟨g,1,none⟩ (.slice none 0 0)) g h c none 0 bs [] left off:=by
 have hk:∀j,j≠g->(w.setCell ⟨g,1,none⟩ (.slice none 0 0)).heap[j]?=w.heap[j]?:=fun j hj=>Below.heap_setCell _ _ _ _ hj;refine⟨by rw[heap_setCell_same w g 1 _ _ _ k.obj];rfl,acq k.own fun j hj=> ?_,World.ownsRow_nil _ _ _ _,(fun x hx=>by cases hx),k.sg,k.sh,(fun a e=>by cases e),(fun x hx=>by cases hx)⟩;injection hj with hj;subst hj;exact hk _ k.gh.symm
theorem Dk.over (k:Dk S w g h c W cw bs ws left off){cur:Array Value}(hrow:w.heap[h]?=some (.cells cur 5 (0,0))) (hsz:cur.size=c) (htake:cur.toList.take bs.length=bs.map bv) (off':Nat) (cs:List UInt8) (hfit:off'+cs.length<=bs.length):
 Dk S (w.setRow h (cur.toList.take off'++(cs.map bv++cur.toList.drop (off'+(cs.map bv).length))).toArray) g h c W cw (lay bs off' cs) ws left off:=by
 have hle:=k.cap.1;have hlen:=ach bs off' cs hfit;have hk:∀j,j≠h->(w.setRow h (cur.toList.take off'++(cs.map bv++cur.toList.drop (off'+(cs.map bv).length))).toArray).heap[j]?=w.heap[j]?:=fun j hj=>setRow_other w h j _ hj;refine⟨?_,⟨?_, .inr ⟨h,c,_,by rw[hlen],Nat.zero_le _,setRow_heap w h _ _ _ _ hrow,by omega,k.cap.2,?_,?_⟩⟩,acq k.wai fun j hj=> ?_,fun x hx=> ?_,k.sg,k.sh,k.sw,k.sx⟩
 · rw[hk g k.gh,hlen];exact k.obj
 · simp
 · simp;omega
 · rw[Nat.mul_one,hlen,List.toList_toArray];have e1:cur.toList=bs.map bv++cur.toList.drop bs.length:=by rw[<-htake,List.take_append_drop]
   have e2:bs.length=(bs.map bv).length:=by simp
   rw[e1,e2];rw[ajL (bs.map bv) _ off' (cs.map bv) (by simpa using hfit)];simp[lay]
 · rcases W with _ | a
   · cases hj
   · injection hj with hj;subst hj;exact hk _ (k.wg rfl).2.1
 · obtain⟨h1,h2,h3,h4⟩:=k.row x hx;exact⟨by omega,h2,h3,h4.keep (hk _ h2)⟩
theorem Dk.curs (k:Dk S w g h c W cw bs ws left off):∃cur:Array Value,w.heap[h]?=some (.cells cur 5 (0,0))/\cur.size=c/\cur.toList.take bs.length=bs.map bv:=by
 rcases k.own.2 with⟨h',_⟩ | ⟨g',cap,cur,h',_,hh,_,_,hs,ht⟩
 · cases h'
 · injection h' with e1 e2 e3;injection e1 with e1;injection e1 with e1;subst e1 e3;exact⟨cur,hh,by simpa using hs,by simpa using ht⟩
theorem Dk.at_ (k:Dk S w g h c W cw bs ws left off){i:Nat}{x:Wr}(hx:ws[i]?=some x):∃gw,W=some ⟨gw,0,none⟩/\w.cell? ⟨gw,i*2,none⟩=some (.int .i64 (x.s:Int))/\w.cell? ⟨gw,i*2+1,none⟩=some (.slice (some ⟨x.b,0,none⟩) 512 x.c):=by
 have hi:i<ws.length:=by
  rcases Nat.lt_or_ge i ws.length with h | h
  · exact h
  · rw[List.getElem?_eq_none h]at hx;cases hx
 obtain⟨f1,f2⟩:=amE ws i x hx;have hw:=k.wai;rcases W with _ | a
 · rcases hw.2 with⟨_,h0⟩ | ⟨_,_,_,h',_⟩
   · omega
   · injection h' with e;cases e
 · obtain⟨gw,rfl,_⟩:=agh hw;exact⟨gw,rfl,by rw[hw.cellAt _ (by omega)];exact f1,by rw[hw.cellAt _ (by omega)];exact f2⟩
end
theorem apo{k:IntKind}{a b:Int}(h:a=b):Ending.returned (.int k a)= .returned (.int k b):=by rw[h]
theorem auL{a b:Bool}(h:a=b):Ending.returned (.bool a)= .returned (.bool b):=by rw[h]
theorem auM{A:Option Addr}{a b c:Nat}(h:a=b):Ending.returned (.slice A a c)= .returned (.slice A b c):=by rw[h]
section
variable {S:Nat->Prop} {w:World} {g h c:Nat} {W:Option Addr} {cw:Nat} {bs:List UInt8} {ws:List Wr} {left:Int} {off:Bool}
theorem ad6 (k:Dk S w g h c W cw bs ws left off) (hl:bs.length<=100000):
 Calls Tryz.prog 147 #[.pointer (some ⟨g,0,none⟩)] w fun e w'=>e= .returned (.int .i64 ((bs.length/512:Nat):Int))/\w=w':=by
 have c0:=k.c0;go_enter Tryz.func147,Tryz.ntmps147
 go_wp2
 go_ret
 exact⟨apo (by omega),rfl⟩
theorem ae7 (k:Dk S w g h c W cw bs ws left off) (hl:bs.length<=100000) (i:Nat) (hi:i*512+512<=bs.length):
 Calls Tryz.prog 248 #[.pointer (some ⟨g,0,none⟩), .int .i64 (i:Int)] w fun e w'=>e= .returned (.bool true)/\w=w':=by
 have HS:=hE0 (ad6 k hl);obtain⟨n,hn⟩:=nmE (bs.length/512);rw[hn]at HS;have hin:i<n:=by omega
 clear hn;go_enter Tryz.func248,Tryz.ntmps248
 go_wp2_with fail
 refine HS.out.mono ?_;rintro e w1 ⟨rfl,rfl⟩;go_wp2
 go_ret
 exact⟨rfl,rfl⟩
theorem afS (k:Dk S w g h c W cw bs ws left off) (_hl:bs.length<=100000) (i:Nat) (hi:i*512+512<=bs.length):
 Calls Tryz.prog 157 #[.pointer (some ⟨g,0,none⟩), .int .i64 (i:Int)] w fun e w'=>e= .returned (.slice (some ⟨h,i*512,none⟩) 512 (c-i*512))/\w=w':=by
 have c0:=k.c0;obtain⟨hc1,hc2⟩:=k.cap;unfold maxLen at hc2;have hne:¬c=i*512:=by omega
 go_enter Tryz.func157,Tryz.ntmps157
 go_wp2
 go_ret
 exact⟨auM (by omega),rfl⟩
theorem ah4 (k:Dk S w g h c W cw bs ws left off) (hl:bs.length<=100000) (s b cb:Nat) (d:List UInt8) (hd:d.length=512) (hs:s*512+512<=bs.length) (hf:Fil w b d):
 Calls Tryz.prog 95 #[.pointer (some ⟨g,0,none⟩), .agg #[.int .i64 (s:Int), .slice (some ⟨b,0,none⟩) 512 cb]] w fun e w'=>e= .returned (.tuple #[])/\Dk S w' g h c W cw (lay bs (s*512) d) ws left off/\Tch (fun j=>j=h) w w':=by
 obtain⟨hc1,hc2⟩:=k.cap;unfold maxLen at hc2;obtain⟨w0,hw0⟩:=nmE ((w.alloc (.cells #[.int .i64 (s:Int), .slice (some ⟨b,0,none⟩) 512 cb] 167)).drew);have hb0:Below w.heap.size w w0:=by rw[<-hw0];exact((Below.refl _ _).alloc (Nat.le_refl _) _).drew
 have d0:w0.heap[w.heap.size]?=some (.cells #[.int .i64 (s:Int), .slice (some ⟨b,0,none⟩) 512 cb] 167 (0,0)):=by rw[<-hw0];exact heap_alloc_new w _
 have k0:=k.below hb0;have f0:=hf.keep (hb0.block b hf.lt);have HST:=hE0 (afS k0 hl s hs);obtain⟨cur,hrow,hsz,htake⟩:=k0.curs;have HF:=hE0 (k0.over hrow hsz htake (s*512) d (by omega));have HSRC:=hE0 (adt f0.reads);have HN:Hid ((d.map bv).length=Nat.min 512 512):=(show _=_ by rw[List.length_map,hd];rfl);have HFIT:Hid (s*512+(d.map bv).length<=cur.size):=(show _<=_ by rw[List.length_map];omega);have HROW:=hE0 hrow;have HT:Hid (Tch (fun j=>j=h) w (w0.setRow h (cur.toList.take (s*512)++(d.map bv++cur.toList.drop (s*512+(d.map bv).length))).toArray)):=
  (Tch.of_below (S:=fun j=>j=h) hb0).trans (S':=fun j=>j=h) ⟨rfl,rfl,rfl,by simp[World.setRow],fun j _ hj=>setRow_other w0 h j _ hj⟩ (fun _ _ h=>h)
 have e0:=cell_of_row w0 w.heap.size 0 _ _ (0,0) d0;have e1:=cell_of_row w0 w.heap.size 1 _ _ (0,0) d0;simp only[List.getElem?_toArray,List.getElem?_cons_zero,List.getElem?_cons_succ]at e0 e1;have hlt0:w.heap.size<w0.heap.size:=aae d0;have HW0:=hE0 hw0;have Hb:=hE0 hd;clear hw0 hb0 d0 k0 f0 hrow hsz htake hf k hd;go_enter Tryz.func95,Tryz.ntmps95
 go_wp2_with fail
 refine aar w0.heap.size [([0,1,2,4,5],3)] [] [6] (by kernel_rfl) (by kernel_rfl) (by kernel_rfl) (fun _ _ _ _ _ h=>h) ?_;rw[HW0.out];have q0:∀x:LaterB w0.heap.size w0,x.val.cell? ⟨w.heap.size,0,none⟩=some (.int .i64 (s:Int)):=fun x=>(x.ext.cell (p:=⟨w.heap.size,0,none⟩) hlt0).trans e0;have q1:∀x:LaterB w0.heap.size w0,x.val.cell? ⟨w.heap.size,1,none⟩=some (.slice (some ⟨b,0,none⟩) 512 cb):=fun x=>(x.ext.cell (p:=⟨w.heap.size,1,none⟩) hlt0).trans e1;refine tail_cons (l:= ?seg1) ?hseg1 ?_
 case hseg1=>simp only[pick,lE1,lE2,lE3];rfl
 repeat (go_big_quiet_step (fail))
 refine wpQuiet_nil ?_;clear q0 q1;refine aau (vs:= #[.pointer (some ⟨g,0,none⟩), .int .i64 (s:Int)]) Tryz.call157 rfl rfl rfl (R:=fun r w'=>r= .slice (some ⟨h,s*512,none⟩) 512 (c-s*512)/\w'=w0) (HST.out.mono ?_) w0.heap.size (Nat.le_refl _) ?_
 · rintro e w' ⟨rfl,rfl⟩;exact⟨_,rfl,Below.refl _ _,rfl,rfl⟩
 rintro r w1 _ ⟨rfl,rfl⟩;refine aaO (l:= ?la1) (t:= ?tl1) ?hla1 ?htl1 ?_
 case hla1=>rfl
 case htl1=>simp only[pick,lE1,lE2,lE3];rfl
 refine wpQuiet_nil ?_;simp only[Act.put,lE4,lE5,lE6];refine wpList_copy_own rfl (.tmp 7) (.tmp 9) 37 37 rfl 5 Tryz.underlying37 (by kernel_rfl) h (s*512) 512 (c-s*512) ⟨b,0,none⟩ 512 cb ?cc1 ?cc2 cur 5 HROW.out (d.map bv) HN.out HSRC.out HFIT.out (afO d) ?_
 case cc1=>rfl
 case cc2=>rfl
 generalize w1.setRow h _=w2 at HF HT ⊢;go_wp2
 go_end0
 exact⟨rfl,HF.out,HT.out⟩
end
theorem alk (w:World) (n:Nat) (h1:2<=n) (h2:n<=128):
 Calls Tryz.prog 63 #[.int .i64 (n:Int)] w fun e w'=>e= .returned (.bool true)/\w=w':=by
 go_enter Tryz.func63,Tryz.ntmps63
 go_wp2
 go_ret
 exact⟨auL (decide_eq_true (by omega)),rfl⟩
theorem anJ (w:World) (n:Int) (h:n<2\/128<n):
 Calls Tryz.prog 63 #[.int .i64 n] w fun e w'=>e= .returned (.bool false)/\w=w':=by
 by_cases h1:n<2
 · clear h;go_enter Tryz.func63,Tryz.ntmps63
   go_wp2
   go_ret
   exact⟨rfl,rfl⟩
 · have h2:128<n:=by omega
   clear h;go_enter Tryz.func63,Tryz.ntmps63
   go_wp2
   go_ret
   exact⟨auL (decide_eq_false (by omega)),rfl⟩
theorem atn (w:World) (n:Int) (h:n<2\/128<n):
 Calls Tryz.prog 12 #[.int .i64 n] w fun e w'=>e= .returned (.pointer none)/\w=w':=by
 have HM:=hE0 (anJ w n h);clear h;go_enter Tryz.func12,Tryz.ntmps12
 go_wp2_with fail
 refine HM.out.mono ?_;rintro e w1 ⟨rfl,rfl⟩;go_wp2
 go_ret
 exact⟨rfl,rfl⟩
theorem adA (w:World) (n:Nat) (h1:2<=n) (h2:n<=128):
 Calls Tryz.prog 12 #[.int .i64 (n:Int)] w fun e w'=>e= .returned (.pointer (some ⟨w.heap.size+1,0,none⟩))/\Dk (adz (fun _=>False) w w') w' (w.heap.size+1) w.heap.size (n*512) none 0 (List.replicate (n*512) 0) [] (-1) false/\Below w.heap.size w w':=by
 have HM:=hE0 (alk w n h1 h2);have hmk:=fun W=>run_make_row' (P:=Tryz.prog) 37 5 (.int .u8 0) 1 Tryz.underlying37 afq rfl .i64 .i64 (n*512) (by omega) (by omega) W;have hc:((n*512:Nat):Int)=(n:Int)*512:=by omega
 rw[hc]at hmk;clear hc;go_enter Tryz.func12,Tryz.ntmps12
 go_wp2_with fail
 refine HM.out.mono ?_;rintro e w1 ⟨rfl,rfl⟩;go_wp2
 clear hmk;rw[acE];go_ret
 refine⟨rfl,⟨?_,?_,World.ownsRow_nil _ _ _ _,(fun x hx=>by cases hx), .inr ?_, .inr ?_,(fun a e=>by cases e),(fun x hx=>by cases hx)⟩,?_⟩
 · rw[List.length_replicate];simpa using heap_alloc_new (w.alloc (.cells (acd (List.replicate (n*512) 0)) 5)) (.cells #[.slice (some ⟨w.heap.size,0,none⟩) (n*512) (n*512), .slice none 0 0, .int .i64 (-1), .bool false] 128)
 · have hr:=World.ownsRow_lit (base:=0) (e:=5) (size:=1) w (acd (List.replicate (n*512) 0)) (n*512) (Nat.zero_le _) (by unfold maxLen;omega) (by rw[adW];simp);rw[List.length_replicate];have e:(acd (List.replicate (n*512) 0)).toList=(List.replicate (n*512) (0:UInt8)).map bv:=by simp[acd]
   rw[e]at hr;exact acG hr ((Below.refl _ _).alloc (Nat.le_refl _) _)
 · simp
 · simp;omega
 · exact((Below.refl _ _).alloc (Nat.le_refl _) _).alloc (by simp) _
def ac5 (bs:List UInt8) (x:Nat × List UInt8):List UInt8:=lay bs (x.1*512) x.2
def abw (bs:List UInt8) (l:List (Nat × List UInt8)):List UInt8:=l.foldl ac5 bs
def aj5 (n:Nat) (l:List (Nat × List UInt8)):Prop:=∀x∈l,x.1*512+512<=n/\x.2.length=512
theorem ahF (bs:List UInt8) (x:Nat × List UInt8) (h:x.1*512+512<=bs.length) (h2:x.2.length=512):(ac5 bs x).length=bs.length:=ach _ _ _ (by omega)
theorem aaI:∀(l:List (Nat × List UInt8)) (bs:List UInt8),aj5 bs.length l->(abw bs l).length=bs.length
 | [],_,_=>rfl
 | x::r,bs,h=>by
  have hx:=h x (by simp);have e:=ahF bs x hx.1 hx.2;have:=aaI r (ac5 bs x) (fun y hy=>by rw[e];exact h y (by simp[hy]));rw[e]at this;exact this
theorem afz (bs:List UInt8) (l:List (Nat × List UInt8)) (x:Nat × List UInt8):abw bs (l++ [x])=ac5 (abw bs l) x:=by simp[abw]
section
variable {S:Nat->Prop} {w:World} {g h c:Nat} {W:Option Addr} {cw:Nat} {bs:List UInt8} {ws:List Wr} {left:Int} {off:Bool}
theorem Dk.fits (k:Dk S w g h c W cw bs ws left off):aj5 bs.length (ws.map Wr.two):=by
 intro x hx;obtain⟨y,hy,rfl⟩:=List.mem_map.1 hx;exact⟨(k.row y hy).1,(k.row y hy).2.2.1⟩
theorem app (k:Dk S w g h c W cw bs ws left false) (hl:bs.length<=100000):
 Calls Tryz.prog 209 #[.pointer (some ⟨g,0,none⟩)] w fun e w'=>e= .returned .nilIface/\Dk S w' g h c none 0 (abw bs (ws.map Wr.two)) [] left false/\Tch S w w':=by
 have c1:=k.c1;have c3:=k.c3;have hwc:=k.wcap;unfold maxLen at hwc;go_enter Tryz.func209,Tryz.ntmps209
 go_wp2
 clear c1 c3;go_loopw [15] (fun i wr=>∃j:Nat,j<=ws.length/\i= .int .i64 j/\Dk S wr g h c W cw (abw bs ((ws.take j).map Wr.two)) ws left false/\Tch S w wr) (fun i _=>ws.length-(intOf i).toNat)
 case atStart=>exact⟨0,Nat.zero_le _,rfl,k,Tch.refl _ _⟩
 case round=>
  obtain⟨j,hj,rfl,kr,ht⟩:=hrel;by_cases hlt:j<ws.length
  · obtain⟨x,hx⟩:∃x,ws[j]?=some x:=⟨ws[j],List.getElem?_eq_getElem hlt⟩;obtain⟨gw,rfl,d0,d1⟩:=kr.at_ hx;have hxm:x∈ws:=List.mem_of_getElem? hx;obtain⟨x1,x2,x3,x4⟩:=kr.row x hxm;obtain⟨w1,hw1⟩:=nmE (wr.alloc (.cells #[.int .i64 (x.s:Int), .slice (some ⟨x.b,0,none⟩) 512 x.c] 167));have hb1:=abE hw1;have k1:=kr.below hb1;have hlen:=aaI ((ws.take j).map Wr.two) bs (fun y hy=>k.fits y (by rw[List.map_take]at hy;exact List.mem_of_mem_take hy));have HS:=hE0 (ah4 k1 (by omega) x.s x.b x.c x.d x3 x1 (x4.keep (hb1.block _ x4.lt)));have E:Hid (lay (abw bs ((ws.take j).map Wr.two)) (x.s*512) x.d=abw bs ((ws.take (j+1)).map Wr.two)):=(show _=_ by
     rw[List.take_add_one,hx,List.map_append,Option.toList_some,List.map_cons,List.map_nil,afz];rfl)
    have HT:=hE0 (ht.trans (Tch.of_below (S:=S) hb1) (fun _ _ h=>h));have HSH:=hE0 k.sh;have HW1:=hE0 hw1;clear hx x1 x2 x3 x4 k1 hb1 hw1 ht kr hlen k;go_wp2_with fail
    rw[HW1.out];refine HS.out.mono ?_;rintro e w2 ⟨rfl,k2,t2⟩;rw[E.out]at k2;have K2:=hE0 k2;have T2:=hE0 (HT.out.trans t2 (fun i _ hi=>by rw[hi];exact HSH.out));clear k2 t2 E HS HT d0 d1;go_wp2
    go_roundw
    case rel=>exact⟨j+1,by omega,by go_num,K2.out,T2.out⟩
    case measure=>simp[intOf];omega
  · obtain rfl:j=ws.length:=by omega
    rw[List.take_length]at kr;have c1:=kr.c1;have f1:=kr.thaw 1;have K2:=hE0 kr.none_;have T2:=hE0 (ht.trans (Tch.set (S:=S) wr ⟨g,1,none⟩ (.slice none 0 0) kr.sg) (fun _ _ h=>h));clear kr ht k;go_wp2
    go_ret
    exact⟨rfl,K2.out,T2.out⟩
end
def aeI{α:Type}:List α->List Bool->List α
 | x::r,true::kb=>x::aeI r kb
 | _::r,false::kb=>aeI r kb
 | _,_=> []
theorem aj6{α:Type}:∀(l:List α) (kb:List Bool) (j:Nat) (x:α),l[j]?=some x->aeI (l.take (j+1)) kb=aeI (l.take j) kb++(if kb[j]?=some true then [x] else [])
 | [],_,_,_,h=>by simp at h
 | y::r,[],j,x,h=>by cases j<;>simp[aeI]
 | y::r,b::kb,0,x,h=>by
  simp at h;subst h
  cases b<;>simp[aeI]
 | y::r,b::kb,j+1,x,h=>by
  have:=aj6 r kb j x (by simpa using h)
  cases b<;>simp[aeI,this]
theorem aep{α:Type}:∀(l:List α) (kb:List Bool) (x:α),x∈aeI l kb->x∈l
 | [],_,_,h=>by simp[aeI]at h
 | y::r,[],_,h=>by simp[aeI]at h
 | y::r,true::kb,x,h=>by
  simp[aeI]at h;rcases h with rfl | h
  · simp
  · simp[aep r kb x h]
 | y::r,false::kb,x,h=>by
  simp[aeI]at h;simp[aep r kb x h]
def Kp (S:Nat->Prop) (w:World) (K:Option Addr) (kb:List Bool):Prop:=0<kb.length->∃b o,K=some ⟨b,o,none⟩/\b<w.heap.size/\¬S b/\∀j u,kb[j]?=some u->w.cell? ⟨b,o+j,none⟩=some (.bool u)
section
variable {S:Nat->Prop} {w w':World} {g h c:Nat} {W:Option Addr} {cw:Nat} {bs:List UInt8} {ws:List Wr} {left:Int} {off:Bool} {K:Option Addr} {ck:Nat} {kb:List Bool}
theorem Kp.tch (k:Kp S w K kb) (ht:Tch S w w'):Kp S w' K kb:=fun hn=>by
 obtain⟨b,o,e,hb,hs,hc⟩:=k hn;exact⟨b,o,e,Nat.lt_of_lt_of_le hb ht.size,hs,fun j u hu=>(World.cell?_of_block (w:=w) (a:=⟨b,o+j,none⟩) (ht.block b hb hs)).trans (hc j u hu)⟩
theorem apq (k:Dk S w g h c W cw bs ws left off) (hl:bs.length<=100000) (hk:Kp S w K kb) (hkl:kb.length<=9223372036854775807):
 Calls Tryz.prog 32 #[.pointer (some ⟨g,0,none⟩), .slice K kb.length ck] w fun e w'=>e= .returned (.tuple #[])/\Dk S w' g h c none 0 (abw bs (aeI (ws.map Wr.two) kb)) [] (-1) false/\Tch S w w':=by
 have c1:=k.c1;have hwc:=k.wcap;unfold maxLen at hwc;go_enter Tryz.func32,Tryz.ntmps32
 go_wp2
 clear c1;go_loopw [11] (fun i wr=>∃j:Nat,j<=ws.length/\i= .int .i64 j/\Dk S wr g h c W cw (abw bs (aeI ((ws.map Wr.two).take j) kb)) ws left off/\Tch S w wr) (fun i _=>ws.length-(intOf i).toNat)
 case atStart=>exact⟨0,Nat.zero_le _,rfl,by simp[aeI,abw];exact k,Tch.refl _ _⟩
 case round=>
  obtain⟨j,hj,rfl,kr,ht⟩:=hrel;by_cases hlt:j<ws.length
  · obtain⟨x,hx⟩:∃x,ws[j]?=some x:=⟨ws[j],List.getElem?_eq_getElem hlt⟩;obtain⟨gw,rfl,d0,d1⟩:=kr.at_ hx;have hxm:x∈ws:=List.mem_of_getElem? hx;obtain⟨x1,x2,x3,x4⟩:=kr.row x hxm;obtain⟨w1,hw1⟩:=nmE (wr.alloc (.cells #[.int .i64 (x.s:Int), .slice (some ⟨x.b,0,none⟩) 512 x.c] 167));have hb1:=abE hw1;have k1:=kr.below hb1;have hlen:=aaI (aeI ((ws.map Wr.two).take j) kb) bs (fun y hy=>k.fits y (List.mem_of_mem_take (aep _ _ _ hy)));have HS:=hE0 (ah4 k1 (by omega) x.s x.b x.c x.d x3 x1 (x4.keep (hb1.block _ x4.lt)));have E:=aj6 (ws.map Wr.two) kb j (Wr.two x) (by rw[List.getElem?_map,hx];rfl);have HT:=hE0 (ht.trans (Tch.of_below (S:=S) hb1) (fun _ _ h=>h));have HSH:=hE0 k.sh;have K1:=hE0 k1;have hkr:=hk.tch HT.out;have HW1:=hE0 hw1;by_cases hkj:kb[j]?=some true
    · rw[if_pos hkj]at E;have hjl:j<kb.length:=by
       rcases Nat.lt_or_ge j kb.length with h | h
       · exact h
       · rw[List.getElem?_eq_none h]at hkj;cases hkj
      obtain⟨b,o,rfl,_,_,hcb⟩:=hkr (by omega);have q:=hcb j true hkj;rw[<-hw1]at q;have E2:Hid (lay (abw bs (aeI ((ws.map Wr.two).take j) kb)) (x.s*512) x.d=abw bs (aeI ((ws.map Wr.two).take (j+1)) kb)):=(show _=_ by
       rw[E,afz];rfl)
      clear hx x1 x2 x3 x4 k1 hb1 hw1 ht kr hlen hkr E hkj hcb k;go_wp2_with fail
      rw[HW1.out];refine HS.out.mono ?_;rintro e w2 ⟨rfl,k2,t2⟩;rw[E2.out]at k2;have K2:=hE0 k2;have T2:=hE0 (HT.out.trans t2 (fun i _ hi=>by rw[hi];exact HSH.out));clear k2 t2 E2 HS HT d0 d1 q;go_wp2
      go_roundw
      case rel=>exact⟨j+1,by omega,by go_num,K2.out,T2.out⟩
      case measure=>simp[intOf];omega
    · rw[if_neg hkj,List.append_nil]at E;have K2:Hid (Dk S w1 g h c (some ⟨gw,0,none⟩) cw (abw bs (aeI ((ws.map Wr.two).take (j+1)) kb)) ws left off):=by rw[E];exact k1
      by_cases hjl:j<kb.length
      · have hkf:kb[j]?=some false:=by
         rw[List.getElem?_eq_getElem hjl]at hkj ⊢
         cases h:kb[j]<;>simp_all
        obtain⟨b,o,rfl,_,_,hcb⟩:=hkr (by omega);have q:=hcb j false hkf;rw[<-hw1]at q;clear hx x1 x2 x3 x4 k1 hb1 hw1 ht kr hlen hkr E hkj hcb k hkf;go_wp2
        rw[HW1.out];go_roundw
        case rel=>exact⟨j+1,by omega,by go_num,K2.out,HT.out⟩
        case measure=>simp[intOf];omega
      · clear hx x1 x2 x3 x4 k1 hb1 hw1 ht kr hlen hkr E hkj k;go_wp2
        rw[HW1.out];go_roundw
        case rel=>exact⟨j+1,by omega,by go_num,K2.out,HT.out⟩
        case measure=>simp[intOf];omega
  · obtain rfl:j=ws.length:=by omega
    rw[List.take_of_length_le (by simp)]at kr;have c1:=kr.c1;have f1:=kr.thaw 1;have k2:=kr.none_;have d2:=k2.c2;have f2:=k2.thaw 2;have k3:=k2.set2 (-1);have d3:=k3.c3;have f3:=k3.thaw 3;have K4:=hE0 (k3.set3 false);have T4:=hE0 (((ht.trans (Tch.set (S:=S) wr ⟨g,1,none⟩ (.slice none 0 0) kr.sg) (fun _ _ h=>h)).trans (Tch.set (S:=S) _ ⟨g,2,none⟩ (.int .i64 (-1)) kr.sg) (fun _ _ h=>h)).trans (Tch.set (S:=S) _ ⟨g,3,none⟩ (.bool false) kr.sg) (fun _ _ h=>h));clear kr ht k k2 k3 hk;go_wp2
    go_end0
    exact⟨rfl,K4.out,T4.out⟩
end
def aaZ (bs:List UInt8) (l:List (Nat × List UInt8)) (i:Nat):List UInt8:=match l.reverse.find? (fun x=>x.1==i)with
 | some x=>x.2
 | none=>(bs.drop (i*512)).take 512
theorem arD (bs:List UInt8) (l:List (Nat × List UInt8)) (i j:Nat) (x:Nat × List UInt8) (hx:l[j]?=some x) (he:x.1=i) (hn:∀y∈l.drop (j+1),y.1≠i):aaZ bs l i=x.2:=by
 have hj:j<l.length:=by
  rcases Nat.lt_or_ge j l.length with h | h
  · exact h
  · rw[List.getElem?_eq_none h]at hx;cases hx
 have e:l.reverse=(l.drop (j+1)).reverse++x::(l.take j).reverse:=by
  rw[List.getElem?_eq_getElem hj]at hx;injection hx with hx;subst hx;conv=>lhs;rw[<-List.take_append_drop (j+1) l]
  rw[List.reverse_append,List.take_succ_eq_append_getElem hj,List.reverse_append];rfl
 have hf:(l.drop (j+1)).reverse.find? (fun x=>x.1==i)=none:=by
  rw[List.find?_eq_none];intro y hy;have:=hn y (by simpa using hy);simpa using this
 unfold aaZ;rw[e,List.find?_append,hf,Option.none_or,List.find?_cons_of_pos (by simpa using he)]
theorem aeq (bs:List UInt8) (l:List (Nat × List UInt8)) (i:Nat) (hn:∀y∈l,y.1≠i):aaZ bs l i=(bs.drop (i*512)).take 512:=by
 have hf:l.reverse.find? (fun x=>x.1==i)=none:=by
  rw[List.find?_eq_none];intro y hy;have:=hn y (by simpa using hy);simpa using this
 unfold aaZ;rw[hf]
def arE (bs:List UInt8) (w:World) (e:Ending) (w':World):Prop:=∃b o c',e= .returned (.slice (some ⟨b,o,none⟩) 512 c')/\Rd w w.heap.size (some ⟨b,o,none⟩) 512 bs/\w=w'
section
variable {S:Nat->Prop} {w:World} {g h c:Nat} {W:Option Addr} {cw:Nat} {bs:List UInt8} {ws:List Wr} {left:Int} {off:Bool}
theorem arF (k:Dk S w g h c W cw bs ws left off) (hl:bs.length<=100000) (i:Nat) (hi:i*512+512<=bs.length):
 Calls Tryz.prog 249 #[.pointer (some ⟨g,0,none⟩), .int .i64 (i:Int)] w fun e w'=>arE (aaZ bs (ws.map Wr.two) i) w e w':=by
 have c1:=k.c1;have hwc:=k.wcap;unfold maxLen at hwc;have HST:=hE0 (afS k hl i hi);go_enter Tryz.func249,Tryz.ntmps249
 go_wp2
 go_loop [5] (fun t=>∃j:Nat,j<=ws.length/\t= .int .i64 ((j:Int)-1)/\∀y∈(ws.map Wr.two).drop j,y.1≠i) (fun t=>(intOf t+1).toNat)
 case atStart=>exact⟨ws.length,Nat.le_refl _,rfl,by rw[List.drop_of_length_le (by simp)];intro y hy;cases hy⟩
 case round=>
  obtain⟨j,hj,rfl,hn⟩:=hrel;rcases j with _ | j
  · have hn2:=aeq bs (ws.map Wr.two) i (by simpa using hn);have hrd:=k.reads.sub (i*512) 512 hi;rw[<-hn2,Nat.zero_add]at hrd;have HRD:=hE0 hrd;clear hn hn2 hrd k;go_wp2_with fail
    refine HST.out.mono ?_;rintro e w1 ⟨rfl,rfl⟩;go_wp2
    go_ret
    exact⟨h,i*512,_,rfl,HRD.out,rfl⟩
  · obtain⟨x,hx⟩:∃x,ws[j]?=some x:=⟨ws[j],List.getElem?_eq_getElem (by omega)⟩;obtain⟨gw,rfl,d0,d1⟩:=k.at_ hx;have hxm:x∈ws:=List.mem_of_getElem? hx;obtain⟨x1,x2,x3,x4⟩:=k.row x hxm;have ej:((j+1:Nat):Int)-1=(j:Int):=by omega
    rw[ej];have hjl:j<ws.length:=by omega
    by_cases hs:x.s=i
    · have hn2:=arD bs (ws.map Wr.two) i j (Wr.two x) (by rw[List.getElem?_map,hx];rfl) hs hn;have hrd:=x4.reads;rw[x3]at hrd;have e:x.d=aaZ bs (ws.map Wr.two) i:=hn2.symm;rw[e]at hrd;have HRD:=hE0 hrd;have hq:((x.s:Int)==(i:Int))=true:=by rw[beq_iff_eq];omega
      clear hn hn2 hrd e k x1 x2 x3 x4 hx ej hs;go_wp2
      go_ret
      exact⟨x.b,0,_,rfl,HRD.out,rfl⟩
    · have hq:((x.s:Int)==(i:Int))=false:=by rw[beq_eq_false_iff_ne];omega
      have hn2:∀y∈(ws.map Wr.two).drop j,y.1≠i:=by
       intro y hy;rw[List.drop_eq_getElem_cons (by simpa using hjl)]at hy;rcases List.mem_cons.1 hy with rfl | hy
       · rw[List.getElem?_eq_getElem hjl]at hx;injection hx with hx;rw[List.getElem_map,hx];exact hs
       · exact hn y hy
      have HN:=hE0 hn2;clear hn hn2 k x1 x2 x3 x4 hx ej hs;go_wp2
      go_round
      case rel=>exact⟨j,by omega,rfl,HN.out⟩
      case measure=>simp[intOf]
theorem amF (k:Dk S w g h c W cw bs ws left false) (hl:bs.length<=100000) (i:Nat) (hi:i*512+512<=bs.length):
 Calls Tryz.prog 204 #[.pointer (some ⟨g,0,none⟩), .int .i64 (i:Int)] w fun e w'=>arm (aaZ bs (ws.map Wr.two) i) w e w':=by
 have HH:=hE0 (ae7 k hl i hi);have HL:=hE0 (arF k hl i hi);have c3:=k.c3;clear k;obtain⟨ys,hys⟩:=nmE (aaZ bs (ws.map Wr.two) i);rw[hys]at HL ⊢;clear hys;go_enter Tryz.func204,Tryz.ntmps204
 go_wp2_with fail
 refine HH.out.mono ?_;rintro e w1 ⟨rfl,rfl⟩;go_wp2_with fail
 refine HL.out.mono ?_;rintro e w1 ⟨b,o,c',rfl,hr,rfl⟩;have hlen:ys.length=512:=hr.1;have HC:=abV (some ⟨b,o,none⟩) c' w.heap.size ys w (by rw[hlen];exact hr) (Nat.le_refl _) (fun e=>by cases e) (by omega);rw[hlen]at HC;have HC:=hE0 HC;clear hlen hr;go_wp2_with fail
 refine HC.out.mono ?_;rintro e w2 ⟨A',c2,rfl,ho,hb⟩;have HO:=hE0 ho;clear ho;go_wp2
 go_ret2
 exact⟨A',c2,rfl,HO.out,hb⟩
end
def Wr.one (x:Wr):Value:= .slice (some ⟨x.b,0,none⟩) 512 x.c
structure Rq (S:Nat->Prop) (w:World) (g:Nat) (L:Option Addr) (cl:Nat) (W:Option Addr) (cw:Nat) (ls ws:List Wr) (left:Int) (off:Bool):Prop where
 obj:w.heap[g]?=some (.cells #[.slice L ls.length cl, .slice W ws.length cw, .bool off, .int .i64 left] 64 (0,0))
 lrow:w.ownsRow 0 37 1 (.slice L ls.length cl) ls.length (ls.map Wr.one)
 wrow:w.ownsRow 0 170 2 (.slice W ws.length cw) ws.length (akY ws)
 lf:∀x∈ls,x.d.length=512/\Fil w x.b x.d
 wf:∀x∈ws,x.s<ls.length/\x.d.length=512/\Fil w x.b x.d
 sg:S g
 sl:∀a,L=some a->S a.block
 sw:∀a,W=some a->S a.block
 sx:∀x∈ls,S x.b
 sy:∀x∈ws,S x.b
section
variable {S S':Nat->Prop} {w w':World} {g:Nat} {L:Option Addr} {cl:Nat} {W:Option Addr} {cw:Nat} {ls ws:List Wr} {left:Int} {off:Bool}
end
def avA (ls:List Wr):List UInt8:=(ls.map Wr.d).flatten
section
variable {S:Nat->Prop} {w:World} {g:Nat} {L:Option Addr} {cl:Nat} {W:Option Addr} {cw:Nat} {ls ws:List Wr} {left:Int} {off:Bool} {K:Option Addr} {ck:Nat} {kb:List Bool}
end
theorem ah5 (bs:List UInt8) (l:List (Nat × List UInt8)) (x:Nat × List UInt8) (i:Nat):aaZ bs (l++ [x]) i=if x.1=i then x.2 else aaZ bs l i:=by
 unfold aaZ;rw[List.reverse_append,List.reverse_singleton,List.singleton_append,List.find?_cons];by_cases h:x.1=i
 · rw[if_pos h];simp[h]
 · rw[if_neg h];have:(x.1==i)=false:=by rw[beq_eq_false_iff_ne];exact h
   rw[this]
structure Two (Sd Sr:Nat->Prop) (B:Nat) (w:World) (g h c:Nat) (W:Option Addr) (cw gr:Nat) (L:Option Addr) (cl:Nat) (V:Option Addr) (cv:Nat) (bs:List UInt8) (ls ws vs:List Wr) (left:Int) (off:Bool) (n:Nat):Prop where
 d:Dk Sd w g h c W cw bs ws left off
 r:Rq Sr w gr L cl V cv ls vs left off
 sd:∀j,Sd j->B<=j/\j<w.heap.size/\¬Sr j
 sr:∀j,Sr j->B<=j/\j<w.heap.size
 hj:avA ls=bs
 hw:vs.map Wr.two=ws.map Wr.two
 l1: -1<=left
 l2:left<=9223372036854775807
 hn:ws.length<=n
 hl:ls.length<=128
 hB:B<=w.heap.size
section
variable {Sd Sr:Nat->Prop} {B:Nat} {w w1 w2:World} {g h c:Nat} {W:Option Addr} {cw gr:Nat} {L:Option Addr} {cl:Nat} {V:Option Addr} {cv:Nat} {bs:List UInt8} {ls ws vs:List Wr} {left:Int} {off:Bool} {n:Nat}
end
inductive QT where
 | fin:QT
 | one:Nat->QT->QT
 | two:Nat->QT->Nat->QT->QT
 | three:Nat->QT->Nat->QT->Nat->QT->QT
section
variable {P:Program} {ops:Array Oper} {Q:Exit->Act->World->Prop} {T:List Nat}
def alm (T:List Nat):QT->Nat
 | .fin=>T.length
 | .one _ q=>1+alm T q
 | .two _ q _ _=>1+alm T q
 | .three _ q _ _ _ _=>1+alm T q
def agN (ops:Array Oper) (T:List Nat):Array Bool->QT->Bool
 | l, .fin=>atb ops l T
 | l, .one i q=>Region.ready .any ops l== [i]&&(!mv ops i&&agN ops T (l.setIfInBounds i true) q)
 | l, .two i q j r=>Region.ready .any ops l== [i,j]&&(!mv ops i&&(!mv ops j&&(alm T q==alm T r&&(agN ops T (l.setIfInBounds i true) q&&agN ops T (l.setIfInBounds j true) r))))
 | l, .three i q j r k s=>Region.ready .any ops l== [i,j,k]&&(!mv ops i&&(!mv ops j&&(!mv ops k&&(alm T q==alm T r&&(alm T q==alm T s&&(agN ops T (l.setIfInBounds i true) q&&(agN ops T (l.setIfInBounds j true) r&&agN ops T (l.setIfInBounds k true) s)))))))
def wpQ (P:Program) (ops:Array Oper) (Q:Exit->Act->World->Prop) (T:List Nat) (B:Nat):QT->Act->World->Prop
 | .fin,a,w=>wpList P ops Q (pick ops T) a w
 | .one i q,a,w=>wpOp P ops Q i (fun a' w'=>Below B w w'/\wpQ P ops Q T B q a' w') a w
 | .two i q j r,a,w=>wpOp P ops Q i (fun a' w'=>Below B w w'/\wpQ P ops Q T B q a' w') a w/\wpOp P ops Q j (fun a' w'=>Below B w w'/\wpQ P ops Q T B r a' w') a w
 | .three i q j r k s,a,w=>wpOp P ops Q i (fun a' w'=>Below B w w'/\wpQ P ops Q T B q a' w') a w/\wpOp P ops Q j (fun a' w'=>Below B w w'/\wpQ P ops Q T B r a' w') a w/\wpOp P ops Q k (fun a' w'=>Below B w w'/\wpQ P ops Q T B s a' w') a w
theorem ah6{B n i:Nat}{q:QT}{l:Array Bool}{a:Act}{w:World}(hm:mv ops i=false)
 (ih:∀a w,wpQ P ops Q T B q a w->abU P ops Q (Below B w) T n (l.setIfInBounds i true) a w)
 (h:wpOp P ops Q i (fun a' w'=>Below B w w'/\wpQ P ops Q T B q a' w') a w):
 wpOp P ops Q i (fun a' w'=>(i∉T->mv ops i=false->Below B w w')/\(mv ops i=true->w'=w)/\abU P ops Q (Below B w) T n (l.setIfInBounds i true) a' w') a w:=
 wpOp_mono (fun a' w' hh=>by
  refine⟨fun _ _=>hh.1,fun e=> ?_,aa7 (fun w3 h4=>hh.1.trans h4) _ _ _ _ (ih a' w' hh.2)⟩;rw[hm]at e
  cases e) h
theorem acM (B:Nat):∀(q:QT) (l:Array Bool) (a:Act) (w:World),agN ops T l q=true->wpQ P ops Q T B q a w->abU P ops Q (Below B w) T (alm T q) l a w
 | .fin,l,a,w,hc,h=>aeS (fun _ h=>h) T l a w (fun _ h=>h) hc h
 | .one i q,l,a,w,hc,h=>by
  simp only[agN,Bool.and_eq_true,beq_iff_eq,Bool.not_eq_true']at hc;obtain⟨h1,m1,c1⟩:=hc;have k:=ah6 m1 (fun a w=>acM B q _ a w c1) h;show abU P ops Q (Below B w) T (1+alm T q) l a w;rw[Nat.add_comm];refine⟨fun h0=>(by rw[h1]at h0;cases h0),fun j hj=> ?_⟩;rw[h1]at hj;obtain rfl:j=i:=by simpa using hj
  exact k
 | .two i q j r,l,a,w,hc,h=>by
  simp only[agN,Bool.and_eq_true,beq_iff_eq,Bool.not_eq_true']at hc;obtain⟨h1,m1,m2,e2,c1,c2⟩:=hc;have k1:=ah6 m1 (fun a w=>acM B q _ a w c1) h.1;have k2:=ah6 m2 (fun a w=>acM B r _ a w c2) h.2;rw[<-e2]at k2;show abU P ops Q (Below B w) T (1+alm T q) l a w;rw[Nat.add_comm];refine⟨fun h0=>(by rw[h1]at h0;cases h0),fun j' hj=> ?_⟩;rw[h1]at hj;rcases List.mem_cons.1 hj with rfl | hj
  · exact k1
  · obtain rfl:j'=j:=by simpa using hj
    exact k2
 | .three i q j r k s,l,a,w,hc,h=>by
  simp only[agN,Bool.and_eq_true,beq_iff_eq,Bool.not_eq_true']at hc;obtain⟨h1,m1,m2,m3,e2,e3,c1,c2,c3⟩:=hc;have k1:=ah6 m1 (fun a w=>acM B q _ a w c1) h.1;have k2:=ah6 m2 (fun a w=>acM B r _ a w c2) h.2.1;have k3:=ah6 m3 (fun a w=>acM B s _ a w c3) h.2.2;rw[<-e2]at k2;rw[<-e3]at k3;show abU P ops Q (Below B w) T (1+alm T q) l a w;rw[Nat.add_comm];refine⟨fun h0=>(by rw[h1]at h0;cases h0),fun j' hj=> ?_⟩;rw[h1]at hj;rcases List.mem_cons.1 hj with rfl | hj
  · exact k1
  · rcases List.mem_cons.1 hj with rfl | hj
    · exact k2
    · obtain rfl:j'=k:=by simpa using hj
      exact k3
theorem aln{id:Nat}{a:Act}{w:World}(B:Nat) (rs:List Nat) (q:QT) (T:List Nat) (hm:P.follows .mixedOrders=true) (hsel:Region.noSelect ops=true)
 (hc:(aoB ops T (Array.replicate ops.size false) rs&&(agN ops T (ajA (Array.replicate ops.size false) rs) q&&alm T q+rs.length==ops.size))=true)
 (hQ:∀c a t v w,Q (.panic c) (Act.put a (some t) v) w->Q (.panic c) a w)
 (h:wpQuiet P ops (ace B w.drew) (fun a'=>wpQ P ops Q T B q a' w.drew) (pick ops rs) a):(Code.region id ops true).wp P Q a w:=by
 simp only[Bool.and_eq_true,beq_iff_eq]at hc;obtain⟨h1,h2,h3⟩:=hc;have hs:=acW (T:=T) hsel hQ B w.drew _ (alm T q) rs _ a h1 h (fun a' ha=>acM B q _ a' _ h2 ha);rw[h3]at hs;exact wp_region_any hm (ac7 _ _ _ _ hs)
theorem auN{B:Nat}{rs:List Nat}{q:QT}{a:Act}{w:World}{l:List Oper}(hl:pick ops rs=l) (h:wpQuiet P ops (ace B w) (fun a'=>wpQ P ops Q T B q a' w) l a):wpQuiet P ops (ace B w) (fun a'=>wpQ P ops Q T B q a' w) (pick ops rs) a:=by
 subst hl;exact h
theorem avB{B:Nat}{a:Act}{w:World}{t:List Oper}(ht:pick ops T=t) (h:wpList P ops Q t a w):wpQ P ops Q T B .fin a w:=by
 subst ht;exact h
end
def Ag (S:List Nat) (a0 a:Act):Prop:=∀s∈S,a.tmps.getD s undef=a0.tmps.getD s undef
theorem Ag.refl (S:List Nat) (a:Act):Ag S a a:=fun _ _=>rfl
theorem Ag.put{S:List Nat}{a0 a:Act}(h:Ag S a0 a){d:Nat}(hd:d∉S) (v:Value):Ag S a0 (a.put (some d) v):=fun s hs=>by
 have hne:d≠s:=fun e=>hd (e▸hs);rw[<-h s hs];simp[Act.put,Array.getElem?_setIfInBounds_ne hne]
theorem ad7{x y:Nat}(h:x≠y):∀d:Tmp,(some x:Option Tmp)=some d->(some y:Option Tmp)≠some d:=fun _ e k=>h (Option.some.inj (e.trans k.symm))
def adq (p:Nat):Value:= .pointer (some ⟨p,0,none⟩)
section
variable {P:Program} {ops:Array Oper} {Q:Exit->Act->World->Prop}
def Stp (P:Program) (ops:Array Oper) (Q:Exit->Act->World->Prop) (B:Nat) (w0:World) (S:List Nat) (a0:Act) (i d:Nat) (v:Value):Prop:=
 ∀(a:Act) (w:World) (K:Act->World->Prop),Ag S a0 a->Below B w0 w->(∀w',Below w.heap.size w w'->K (a.put (some d) v) w')->wpOp P ops Q i K a w
def Sta (P:Program) (ops:Array Oper) (Q:Exit->Act->World->Prop) (j e:Nat) (cs:Array Value) (ty:TypeId):Prop:=
 ∀(a:Act) (w:World) (K:Act->World->Prop),K (a.put (some e) (adq w.heap.size)) (w.alloc (.cells cs ty))->wpOp P ops Q j K a w
theorem amG{B i d:Nat}{w0:World}{S:List Nat}{a0:Act}{v:Value}{f:FuncId}{args:Array Operand}{tys:Array TypeId}{ty:TypeId}{pos:String}{after:Array Edge}
 (hf:∀(xs:Array Value) (w:World),(callFunc f xs).run P w= .ok (.enter f xs) w)
 (ho:ops[i]?=some {dst:=some d,op:= .call {callee:= .value (.func f),args:=args,argTypes:=tys},type:=ty,pos:=pos,after:=after,guard:=none})
 {vs:Array Value} (hvl:∀a,Ag S a0 a->args.toList.map a.eval=vs.toList)
 (hc:∀w,Below B w0 w->Calls P f vs w (fun e w'=>e= .returned v/\Below w.heap.size w w')):Stp P ops Q B w0 S a0 i d v:=by
 intro a w K ha hb hk;have hw:Region.wanted {dst:=some d,op:= .call {callee:= .value (.func f),args:=args,argTypes:=tys},type:=ty,pos:=pos,after:=after,guard:=none} (yielded ops a.tmps)=true:=rfl;unfold wpOp;simp only[ho];rw[if_pos hw];refine .inl ?_;have hvs:args.map a.eval=vs:=Array.ext' (by simpa using hvl a ha);subst hvs;unfold Oper.wp;rw[execOp_call_go,hf];simp only[Oper.upon,Array.empty_append,Array.append_empty];refine(hc w hb).mono fun e w' hh=> ?_;obtain⟨rfl,h1⟩:=hh;exact hk w' h1
theorem aj7{j e:Nat}{o:Oper}{cs:Array Value}{ty:TypeId}(ho:ops[j]?=some o) (hd:o.dst=some e) (hw:∀xs,Region.wanted o xs=true)
 (hr:∀(ρ:Operand->Value) (w:World),(execOp ρ o).run P w= .ok (.value (.pointer (some ⟨w.heap.size,0,none⟩))) (w.alloc (.cells cs ty))):Sta P ops Q j e cs ty:=by
 intro a w K hk;unfold wpOp;simp only[ho];rw[if_pos (hw _)];refine .inl ?_;unfold Oper.wp;rw[hr];show K (a.put o.dst _) _;rw[hd];exact hk
end
def arG (_ _ _ _:Nat):QT:= .fin
def arH (i1 i2 j1 j2:Nat):QT:= .one i2 (arG i1 i2 j1 j2)
def ato (i1 i2 j1 j2:Nat):QT:= .one j1 (arG i1 i2 j1 j2)
def atp (i1 i2 j1 j2:Nat):QT:= .one j2 (arG i1 i2 j1 j2)
def atq (i1 i2 j1 j2:Nat):QT:= .one i1 (arH i1 i2 j1 j2)
def atr (i1 i2 j1 j2:Nat):QT:= .two i2 (ato i1 i2 j1 j2) j1 (arH i1 i2 j1 j2)
def att (i1 i2 j1 j2:Nat):QT:= .two i2 (atp i1 i2 j1 j2) j2 (arH i1 i2 j1 j2)
def auO (i1 i2 j1 j2:Nat):QT:= .two j1 (atp i1 i2 j1 j2) j2 (ato i1 i2 j1 j2)
def auP (i1 i2 j1 j2:Nat):QT:= .two i1 (atr i1 i2 j1 j2) j1 (atq i1 i2 j1 j2)
def auQ (i1 i2 j1 j2:Nat):QT:= .two i1 (att i1 i2 j1 j2) j2 (atq i1 i2 j1 j2)
def auR (i1 i2 j1 j2:Nat):QT:= .three i2 (auO i1 i2 j1 j2) j1 (att i1 i2 j1 j2) j2 (atr i1 i2 j1 j2)
def auS (i1 i2 j1 j2:Nat):QT:= .three i1 (auR i1 i2 j1 j2) j1 (auQ i1 i2 j1 j2) j2 (auP i1 i2 j1 j2)
def auT (i1 i2 j1 j2:Nat):QT:=auS i1 i2 j1 j2
section
variable {P:Program} {ops:Array Oper} {Q:Exit->Act->World->Prop} {T:List Nat} {B i1 i2 j1 j2 d1 d2 e1 e2:Nat} {w0:World} {S:List Nat} {a0:Act} {v1 v2:Value} {cs:Array Value} {ty:TypeId}
structure adf (P:Program) (ops:Array Oper) (Q:Exit->Act->World->Prop) (T:List Nat) (B i1 i2 j1 j2 d1 d2 e1 e2:Nat) (w0:World) (S:List Nat) (a0:Act) (v1 v2:Value) (cs:Array Value) (ty:TypeId):Prop where
 s1:Stp P ops Q B w0 S a0 i1 d1 v1
 s2:Stp P ops Q B w0 S a0 i2 d2 v2
 t1:Sta P ops Q j1 e1 cs ty
 t2:Sta P ops Q j2 e2 cs ty
 n1:d1∉S
 n2:d2∉S
 n3:e1∉S
 n4:e2∉S
 e12:e1≠d1/\e1≠d2/\e2≠d1/\e2≠d2/\e2≠e1
 hB:B=w0.heap.size
 fin:∀(p1 p2:Nat) (w:World),B<=p1->B<=p2->p1≠p2->w.heap[p1]?=some (.cells cs ty (0,0))->w.heap[p2]?=some (.cells cs ty (0,0))->Below B w0 w->
  wpQ P ops Q T B .fin ((((a0.put (some d1) v1).put (some d2) v2).put (some e1) (adq p1)).put (some e2) (adq p2)) w
theorem alo (h:adf P ops Q T B i1 i2 j1 j2 d1 d2 e1 e2 w0 S a0 v1 v2 cs ty):∀(p1 p2:Nat) (w:World),Below B w0 w->B<=p1->w.heap[p1]?=some (.cells cs ty (0,0))->B<=p2->w.heap[p2]?=some (.cells cs ty (0,0))->p1≠p2->wpQ P ops Q T B (arG i1 i2 j1 j2) ((((a0.put (some d1) v1).put (some d2) v2).put (some e1) (adq p1)).put (some e2) (adq p2)) w:=by
 intro p1 p2 w hb b1 x1 b2 x2 ne;exact h.fin p1 p2 w b1 b2 ne x1 x2 hb
theorem alp (h:adf P ops Q T B i1 i2 j1 j2 d1 d2 e1 e2 w0 S a0 v1 v2 cs ty):∀(p1 p2:Nat) (w:World),Below B w0 w->B<=p1->w.heap[p1]?=some (.cells cs ty (0,0))->B<=p2->w.heap[p2]?=some (.cells cs ty (0,0))->p1≠p2->wpQ P ops Q T B (arH i1 i2 j1 j2) (((a0.put (some d1) v1).put (some e1) (adq p1)).put (some e2) (adq p2)) w:=by
 intro p1 p2 w hb b1 x1 b2 x2 ne;have hs:B<=w.heap.size:=Nat.le_trans (Nat.le_of_eq h.hB) hb.size;refine h.s2 _ _ _ (Ag.put (Ag.put (Ag.put (Ag.refl S a0) h.n1 v1) h.n3 (adq p1)) h.n4 (adq p2)) hb (fun w' hw=>⟨hw.mono hs,?_⟩);rw[Act.put_comm ((a0.put (some d1) v1).put (some e1) (adq p1)) (adq p2) v2 (ad7 h.e12.2.2.2.1),Act.put_comm (a0.put (some d1) v1) (adq p1) v2 (ad7 h.e12.2.1)];exact alo h p1 p2 w' (hb.trans (hw.mono hs)) b1 ((hw.block p1 (aae x1)).trans x1) b2 ((hw.block p2 (aae x2)).trans x2) ne
theorem apr (h:adf P ops Q T B i1 i2 j1 j2 d1 d2 e1 e2 w0 S a0 v1 v2 cs ty):∀(p2:Nat) (w:World),Below B w0 w->B<=p2->w.heap[p2]?=some (.cells cs ty (0,0))->wpQ P ops Q T B (ato i1 i2 j1 j2) (((a0.put (some d1) v1).put (some d2) v2).put (some e2) (adq p2)) w:=by
 intro p2 w hb b2 x2;have hs:B<=w.heap.size:=Nat.le_trans (Nat.le_of_eq h.hB) hb.size;refine h.t1 _ _ _ ⟨(Below.refl _ _).alloc hs _,?_⟩;rw[Act.put_comm ((a0.put (some d1) v1).put (some d2) v2) (adq p2) (adq w.heap.size) (ad7 h.e12.2.2.2.2)];exact alo h w.heap.size p2 _ (hb.trans ((Below.refl _ _).alloc hs _)) hs (heap_alloc_new w _) b2 ((heap_alloc_old _ _ (aae x2)).trans x2) (fun e=>by have:=aae x2;omega)
theorem aps (h:adf P ops Q T B i1 i2 j1 j2 d1 d2 e1 e2 w0 S a0 v1 v2 cs ty):∀(p1:Nat) (w:World),Below B w0 w->B<=p1->w.heap[p1]?=some (.cells cs ty (0,0))->wpQ P ops Q T B (atp i1 i2 j1 j2) (((a0.put (some d1) v1).put (some d2) v2).put (some e1) (adq p1)) w:=by
 intro p1 w hb b1 x1;have hs:B<=w.heap.size:=Nat.le_trans (Nat.le_of_eq h.hB) hb.size;refine h.t2 _ _ _ ⟨(Below.refl _ _).alloc hs _,?_⟩;exact alo h p1 w.heap.size _ (hb.trans ((Below.refl _ _).alloc hs _)) b1 ((heap_alloc_old _ _ (aae x1)).trans x1) hs (heap_alloc_new w _) (fun e=>by have:=aae x1;omega)
theorem apt (h:adf P ops Q T B i1 i2 j1 j2 d1 d2 e1 e2 w0 S a0 v1 v2 cs ty):∀(p1 p2:Nat) (w:World),Below B w0 w->B<=p1->w.heap[p1]?=some (.cells cs ty (0,0))->B<=p2->w.heap[p2]?=some (.cells cs ty (0,0))->p1≠p2->wpQ P ops Q T B (atq i1 i2 j1 j2) ((a0.put (some e1) (adq p1)).put (some e2) (adq p2)) w:=by
 intro p1 p2 w hb b1 x1 b2 x2 ne;have hs:B<=w.heap.size:=Nat.le_trans (Nat.le_of_eq h.hB) hb.size;refine h.s1 _ _ _ (Ag.put (Ag.put (Ag.refl S a0) h.n3 (adq p1)) h.n4 (adq p2)) hb (fun w' hw=>⟨hw.mono hs,?_⟩);rw[Act.put_comm (a0.put (some e1) (adq p1)) (adq p2) v1 (ad7 h.e12.2.2.1),Act.put_comm a0 (adq p1) v1 (ad7 h.e12.1)];exact alp h p1 p2 w' (hb.trans (hw.mono hs)) b1 ((hw.block p1 (aae x1)).trans x1) b2 ((hw.block p2 (aae x2)).trans x2) ne
theorem apu (h:adf P ops Q T B i1 i2 j1 j2 d1 d2 e1 e2 w0 S a0 v1 v2 cs ty):∀(p2:Nat) (w:World),Below B w0 w->B<=p2->w.heap[p2]?=some (.cells cs ty (0,0))->wpQ P ops Q T B (atr i1 i2 j1 j2) ((a0.put (some d1) v1).put (some e2) (adq p2)) w:=by
 intro p2 w hb b2 x2;have hs:B<=w.heap.size:=Nat.le_trans (Nat.le_of_eq h.hB) hb.size;refine⟨?_,?_⟩
 · refine h.s2 _ _ _ (Ag.put (Ag.put (Ag.refl S a0) h.n1 v1) h.n4 (adq p2)) hb (fun w' hw=>⟨hw.mono hs,?_⟩);rw[Act.put_comm (a0.put (some d1) v1) (adq p2) v2 (ad7 h.e12.2.2.2.1)];exact apr h p2 w' (hb.trans (hw.mono hs)) b2 ((hw.block p2 (aae x2)).trans x2)
 · refine h.t1 _ _ _ ⟨(Below.refl _ _).alloc hs _,?_⟩;rw[Act.put_comm (a0.put (some d1) v1) (adq p2) (adq w.heap.size) (ad7 h.e12.2.2.2.2)];exact alp h w.heap.size p2 _ (hb.trans ((Below.refl _ _).alloc hs _)) hs (heap_alloc_new w _) b2 ((heap_alloc_old _ _ (aae x2)).trans x2) (fun e=>by have:=aae x2;omega)
theorem apv (h:adf P ops Q T B i1 i2 j1 j2 d1 d2 e1 e2 w0 S a0 v1 v2 cs ty):∀(p1:Nat) (w:World),Below B w0 w->B<=p1->w.heap[p1]?=some (.cells cs ty (0,0))->wpQ P ops Q T B (att i1 i2 j1 j2) ((a0.put (some d1) v1).put (some e1) (adq p1)) w:=by
 intro p1 w hb b1 x1;have hs:B<=w.heap.size:=Nat.le_trans (Nat.le_of_eq h.hB) hb.size;refine⟨?_,?_⟩
 · refine h.s2 _ _ _ (Ag.put (Ag.put (Ag.refl S a0) h.n1 v1) h.n3 (adq p1)) hb (fun w' hw=>⟨hw.mono hs,?_⟩);rw[Act.put_comm (a0.put (some d1) v1) (adq p1) v2 (ad7 h.e12.2.1)];exact aps h p1 w' (hb.trans (hw.mono hs)) b1 ((hw.block p1 (aae x1)).trans x1)
 · refine h.t2 _ _ _ ⟨(Below.refl _ _).alloc hs _,?_⟩;exact alp h p1 w.heap.size _ (hb.trans ((Below.refl _ _).alloc hs _)) b1 ((heap_alloc_old _ _ (aae x1)).trans x1) hs (heap_alloc_new w _) (fun e=>by have:=aae x1;omega)
theorem atu (h:adf P ops Q T B i1 i2 j1 j2 d1 d2 e1 e2 w0 S a0 v1 v2 cs ty):∀(w:World),Below B w0 w->wpQ P ops Q T B (auO i1 i2 j1 j2) ((a0.put (some d1) v1).put (some d2) v2) w:=by
 intro w hb;have hs:B<=w.heap.size:=Nat.le_trans (Nat.le_of_eq h.hB) hb.size;refine⟨?_,?_⟩
 · refine h.t1 _ _ _ ⟨(Below.refl _ _).alloc hs _,?_⟩;exact aps h w.heap.size _ (hb.trans ((Below.refl _ _).alloc hs _)) hs (heap_alloc_new w _)
 · refine h.t2 _ _ _ ⟨(Below.refl _ _).alloc hs _,?_⟩;exact apr h w.heap.size _ (hb.trans ((Below.refl _ _).alloc hs _)) hs (heap_alloc_new w _)
theorem atv (h:adf P ops Q T B i1 i2 j1 j2 d1 d2 e1 e2 w0 S a0 v1 v2 cs ty):∀(p2:Nat) (w:World),Below B w0 w->B<=p2->w.heap[p2]?=some (.cells cs ty (0,0))->wpQ P ops Q T B (auP i1 i2 j1 j2) (a0.put (some e2) (adq p2)) w:=by
 intro p2 w hb b2 x2;have hs:B<=w.heap.size:=Nat.le_trans (Nat.le_of_eq h.hB) hb.size;refine⟨?_,?_⟩
 · refine h.s1 _ _ _ (Ag.put (Ag.refl S a0) h.n4 (adq p2)) hb (fun w' hw=>⟨hw.mono hs,?_⟩);rw[Act.put_comm a0 (adq p2) v1 (ad7 h.e12.2.2.1)];exact apu h p2 w' (hb.trans (hw.mono hs)) b2 ((hw.block p2 (aae x2)).trans x2)
 · refine h.t1 _ _ _ ⟨(Below.refl _ _).alloc hs _,?_⟩;rw[Act.put_comm a0 (adq p2) (adq w.heap.size) (ad7 h.e12.2.2.2.2)];exact apt h w.heap.size p2 _ (hb.trans ((Below.refl _ _).alloc hs _)) hs (heap_alloc_new w _) b2 ((heap_alloc_old _ _ (aae x2)).trans x2) (fun e=>by have:=aae x2;omega)
theorem atw (h:adf P ops Q T B i1 i2 j1 j2 d1 d2 e1 e2 w0 S a0 v1 v2 cs ty):∀(p1:Nat) (w:World),Below B w0 w->B<=p1->w.heap[p1]?=some (.cells cs ty (0,0))->wpQ P ops Q T B (auQ i1 i2 j1 j2) (a0.put (some e1) (adq p1)) w:=by
 intro p1 w hb b1 x1;have hs:B<=w.heap.size:=Nat.le_trans (Nat.le_of_eq h.hB) hb.size;refine⟨?_,?_⟩
 · refine h.s1 _ _ _ (Ag.put (Ag.refl S a0) h.n3 (adq p1)) hb (fun w' hw=>⟨hw.mono hs,?_⟩);rw[Act.put_comm a0 (adq p1) v1 (ad7 h.e12.1)];exact apv h p1 w' (hb.trans (hw.mono hs)) b1 ((hw.block p1 (aae x1)).trans x1)
 · refine h.t2 _ _ _ ⟨(Below.refl _ _).alloc hs _,?_⟩;exact apt h p1 w.heap.size _ (hb.trans ((Below.refl _ _).alloc hs _)) b1 ((heap_alloc_old _ _ (aae x1)).trans x1) hs (heap_alloc_new w _) (fun e=>by have:=aae x1;omega)
theorem atx (h:adf P ops Q T B i1 i2 j1 j2 d1 d2 e1 e2 w0 S a0 v1 v2 cs ty):∀(w:World),Below B w0 w->wpQ P ops Q T B (auR i1 i2 j1 j2) (a0.put (some d1) v1) w:=by
 intro w hb;have hs:B<=w.heap.size:=Nat.le_trans (Nat.le_of_eq h.hB) hb.size;refine⟨?_,?_,?_⟩
 · refine h.s2 _ _ _ (Ag.put (Ag.refl S a0) h.n1 v1) hb (fun w' hw=>⟨hw.mono hs,?_⟩);exact atu h w' (hb.trans (hw.mono hs))
 · refine h.t1 _ _ _ ⟨(Below.refl _ _).alloc hs _,?_⟩;exact apv h w.heap.size _ (hb.trans ((Below.refl _ _).alloc hs _)) hs (heap_alloc_new w _)
 · refine h.t2 _ _ _ ⟨(Below.refl _ _).alloc hs _,?_⟩;exact apu h w.heap.size _ (hb.trans ((Below.refl _ _).alloc hs _)) hs (heap_alloc_new w _)
theorem aty (h:adf P ops Q T B i1 i2 j1 j2 d1 d2 e1 e2 w0 S a0 v1 v2 cs ty):∀(w:World),Below B w0 w->wpQ P ops Q T B (auS i1 i2 j1 j2) a0 w:=by
 intro w hb;have hs:B<=w.heap.size:=Nat.le_trans (Nat.le_of_eq h.hB) hb.size;refine⟨?_,?_,?_⟩
 · refine h.s1 _ _ _ (Ag.refl S a0) hb (fun w' hw=>⟨hw.mono hs,?_⟩);exact atx h w' (hb.trans (hw.mono hs))
 · refine h.t1 _ _ _ ⟨(Below.refl _ _).alloc hs _,?_⟩;exact atw h w.heap.size _ (hb.trans ((Below.refl _ _).alloc hs _)) hs (heap_alloc_new w _)
 · refine h.t2 _ _ _ ⟨(Below.refl _ _).alloc hs _,?_⟩;exact atv h w.heap.size _ (hb.trans ((Below.refl _ _).alloc hs _)) hs (heap_alloc_new w _)
theorem apw (h:adf P ops Q T B i1 i2 j1 j2 d1 d2 e1 e2 w0 S a0 v1 v2 cs ty):wpQ P ops Q T B (auT i1 i2 j1 j2) a0 w0:=aty h w0 (Below.refl _ _)
end
end Go.Proofs.YtncadccbepjekaaGreatDoor
