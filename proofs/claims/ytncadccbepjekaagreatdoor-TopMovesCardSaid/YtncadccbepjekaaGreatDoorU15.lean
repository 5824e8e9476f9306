/- Texts of mine, joined. -/
import Derived.Deep.Cut
import Derived.Test.YtncadccbepjekaaGreatDoorU9
import Derived.Test.YtncadccbepjekaaGreatDoorU10
import Derived.Test.YtncadccbepjekaaGreatDoorU11
import Derived.Test.YtncadccbepjekaaGreatDoorU12
set_option maxRecDepth 100000
set_option maxHeartbeats 1000000
namespace Go.Proofs.YtncadccbepjekaaGreatDoor
open Go.RowKit
theorem akc (bs:List UInt8):∀(k o:Nat) (l:List Bk),ada bs k o=some l->∀x∈l,aa6 bs (x.off:Int)=some x
 | 0,_,_,h,_,_=>by cases h
 | k+1,o,l,h,x,hx=>by
  unfold ada at h;by_cases hlt:o<bs.length
  · rw[if_pos hlt]at h
    cases hg:aa6 bs (o:Int)with
    | none=>rw[hg]at h;cases h
    | some y=>
     rw[hg]at h;dsimp only at h
     cases hr:ada bs k (o+y.size)with
     | none=>rw[hr]at h;cases h
     | some r=>
      rw[hr]at h;injection h with h;subst h;rcases List.mem_cons.1 hx with e | hx
      · subst e;have:=(aaw hg).1;rw[<-this,hg]
      · exact akc bs k _ r hr x hx
  · rw[if_neg hlt]at h;injection h with h;subst h
    cases hx
theorem apF{bs:List UInt8}{l:List Bk}(h:abG bs=some l):184<=bs.length/\∀x∈l,aa6 bs (x.off:Int)=some x:=by
 unfold abG at h;split at h
 · cases h
 · exact⟨by omega,akc bs _ _ l h⟩
theorem apG{w:World}{base n:Nat}{t:TypeId}{A:Option Addr}{c:Nat}{l:List Bk}(h:w.ownsRow base t 3 (.slice A n c) n (acV l)) (hn:n=l.length):BkRd w w.heap.size A l:=fun h0=>by
 rcases h.2 with⟨_,h0'⟩ | ⟨g,_,_,h',_⟩
 · omega
 · injection h' with e;subst e;refine⟨g,0,rfl,(h.lt g rfl).2,fun j x hx=> ?_⟩;obtain⟨q0,q1,q2⟩:=ajW l j x hx;have hj:j<l.length:=by
    rcases Nat.lt_or_ge j l.length with h | h
    · exact h
    · rw[List.getElem?_eq_none h]at hx;cases hx
   refine⟨?_,?_,?_⟩
   · rw[Nat.zero_add,h.cellAt (j*3) (by omega),q0]
   · rw[Nat.zero_add,h.cellAt (j*3+1) (by omega),q1]
   · rw[Nat.zero_add,h.cellAt (j*3+2) (by omega),q2]
section
variable (w:World)
end
def auw (l:List Nat):List Int:=l.map fun n:Nat=>(n:Int)
theorem arO{w:World}{base n:Nat}{t:TypeId}{A:Option Addr}{c:Nat}{l:List Nat}(h:w.ownsRow base t 1 (.slice A n c) n (l.map iV)) (hn:n=l.length):IRd w w.heap.size A (auw l):=fun h0=>by
 have h0:0<l.length:=by simpa[auw]using h0
 rcases h.2 with⟨_,h0'⟩ | ⟨g,_,_,h',_⟩
 · omega
 · injection h' with e;subst e;refine⟨g,0,rfl,(h.lt g rfl).2,fun j x hx=> ?_⟩;have hj:j<l.length:=by
    rcases Nat.lt_or_ge j l.length with h | h
    · exact h
    · rw[auw,List.getElem?_map,List.getElem?_eq_none h]at hx;cases hx
   rw[Nat.zero_add,h.cellAt j (by omega),List.getElem?_map];rw[auw,List.getElem?_map]at hx
   cases hl:l[j]? with
   | none=>rw[hl]at hx;cases hx
   | some y=>rw[hl]at hx;injection hx with hx;rw[<-hx];rfl
theorem alx{α:Type}{p:α->Bool}{l:List α}{j:Nat}{x:α}(h:l[j]?=some x):(l.take (j+1)).countP p=(l.take j).countP p+if p x=true then 1 else 0:=by
 rw[List.take_add_one,h,List.countP_append];simp[List.countP_cons]
theorem arP{α:Type}{p:α->Bool}{l:List α}{j:Nat}{x:α}(h:l[j]?=some x):(l.take (j+1)).any p=((l.take j).any p || p x):=by
 rw[List.take_add_one,h,List.any_append];simp
section
variable (w:World)
end
def need (n:Nat):Nat:=(n+511)/512
def agj (b:List UInt8) (i:Nat):List UInt8:=(b.drop (i*512)).take 512++List.replicate (512-(b.length-i*512)) 0
theorem aeK (b:List UInt8) (i:Nat):(agj b i).length=512:=by
 simp[agj];omega
theorem Fill.over{B:Nat}{w0 w:World}{g:Nat}{t:TypeId}{bs:List UInt8}(h:Fill w g t bs) (hb:Below B w0 w) (hB:B<=g) (off:Nat) (cs:List UInt8):
 Fill (w.setRow g (((acd bs).toList.take off++(cs.map bv++(acd bs).toList.drop (off+(cs.map bv).length))).toArray)) g t (lay bs off cs)/\Below B w0 (w.setRow g (((acd bs).toList.take off++(cs.map bv++(acd bs).toList.drop (off+(cs.map bv).length))).toArray)):=by
 refine⟨?_,below_setRow hb hB _⟩;unfold Fill at h ⊢;rw[setRow_heap w g _ _ t _ h];simp[acd,lay]
section
variable {S:Nat->Prop} {w:World} {g h c:Nat} {W:Option Addr} {cw:Nat} {bs:List UInt8} {ws:List Wr} {left:Int} {off:Bool}
theorem aeb (w:World) (n:Nat) (hn:n<=9223372036854775807) (m:Nat) (hm:need n=m):
 Calls Tryz.prog 253 #[.int .i64 (n:Int)] w fun e w'=>e= .returned (.int .i64 (m:Int))/\w=w':=by
 unfold need at hm;by_cases h:n%512=0
 · have s1:decide ((0:Int)<(n:Int)%512)=false:=decide_eq_false (by omega);have HM:Hid ((n:Int)/512=(m:Int)):=(show _=_ by omega);clear hm;go_enter Tryz.func253,Tryz.ntmps253
   go_wp2
   go_ret
   exact⟨apo HM.out,rfl⟩
 · have s1:decide ((0:Int)<(n:Int)%512)=true:=decide_eq_true (by omega);have HM:Hid ((n:Int)/512+1=(m:Int)):=(show _=_ by omega);clear hm;go_enter Tryz.func253,Tryz.ntmps253
   go_wp2
   go_ret
   exact⟨apo HM.out,rfl⟩
theorem akd (k:Dk S w g h c W cw bs ws left off) (N:Nat) (hN:bs.length=512*N) (hN2:N<=128) (p n:Nat) (hfit:p+need n<=N):
 Calls Tryz.prog 252 #[.pointer (some ⟨g,0,none⟩), .int .i64 (p:Int), .int .i64 (n:Int)] w fun e w'=>e= .returned (.bool true)/\w=w':=by
 have HS:=ad6 k (by omega);rw[show bs.length/512=N by omega]at HS;have HS:=hE0 HS;obtain⟨m,hm⟩:=nmE (need n);have HE:=hE0 (aeb w n (by unfold need at hfit;omega) m hm);rw[hm]at hfit;have h1:(p:Int)<=(N:Int):=by omega
 have h2:(m:Int)<=(N:Int)-(p:Int):=by omega
 clear hm k hN;go_enter Tryz.func252,Tryz.ntmps252
 go_wp2_with fail
 with_reducible refine HS.out.mono ?_
 rintro e w1 ⟨rfl,rfl⟩;go_wp2_with fail
 with_reducible refine HE.out.mono ?_
 rintro e w1 ⟨rfl,rfl⟩;go_wp2_with fail
 with_reducible refine HS.out.mono ?_
 rintro e w1 ⟨rfl,rfl⟩;go_wp2
 go_ret
 exact⟨rfl,rfl⟩
end
theorem aly (w:World) (A:Addr) (cA:Nat) (b:List UInt8) (hr:Rd w w.heap.size (some A) b.length b) (_hb:b.length<=1000000) (hpos:0<b.length):
 Calls Tryz.prog 256 #[.slice (some A) b.length cA] w fun e w'=>e= .returned (.slice (some ⟨w.heap.size,0,none⟩) 512 512)/\Fill w' w.heap.size 5 (agj b 0)/\Below w.heap.size w w':=by
 obtain⟨z,hz⟩:=nmE (List.replicate 512 (0:UInt8));have hzl:z.length=512:=by rw[<-hz];simp
 have hmk:∀W:World,(Instr.makeSlice 37 (.int .i64 512) (.int .i64 512)).run Tryz.prog W= .ok (.slice (some ⟨W.heap.size,0,none⟩) 512 512) (W.alloc (.cells (acd z) 5)):=fun W=>by
  have:=run_make_row' (P:=Tryz.prog) 37 5 (.int .u8 0) 1 Tryz.underlying37 afq rfl .i64 .i64 512 (by omega) (by omega) W;rw[acE,hz]at this;exact this
 obtain⟨w0,hw0⟩:=nmE (w.alloc (.cells (acd z) 5));have hf:Fill w0 w.heap.size 5 z:=by rw[<-hw0];exact Fill.made w 5 _
 have hbl:=abE hw0;have rs:=hr.below hbl;have hn:((b.take 512).map bv).length=Nat.min b.length 512:=by rw[List.length_map,List.length_take];exact Nat.min_comm _ _
 have hsrc:∀j v,((b.take 512).map bv)[j]?=some v->w0.cell? (A.add j)=some v:=fun j v hj=>adt rs j v (by
  rw[List.map_take]at hj;rcases Nat.lt_or_ge j 512 with h | h
  · rwa [List.getElem?_take_of_lt h]at hj
  · rw[List.getElem?_eq_none (by simp;omega)]at hj;cases hj)
 have hov:=hf.over hbl (Nat.le_refl _) 0 (b.take 512);have e1:lay z 0 (b.take 512)=agj b 0:=by
  rw[<-hz];simp only[lay,agj,List.take_zero,List.nil_append,Nat.zero_mul,List.drop_zero,Nat.zero_add,List.drop_replicate,List.length_take,Nat.sub_zero];congr 2;omega
 rw[e1]at hov;have HOV:=hE0 hov;have HSRC:=hE0 hsrc;have HN:=hE0 hn;have HF:=hE0 hf;have HFIT:Hid (0+((b.take 512).map bv).length<=(acd z).size):=(show _<=_ by rw[adW,hzl,List.length_map,List.length_take];omega);have HW0:=hE0 hw0;clear hov hsrc hn hf hbl rs hr e1 hz hzl hw0;go_enter Tryz.func256,Tryz.ntmps256
 go_wp2_with (rw[HW0.out];(refine wpList_copy_own rfl (.tmp 5) (.tmp 6) 37 37 rfl 5 Tryz.underlying37 (by kernel_rfl) w.heap.size 0 512 512 A b.length cA rfl rfl _ 5 HF.out ((b.take 512).map bv) HN.out HSRC.out HFIT.out (afO _) ?_);generalize w0.setRow _ _=w2 at HOV ⊢)
 go_ret
 exact⟨rfl,HOV.out.1,HOV.out.2⟩
def adC (bs:List UInt8) (l:List (Nat × List UInt8)) (p j:Nat):List UInt8:=((List.range j).map fun i=>aaZ bs l (p+i)).flatten
theorem adh (bs:List UInt8) (l:List (Nat × List UInt8)) (p j:Nat):adC bs l p (j+1)=adC bs l p j++aaZ bs l (p+j):=by simp[adC,List.range_succ]
theorem acZ (bs:List UInt8) (l:List (Nat × List UInt8)) (i:Nat) (hf:aj5 bs.length l) (hi:i*512+512<=bs.length):(aaZ bs l i).length=512:=by
 unfold aaZ;split
 · rename_i x h;exact(hf x (List.mem_reverse.1 (List.mem_of_find?_eq_some h))).2
 · rw[List.length_take,List.length_drop];omega
theorem afU (bs:List UInt8) (l:List (Nat × List UInt8)) (p:Nat) (hf:aj5 bs.length l) (j:Nat) (h:(p+j)*512<=bs.length):(adC bs l p j).length=512*j:=by
 induction j with
 | zero=>simp[adC]
 | succ j ih=>
  have h1:=ih (by omega);have h2:=acZ bs l (p+j) hf (by omega);rw[adh,List.length_append,h1,h2];omega
theorem arQ (J x:List UInt8) (m:Nat) (hx:x.length=512):lay (J++List.replicate m 0) J.length (x.take m)=J++(x++List.replicate (m-512) 0).take m:=by
 unfold lay;rw[List.take_left];congr 1;have e:m-min m x.length=min (m-x.length) (m-512):=by omega
 rw[List.drop_append,List.drop_of_length_le (by omega),List.nil_append,Nat.add_sub_cancel_left,List.length_take,List.drop_replicate,List.take_append,List.take_replicate,e]
def aec (bs:List UInt8) (l:List (Nat × List UInt8)) (p n j:Nat):List UInt8:=(adC bs l p j++List.replicate (n-512*j) 0).take n
theorem alz (bs:List UInt8) (l:List (Nat × List UInt8)) (p n j:Nat) (hf:aj5 bs.length l) (hj:512*j<n) (hi:(p+j)*512+512<=bs.length):
 lay (aec bs l p n j) (j*512) ((aaZ bs l (p+j)).take (n-j*512))=aec bs l p n (j+1):=by
 have hl:=afU bs l p hf j (by omega);have hx:=acZ bs l (p+j) hf hi;have e:j*512=(adC bs l p j).length:=by omega
 unfold aec;rw[List.take_of_length_le (by simp;omega),adh,List.append_assoc,List.take_append,List.take_of_length_le (by omega:(adC bs l p j).length<=n),hl,show n-j*512=n-512*j by omega,e,arQ _ _ _ hx];congr 4
theorem ai0 (bs:List UInt8) (l:List (Nat × List UInt8)) (p n j:Nat) (hf:aj5 bs.length l) (hi:(p+j)*512<=bs.length):(aec bs l p n j).length=n:=by
 have hl:=afU bs l p hf j hi;simp[aec,hl];omega
theorem Fill.own{w:World}{g:Nat}{bs:List UInt8}{base:Nat}(h:Fill w g 5 bs) (hB:base<=g) (hm:bs.length<=1000000):w.ownsRow base 5 1 (.slice (some ⟨g,0,none⟩) bs.length bs.length) bs.length (bs.map bv):=by
 refine⟨by simp, .inr ⟨g,bs.length,acd bs,rfl,hB,h,Nat.le_refl _,by unfold maxLen;omega,by rw[adW];simp,?_⟩⟩;rw[Nat.mul_one];simp only[acd];rw[List.take_of_length_le (by simp)]
section
variable {S:Nat->Prop} {w:World} {g h c:Nat} {W:Option Addr} {cw:Nat} {bs:List UInt8} {ws:List Wr} {left:Int} {off:Bool}
theorem apH (k:Dk S w g h c W cw bs ws left off) (N:Nat) (hN:bs.length=512*N) (hN2:N<=128) (p n K:Nat) (hK:need n=K) (hfit:p+K<=N) (ho:off=true->n=0) (out:List UInt8) (hout:(adC bs (ws.map Wr.two) p K).take n=out):
 Calls Tryz.prog 206 #[.pointer (some ⟨g,0,none⟩), .int .i64 (p:Int), .int .i64 (n:Int)] w fun e w'=>arm out w e w':=by
 have hbl:n<=65536:=by unfold need at hK;omega
 have HF:=hE0 (akd k N hN hN2 p n (by rw[hK];exact hfit));have HE:=hE0 (fun w=>aeb w n (by omega) K hK);have hfs:=k.fits;obtain⟨z,hz⟩:=nmE (List.replicate n (0:UInt8));have hmk:∀W:World,(Instr.makeSlice 37 (.int .i64 (n:Int)) (.int .i64 (n:Int))).run Tryz.prog W= .ok (.slice (some ⟨W.heap.size,0,none⟩) n n) (W.alloc (.cells (acd z) 5)):=fun W=>by
  have:=run_make_row' (P:=Tryz.prog) 37 5 (.int .u8 0) 1 Tryz.underlying37 afq rfl .i64 .i64 n (by omega) (by omega) W;rw[acE,hz]at this;exact this
 obtain⟨w0,hw0⟩:=nmE (w.alloc (.cells (acd z) 5));have hf:Fill w0 w.heap.size 5 z:=by rw[<-hw0];exact Fill.made w 5 _
 have hbl0:=abE hw0;have e0:z=aec bs (ws.map Wr.two) p n 0:=by simp[aec,adC,<-hz]
 have hend:aec bs (ws.map Wr.two) p n K=out:=by
  have:n-512*K=0:=by unfold need at hK;omega
  rw[<-hout];simp[aec,this]
 have hlen:=fun j hj=>ai0 bs (ws.map Wr.two) p n j hfs hj;rw[e0]at hf;have HF0:=hE0 hf;have HB0:=hE0 hbl0;have HW0:=hE0 hw0;have HKK:=hE0 k;have HNN:=hE0 hN;have HK:=hE0 hK;have HFS:=hE0 hfs;have HEND:=hE0 hend;have HLEN:=hE0 hlen;obtain⟨gb,hgb⟩:=nmE w.heap.size;have HGB:=hE0 hgb;clear hz hw0 hf hbl0 e0 k hN hK hout hfs hend hlen;go_enter Tryz.func206,Tryz.ntmps206
 go_wp2_with fail
 with_reducible refine HF.out.mono ?_
 rintro e w1 ⟨rfl,rfl⟩;clear HF;go_wp2_with fail
 rw[HW0.out]
 with_reducible refine(HE.out w0).mono ?_
 rintro e w1 ⟨rfl,rfl⟩;clear HE hmk HW0;clear hgb;go_wp2
 go_loopw [26] (fun i wr=>∃j:Nat,j<=K/\i= .int .i64 j/\Fill wr gb 5 (aec bs (ws.map Wr.two) p n j)/\Below gb w wr) (fun i _=>K-(intOf i).toNat)
 case atStart=>exact⟨0,Nat.zero_le _,rfl,by rw[<-HGB.out];exact HF0.out,by rw[<-HGB.out];exact HB0.out⟩
 case round=>
  obtain⟨j,hj,rfl,hf,hb⟩:=hrel;by_cases hlt:j<K
  · have hjn:512*j<n:=by have:=HK.out;unfold need at this;omega
    have hNb:=HNN.out;have hof:off=false:=by
     cases off
     · rfl
     · have:=ho rfl;omega
    subst hof;obtain⟨P,hP⟩:=nmE (aec bs (ws.map Wr.two) p n j);have hPl:P.length=n:=by rw[<-hP];exact HLEN.out j (by omega)
    have hst:=alz bs (ws.map Wr.two) p n j HFS.out hjn (by omega);have hxl:=acZ bs (ws.map Wr.two) (p+j) HFS.out (by omega);have hrd:=amF (HKK.out.below (HGB.out▸hb)) (by omega) (p+j) (by omega);obtain⟨x,hx⟩:=nmE (aaZ bs (ws.map Wr.two) (p+j));rw[hP,hx]at hst;rw[hP]at hf;rw[hx]at hxl hrd;rw[Int.natCast_add]at hrd;have HRD:=hE0 hrd;have HST:=hE0 hst;have HFI:=hE0 hf;have HB:=hE0 hb;have hne:¬n=j*512:=by omega
    have HXL:=hE0 hxl;have HPL:=hE0 hPl;clear hrd hst hf hb hx hP hNb hxl hPl;go_wp2_with fail
    with_reducible refine HRD.out.mono ?_
    rintro e w2 ⟨A',c',rfl,hown,hb2⟩;rw[HXL.out]at hown ⊢;obtain⟨hr2,_⟩:=(⟨(agx hown),trivial⟩:_/\True);obtain⟨A2,c2,e2,_,hr2⟩:=hr2;injection e2 with e2 _ e3;subst e2 e3;obtain⟨b2,o2,rfl,_,_⟩:=hr2.2 (by omega);have hlt2:=HFI.out.lt;have hf2:=HFI.out.below hb2 hlt2;have hov:=hf2.over ((HB.out.trans (hb2.mono (by omega)))) (Nat.le_refl _) (j*512) (x.take (n-j*512));rw[HST.out]at hov;have HOV:=hE0 hov;have HN2:Hid (((x.take (n-j*512)).map bv).length=Nat.min 512 (n-j*512)):=(show _=_ by rw[List.length_map,List.length_take,HXL.out];exact Nat.min_comm _ _);have HSRC:Hid (∀i v,((x.take (n-j*512)).map bv)[i]?=some v->w2.cell? ((⟨b2,o2,none⟩:Addr).add i)=some v):=fun i v hi=>adt hr2 i v (by
     rw[List.map_take]at hi;rcases Nat.lt_or_ge i (n-j*512)with h | h
     · rwa [List.getElem?_take_of_lt h]at hi
     · rw[List.getElem?_eq_none (by simp;omega)]at hi;cases hi)
    have HFIT:Hid (j*512+((x.take (n-j*512)).map bv).length<=(acd P).size):=(show _<=_ by rw[HN2.out,adW,HPL.out];have:=Nat.min_le_right 512 (n-j*512);simp only[Nat.min_def]at this ⊢;omega);have HF2:=hE0 hf2;clear hown hb2 hr2 hf2 hov HRD HST;go_wp2_with (refine wpList_copy_own rfl (.tmp 43) (.tmp 44) 37 37 rfl 5 Tryz.underlying37 (by kernel_rfl) gb (j*512) (n-j*512) (n-j*512) ⟨b2,o2,none⟩ 512 _ rfl rfl _ 5 HF2.out ((x.take (n-j*512)).map bv) HN2.out HSRC.out HFIT.out (afO _) ?_;generalize w2.setRow _ _=w3 at HOV ⊢)
    go_roundw
    case rel=>exact⟨j+1,by omega,by go_num,HOV.out.1,HOV.out.2⟩
    case measure=>simp[intOf];omega
  · obtain rfl:j=K:=by omega
    rw[HEND.out]at hf;have hol:out.length=n:=by rw[<-HEND.out];exact HLEN.out j (by have:=HNN.out;omega)
    have HO:=hE0 (hf.own (base:=gb) (Nat.le_refl _) (by omega));have HB:=hE0 hb;have HOL:=hE0 hol;clear hf hb hol;go_wp2
    go_ret2
    refine⟨some ⟨gb,0,none⟩,out.length,?_,HGB.out▸HO.out,HGB.out▸HB.out⟩;rw[HOL.out];rfl
end
def afc:List Rk->List Value
 | []=> []
 | x::r=> .int .i64 x.o:: .int .i64 x.s:: .bool x.u::afc r
theorem ake:∀(l:List Rk) (i:Nat) (x:Rk),l[i]?=some x->(afc l)[i*3]?=some (.int .i64 x.o)/\(afc l)[i*3+1]?=some (.int .i64 x.s)/\(afc l)[i*3+2]?=some (.bool x.u)
 | [],_,_,h=>by simp at h
 | y::r,0,x,h=>by
  simp at h;subst h;exact⟨rfl,rfl,rfl⟩
 | y::r,i+1,x,h=>by
  have:=ake r i x (by simpa using h);have e:(i+1)*3=i*3+1+1+1:=by omega
  rw[e];exact⟨by simpa[afc]using this.1,by simpa[afc]using this.2.1,by simpa[afc]using this.2.2⟩
def avC (l:List Rk):Prop:=∀x∈l,(0<=x.o/\x.o<=1000000000)/\(0<=x.s/\x.s<=20000)
section
variable {B g n:Nat} {N:Int} {A1 A2:Option Addr} {c1 c2:Nat} {l:List Rk} {d:List (List UInt8)} {xs:List Value} {w w3 w4 w':World}
theorem akf{w:World}{B c:Nat}{A:Option Addr}{l:List Rk}(h:w.ownsRow B 112 3 (.slice A l.length c) l.length (afc l)) (hl:avC l):RkRd w w.heap.size A l:=fun hn=>by
 rcases h.2 with⟨hv,h0⟩ | ⟨b,cap,cur,hv,hbg,hg,hnc,hcm,hsz,htk⟩
 · omega
 · injection hv with e1 e2 e3;subst e1;refine⟨b,0,rfl,aaa hg,fun j x hx=> ?_⟩;have hj:j<l.length:=(List.getElem?_eq_some_iff.1 hx).1;obtain⟨q0,q1,q2⟩:=ake l j x hx;have hb:=hl x (List.mem_of_getElem? hx);have hc:∀(i:Nat) (v:Value),i<l.length*3->(afc l)[i]?=some v->w.cell? ⟨b,i,none⟩=some v:=fun i v hi hv=>by
    rw[cell_of_row _ _ _ _ _ _ hg];rw[<-htk,List.getElem?_take,if_pos hi]at hv;rw[<-hv];simp
   simp only[Nat.zero_add];exact⟨hc _ _ (by omega) q0,hc _ _ (by omega) q1,hc _ _ (by omega) q2,by omega,by omega⟩
end
section
variable {B g:Nat} {N:Int} {A1 A2:Option Addr} {c1 c2:Nat} {l:List Rk} {d:List (List UInt8)} {xs:List Value} {w:World}
end
def aat (ok:Bool) (k:Int):Value:=match ok with
 | true=> .nilIface
 | false=> .iface 130 (.int .i64 k)
def aaA (x:Option Bk) (w:World) (e:Ending) (w':World):Prop:=e= .returned (.tuple #[bkV x,aat x.isSome 3])/\Below w.heap.size w w'
def ac0 (x:Option (List Bk)) (w:World) (e:Ending) (w':World):Prop:=
 ∃A' c',e= .returned (.tuple #[.slice A' (x.getD []).length c',aat x.isSome 3])/\w'.ownsRow w.heap.size 112 3 (.slice A' (x.getD []).length c') (x.getD []).length (acV (x.getD []))/\Below w.heap.size w w'
def aoE (k:Int) (t:TypeId) (g base cap:Nat) (A:Option Addr) (y:Option (List UInt8)) (w:World) (e:Ending) (w':World):Prop:=
 match y with
 | none=>e= .returned (aat false k)/\Below w.heap.size w w'
 | some out=>e= .returned (aat true k)/\Became t g base cap A out w w'
def awc:Prop:=∀(w:World) (g base cap c:Nat) (A:Option Addr) (bs:List UInt8) (o:Int) (x:Option Bk),Ar w 195 g base cap A c bs->base<=4611686018427387904->bs.length<=16384->(-9223372036854775808<=o/\o<=9223372036854775807)->aa6 bs o=x->
 Calls Tryz.prog 123 #[.pointer (some ⟨g,0,none⟩), .int .i64 o] w fun e w'=>aaA x w e w'
def auW:Prop:=∀(w:World) (g base cap c:Nat) (A:Option Addr) (bs:List UInt8) (o:Int) (x:Option Bk),Ar w 195 g base cap A c bs->base<=4611686018427387904->bs.length<=16384->(-9223372036854775808<=o/\o<=9223372036854775807)->abN bs o=x->
 Calls Tryz.prog 270 #[.pointer (some ⟨g,0,none⟩), .int .i64 o] w fun e w'=>aaA x w e w'
def awd:Prop:=∀(w:World) (g base cap c:Nat) (A:Option Addr) (bs:List UInt8) (o s:Int) (u:Bool) (y:Option (List UInt8)),Ar w 195 g base cap A c bs->base<=4611686018427387904->bs.length<=16384->(-9223372036854775808<=o/\o<=9223372036854775807)->(-9223372036854775808<=s/\s<=9223372036854775807)->aeo bs o s u=y->
 Calls Tryz.prog 217 #[.pointer (some ⟨g,0,none⟩), .agg #[.int .i64 o, .int .i64 s, .bool u]] w fun e w'=>aoE 1 195 g base cap A y w e w'
def avD:Prop:=∀(w:World) (g base cap c:Nat) (A:Option Addr) (bs:List UInt8) (x:Option (List Bk)),Ar w 195 g base cap A c bs->base<=4611686018427387904->bs.length<=16384->abG bs=x->
 Calls Tryz.prog 60 #[.pointer (some ⟨g,0,none⟩)] w fun e w'=>ac0 x w e w'
theorem aeL (bs:List UInt8) (x:Bk) (h1:184<=x.off) (h2:x.off%16=8) (h3:x.off+x.size<=bs.length) (h4:aaB (x.size:Int)=true):aeo bs (x.off:Int) (x.size:Int) x.used=some (aaU bs x):=by
 have h5:=(aab _).1 h4;unfold aeo aaU aoC;rw[if_pos ⟨h4,(aa1 _ _ _).2 (by omega)⟩,aiR,aiR];have e:((x.off:Int)+(x.size:Int)-8).toNat=x.off+x.size-8:=by omega
 rw[e];simp
theorem BkRd.of_own{w:World}{base:Nat}{t:TypeId}{A:Option Addr}{c:Nat}{l:List Bk}(h:w.ownsRow base t 3 (.slice A l.length c) l.length (acV l)):BkRd w w.heap.size A l:=apG h rfl
def afd (x:Option (List Nat)) (k:Int) (w:World) (e:Ending) (w':World):Prop:=
 ∃A' c',e= .returned (.tuple #[.slice A' (x.getD []).length c',aat x.isSome k])/\w'.ownsRow w.heap.size 3 1 (.slice A' (x.getD []).length c') (x.getD []).length ((x.getD []).map iV)/\Below w.heap.size w w'
def awe:Prop:=∀(w:World) (g base cap c:Nat) (A:Option Addr) (bs:List UInt8) (o:Int) (y:Option (List UInt8)),Ar w 195 g base cap A c bs->base<=4611686018427387904->bs.length<=16384->(-9223372036854775808<=o/\o<=9223372036854775807)->ahS bs o=y->
 Calls Tryz.prog 174 #[.pointer (some ⟨g,0,none⟩), .int .i64 o] w fun e w'=>aoE 3 195 g base cap A y w e w'
def avE:Prop:=∀(w:World) (g base cap c:Nat) (A:Option Addr) (bs:List UInt8) (o:Int) (y:Option (List UInt8)),Ar w 195 g base cap A c bs->base<=4611686018427387904->bs.length<=16384->(-9223372036854775808<=o/\o<=9223372036854775807)->aeC bs o=y->
 Calls Tryz.prog 271 #[.pointer (some ⟨g,0,none⟩), .int .i64 o] w fun e w'=>aoE 3 195 g base cap A y w e w'
def awf:Prop:=∀(w:World) (g base cap c:Nat) (A:Option Addr) (bs:List UInt8) (k:Nat) (x:Option (List Nat)),Ar w 195 g base cap A c bs->base<=4611686018427387904->bs.length<=16384->k<22->afn bs k=x->
 Calls Tryz.prog 102 #[.pointer (some ⟨g,0,none⟩), .int .i64 (k:Int)] w fun e w'=>afd x 3 w e w'
def akg (bs:List UInt8) (s:Int):Value:=if aaB s=true then .tuple #[.int .i64 (((aoZ bs s).getD 0:Nat):Int),aat (aoZ bs s).isSome 3] else .tuple #[.int .i64 0,aat false 1]
def avF:Prop:=∀(w:World) (g base cap c:Nat) (A:Option Addr) (bs:List UInt8) (s:Int),Ar w 195 g base cap A c bs->base<=4611686018427387904->bs.length<=16384->(-9223372036854775808<=s/\s<=9223372036854775807)->
 Calls Tryz.prog 233 #[.pointer (some ⟨g,0,none⟩), .int .i64 s] w fun e w'=>e= .returned (akg bs s)/\Below w.heap.size w w'
def arR:Prop:=∀(w:World) (g base cap c:Nat) (A:Option Addr) (bs:List UInt8) (y:Option (List UInt8)),Ar w 195 g base cap A c bs->base<=4611686018427387904->bs.length<=16384->abz bs=y->
 Calls Tryz.prog 109 #[.pointer (some ⟨g,0,none⟩)] w fun e w'=>aoE 3 195 g base cap A y w e w'
theorem afe{l:List Nat}:∀{r:List Nat},l.Nodup->(∀a∈l,a∈r)->l.length<=r.length:=by
 induction l with
 | nil=>intro r _ _;exact Nat.zero_le _
 | cons x l ih=>
  intro r hn hs;obtain⟨h1,h2⟩:=List.nodup_cons.1 hn;have hx:=hs x (by simp);have h3:=ih (r:=r.erase x) h2 (fun a ha=>(List.mem_erase_of_ne (fun e:a=x=>h1 (by rw[<-e];exact ha))).2 (hs a (by simp[ha])));have h4:=List.length_erase_of_mem hx;have h5:0<r.length:=List.length_pos_of_mem hx;rw[List.length_cons];omega
theorem apI{l r:List Nat}(hn:l.Nodup) (hs:∀a∈l,a∈r) (hl:r.length<=l.length):∀b∈r,b∈l:=fun b hb=>by
 by_cases hin:b∈l
 · exact hin
 · have h1:=afe (r:=r.erase b) hn (fun a ha=>(List.mem_erase_of_ne (fun e:a=b=>hin (by rw[<-e];exact ha))).2 (hs a ha));have h2:=List.length_erase_of_mem hb;have h3:0<r.length:=List.length_pos_of_mem hb;omega
theorem agW:∀{l:List Nat},(∀a∈l,l.count a=1)->l.Nodup
 | [],_=>List.nodup_nil
 | x::r,h=>by
  have h1:=h x (by simp);rw[List.count_cons_self]at h1;have hx:x∉r:=List.count_eq_zero.1 (by omega);refine List.nodup_cons.2 ⟨hx,agW fun a ha=> ?_⟩;have h2:=h a (by simp[ha]);have hne:x≠a:=fun e=>hx (e▸ha);rw[List.count_cons_of_ne hne]at h2;exact h2
section
variable {bs:List UInt8} {H:Hp}
theorem Rt.nfree (h:Rt bs H):(∀c,c<22->(H.lists c).Nodup/\∀o∈H.lists c,o∈aa2 H.blks c)/\aex H.blks=true/\agb bs H.blks 22 0 (abl H.blks)=true:=by
 have hk:=h.chk;unfold abY at hk;rw[h.walk]at hk;simp only[Bool.and_eq_true]at hk;refine⟨fun c hc=> ?_,hk.2.1,hk.2.2⟩;obtain⟨al,h1,h2⟩:=aeZ 22 0 _ hk.2.2 c (Nat.zero_le _) (by omega);rw[h.all_ c hc]at h1;injection h1 with h1;subst h1;have h2':=List.all_eq_true.1 h2;refine⟨agW fun a ha=> ?_,fun o ho=> ?_⟩
 · have:=h2' a ha;unfold okO at this;rw[Bool.and_eq_true]at this;simpa using this.2
 · have h3:=h2' o ho;unfold okO at h3;rw[Bool.and_eq_true]at h3;have h4:=h3.1;unfold acx at h4;obtain⟨x,hx,hx2⟩:=List.any_eq_true.1 h4;simp only[Bool.and_eq_true,beq_iff_eq]at hx2;have hm:=acL (h.all_ c hc) o ho;have hg:=(aaj h.walk).2.2 x hx;unfold aap at hm;rw[<-hx2.1,hg]at hm;simp only[Bool.and_eq_true,beq_iff_eq]at hm;rw[<-hx2.1];exact abe hx (by simpa using hx2.2) hm.2.2
theorem amO{bs:List UInt8}{l:List Bk}{L:Nat->List Nat}(hL:∀c,c<22->afn bs c=some (L c)) (hs:∀c,c<22->(L c).length<=(aa2 l c).length):
 ∀(k c:Nat) (fr:Int),c+k=22->agb bs l k c fr=true->fr<=afu l k c/\(fr=afu l k c->∀d,c<=d->d<22->(aa2 l d).length<=(L d).length)
 | 0,c,fr,hck,h=>by
  unfold agb at h;have:fr=0:=by simpa using h
  refine⟨by subst this;exact Int.natCast_nonneg _,fun _ d h1 h2=>by omega⟩
 | k+1,c,fr,hck,h=>by
  unfold agb at h;rw[hL c (by omega)]at h;dsimp only at h;rw[Bool.and_eq_true]at h;obtain⟨i1,i2⟩:=amO hL hs k (c+1) _ (by omega) h.2;have h1:=hs c (by omega);have e:(afu l (k+1) c:Int)=((aa2 l c).length:Int)+(afu l k (c+1):Int):=by
   show(((aa2 l c).length+afu l k (c+1):Nat):Int)=_;omega
  refine⟨by omega,fun hfr d hd1 hd2=> ?_⟩;rcases Nat.lt_or_ge c d with hlt | hge
  · exact i2 (by omega) d hlt hd2
  · obtain rfl:d=c:=by omega
    omega
theorem Rt.complete (h:Rt bs H):∀c,c<22->∀o∈aa2 H.blks c,o∈H.lists c:=fun c hc=>by
 obtain⟨h1,_,h3⟩:=h.nfree;have ht:=(aaj h.walk).2.1;have hsz:∀x∈H.blks,aaB (x.size:Int)=true:=fun x hx=>((aak _ _ _ ht).2 x hx).2.2.1;have hl:=amO h.all_ (fun c hc=>afe (h1 c hc).1 (h1 c hc).2) 22 0 _ rfl h3;exact apI (h1 c hc).1 (h1 c hc).2 (hl.2 (by rw[aiL _ hsz]) c (Nat.zero_le _) hc)
theorem ah9{l:List Bk}{s:Nat}:∀{L:List Nat},af4 l s L=none->(∀o∈L,∃i,atB (o:Int) l=some i)->∀o∈L,∀i,atB (o:Int) l=some i->(aam l i).size<s
 | [],_,_,o,ho,_,_=>by cases ho
 | q::r,h,hL,o,ho,i,hi=>by
  obtain⟨j,hj⟩:=hL q (by simp);unfold af4 at h;rw[hj]at h;dsimp only at h;split at h
  · cases h
  · rename_i hs;rcases List.mem_cons.1 ho with rfl | ho
    · rw[hj]at hi;injection hi with hi;subst hi;omega
    · exact ah9 h (fun a ha=>hL a (by simp[ha])) o ho i hi
theorem aia{s:Nat}:∀{k c:Nat},H.findC s k c=none->∀d,c<=d->d<c+k->af4 H.blks s (H.lists d)=none
 | 0,c,_,d,h1,h2=>by omega
 | k+1,c,h,d,h1,h2=>by
  unfold Hp.findC at h;split at h
  · cases h
  · rename_i hn;rcases Nat.lt_or_ge c d with hlt | hge
    · exact aia h d hlt (by omega)
    · obtain rfl:d=c:=by omega
      exact hn
theorem amP{l:List Bk}{o e:Nat}(h:abA o l e){x y:Bk}(hx:x∈l) (hy:y∈l) (he:x.off=y.off):x=y:=by
 have h1:=(aab _).1 ((aak _ _ _ h).2 x hx).2.2.1;have h2:=(aab _).1 ((aak _ _ _ h).2 y hy).2.2.1;rcases aaG l o e h x hx y hy with h' | h' | h'
 · exact h'
 · omega
 · omega
theorem asK{l:List Bk}{o e:Nat}(h:abA o l e){x:Bk}(hx:x∈l):∃i,atB (x.off:Int) l=some i/\i<l.length/\aam l i=x:=by
 obtain⟨i,hi⟩:=afv hx;obtain⟨h1,h2⟩:=afQ hi;refine⟨i,hi,h1,amP h (List.mem_of_getElem? (aas h1)) hx (by omega)⟩
theorem Rt.found (h:Rt bs H){s i:Nat}(hs:aaB (s:Int)=true) (hf:H.find s=some i):i<H.blks.length/\s<=(aam H.blks i).size/\(aam H.blks i).used=false:=by
 have ht:=(aaj h.walk).2.1;have one:∀(LL:List Nat),(∀o∈LL,∃x∈H.blks,x.off=o/\x.used=false)->∀i,af4 H.blks s LL=some i->i<H.blks.length/\s<=(aam H.blks i).size/\(aam H.blks i).used=false:=by
  intro LL;induction LL with
  | nil=>intro _ i h;cases h
  | cons o r ih=>
   intro hL i h;unfold af4 at h;split at h
   · cases h
   · rename_i j hj;split at h
     · rename_i hs;injection h with h;subst h;obtain⟨x,hx,hxo,hxu⟩:=hL o (by simp);obtain⟨h1,h2⟩:=afQ hj;have e:=amP ht (List.mem_of_getElem? (aas h1)) hx (by omega);exact⟨h1,hs,by rw[e];exact hxu⟩
     · exact ih (fun a ha=>hL a (by simp[ha])) i h
 have go:∀(k c i:Nat),c+k<=22->H.findC s k c=some i->i<H.blks.length/\s<=(aam H.blks i).size/\(aam H.blks i).used=false:=by
  intro k;induction k with
  | zero=>intro c i _ h;cases h
  | succ k ih=>
   intro c i hck hh;unfold Hp.findC at hh;split at hh
   · rename_i j hj;injection hh with hh;subst hh;refine one _ (fun o ho=> ?_) _ hj;obtain⟨x,h1,h2,h3,_⟩:=abC ((h.nfree.1 c (by omega)).2 o ho);exact⟨x,h1,h2,h3⟩
   · exact ih _ _ (by omega) hh
 obtain⟨cl,hcl,hcl22⟩:∃c:Nat,aaq (s:Int)=(c:Int)/\c<22:=abq (x:=⟨0,s,false⟩) hs;unfold Hp.find at hf;rw[hcl,Int.toNat_natCast]at hf;exact go _ _ _ (by omega) hf
theorem Rt.lost (h:Rt bs H){s:Nat}(hs:aaB (s:Int)=true) (hf:H.find s=none):∀x∈H.blks,x.used=false->x.size<s:=fun x hx hu=>by
 have ht:=(aaj h.walk).2.1;have hxs:=((aak _ _ _ ht).2 x hx).2.2.1;obtain⟨cl,hcl,hcl22⟩:∃c:Nat,aaq (s:Int)=(c:Int)/\c<22:=abq (x:=⟨0,s,false⟩) hs;obtain⟨cx,hcx,hcx22⟩:=abq hxs;rcases Nat.lt_or_ge x.size s with h1 | h1
 · exact h1
 · have hm:=ale hs hxs (by omega);unfold Hp.find at hf;rw[hcl,Int.toNat_natCast]at hf;have hl:=aia hf cx (by omega) (by omega);obtain⟨i,hi,_,hb⟩:=asK ht hx;have:=ah9 hl (h.listed cx hcx22) x.off (h.complete cx hcx22 _ (abe hx hu hcx)) i hi;rw[hb]at this;exact this
theorem atA{l:List Bk}{j:Nat}{x:Bk}(hx:l[j]?=some x):abc (l.take (j+1))=abc (l.take j)+x.size:=by
 rw[List.take_add_one,hx,ae2];simp[abc]
def anS (l:List Bk):Nat:=l.foldl (fun e x=>if x.used=true then x.off+x.size else e) 184
theorem akh (l:List Bk) (x:Bk):anS (l++ [x])=if x.used=true then x.off+x.size else anS l:=by
 unfold anS;rw[List.foldl_append];rfl
theorem apJ{l:List Bk}{j:Nat}{x:Bk}(hx:l[j]?=some x):anS (l.take (j+1))=if x.used=true then x.off+x.size else anS (l.take j):=by
 rw[List.take_add_one,hx];exact akh _ _
theorem atC{l:List Bk}{k:Nat}(h:l.length=k+1):l=l.take k++ [aam l k]:=by
 have e:=ajU (aas (l:=l) (i:=k) (by omega));rw[List.drop_of_length_le (by omega)]at e;exact e
theorem apK{l:List Bk}(ht:abA 184 l (lenB l)) (hn:aex l=true):anS l+acp l=lenB l:=by
 obtain⟨k,hk⟩:∃k,l.length=0\/l.length=k+1:=⟨l.length-1,by omega⟩;rcases hk with hk | hk
 · obtain rfl:=List.eq_nil_of_length_eq_zero hk;rfl
 · have e:=atC hk;have ha:=aiN ht (aas (l:=l) (i:=k) (by omega));have hlast:(aam l k).off+(aam l k).size=lenB l:=by
    have h4:=ha.2.2.2;rw[List.drop_of_length_le (by omega)]at h4;exact h4
   have he:anS l=if (aam l k).used=true then (aam l k).off+(aam l k).size else anS (l.take k):=by
    conv=>lhs;rw[e]
    exact akh _ _
   unfold acp;rw[if_neg (by omega),show l.length-1=k by omega]
   cases hu:(aam l k).used with
   | true=>
    rw[hu,if_pos rfl]at he;rw[if_pos rfl,he];omega
   | false=>
    rw[hu,if_neg (by decide)]at he;rw[if_neg (by decide),he];have hoff:=ha.2.1
    cases k with
    | zero=>
     rw[List.take_zero];rw[List.take_zero]at hoff;have h0:anS []=184:=rfl;simp only[abc]at hoff;rw[h0];omega
    | succ k=>
     have hp:=List.all_eq_true.1 hn (k+1) (List.mem_range.2 (by omega));unfold adQ adP at hp;rw[aas (l:=l) (i:=k+1) (by omega),show k+1-1=k by omega,aas (l:=l) (i:=k) (by omega)]at hp;dsimp only at hp;rw[hu]at hp;have hpu:(aam l k).used=true:=by simpa using hp
     have e2:anS (l.take (k+1))=(aam l k).off+(aam l k).size:=by
      rw[apJ (aas (l:=l) (i:=k) (by omega)),if_pos hpu]
     have hb:=aiN ht (aas (l:=l) (i:=k) (by omega));have hs:=atA (aas (l:=l) (i:=k) (by omega));rw[e2];omega
theorem Rt.room (h:Rt bs H){s:Nat}(hs:aaB (s:Int)=true):(H.take s).1.isSome=(H.blks.any (fun x=> !x.used&&decide (s<=x.size)) || decide (s+anS H.blks<=H.cap)):=by
 have ht:abA 184 H.blks (lenB H.blks):=by rw[h.lenE];exact(aaj h.walk).2.1
 have het:=apK ht h.nfree.2.1;unfold Hp.take
 cases hf:H.find s with
 | some i=>
  obtain⟨h1,h2,h3⟩:=h.found hs hf;dsimp only;have:H.blks.any (fun x=> !x.used&&decide (s<=x.size))=true:=List.any_eq_true.2 ⟨_,List.mem_of_getElem? (aas h1),by rw[h3,decide_eq_true h2];rfl⟩;rw[this];rfl
 | none=>
  have hno:H.blks.any (fun x=> !x.used&&decide (s<=x.size))=false:=by
   rw[Bool.eq_false_iff];intro hh;obtain⟨x,hx,hx2⟩:=List.any_eq_true.1 hh;simp only[Bool.and_eq_true,decide_eq_true_eq]at hx2;have:=h.lost hs hf x hx (by simpa using hx2.1);omega
  rw[hno,Bool.false_or];dsimp only;by_cases hr:H.cap<lenB H.blks+s-acp H.blks
  · rw[if_pos hr,decide_eq_false (by omega)];rfl
  · rw[if_neg hr,decide_eq_true (by omega)];split<;>rfl
end
def aib (bs bs':List UInt8) (x:Bk):Prop:=bs'.length=bs.length/\∀q,(q<x.off+8\/x.off+x.size<=q+8)->bs'[q]?=bs[q]?
theorem aic{bs bs':List UInt8}{c:Nat}:∀(k last p:Nat) (l:List Nat),ael bs c k last p=some l->(∀o∈l,aap bs' o (c:Int)=true/\aaf bs' (o+16)=aaf bs (o+16)/\aaf bs' (o+8)=aaf bs (o+8))->ael bs' c k last p=some l
 | 0,last,p,l,h,_=>by
  unfold ael at h ⊢;split at h
  · rename_i hp;rw[if_pos hp];exact h
  · cases h
 | k+1,last,p,l,h,hm=>by
  unfold ael at h ⊢;by_cases hp:p=0
  · rw[if_pos hp]at h ⊢;exact h
  · rw[if_neg hp]at h ⊢;dsimp only at h ⊢;by_cases hc:aap bs p (c:Int)=true/\aaf bs (p+16)=last
    · rw[if_pos hc]at h
      cases hr:ael bs c k p (aaf bs (p+8))with
      | none=>rw[hr]at h;cases h
      | some l'=>
       rw[hr]at h;injection h with h;subst h;obtain⟨m1,m2,m3⟩:=hm p (by simp);rw[if_pos ⟨m1,m2.trans hc.2⟩,m3,aic k p _ l' hr (fun o ho=>hm o (by simp[ho]))];rfl
    · rw[if_neg hc]at h;cases h
theorem aid{bs bs':List UInt8}{l:List Bk}(h:∀c,c<22->afn bs' c=afn bs c):∀(k c:Nat) (fr:Int),c+k=22->agb bs' l k c fr=agb bs l k c fr
 | 0,c,fr,_=>rfl
 | k+1,c,fr,hck=>by
  unfold agb;rw[h c (by omega)];split
  · rfl
  · rw[aid h k (c+1) _ (by omega)]
section
variable {bs bs':List UInt8} {H:Hp} {x:Bk}
theorem Rt.fill (h:Rt bs H) (hx:x∈H.blks) (hu:x.used=true) (ha:aib bs bs' x):Rt bs' H:=by
 obtain⟨h184,ht,hg⟩:=aaj h.walk;obtain⟨hl,hq⟩:=ha;have hxm:=(aak _ _ _ ht).2 x hx;have hxs:=(aab _).1 hxm.2.2.1;have hw:∀p,(p+8<=x.off+8\/x.off+x.size<=p+8)->aaf bs' p=aaf bs p:=fun p hp=>aaL bs bs' p fun i h1 h2=>hq i (by omega);have hget:∀y∈H.blks,aa6 bs' (y.off:Int)=some y:=fun y hy=>by
  have hym:=(aab _).1 ((aak _ _ _ ht).2 y hy).2.2.1;refine abW bs bs' y hl (hg y hy) ?_ ?_
  · rcases aaG _ _ _ ht y hy x hx with rfl | h' | h'
    · exact hw _ (.inl (by omega))
    · exact hw _ (.inl (by omega))
    · exact hw _ (.inr (by omega))
  · rcases aaG _ _ _ ht y hy x hx with rfl | h' | h'
    · exact hw _ (.inr (by omega))
    · exact hw _ (.inl (by omega))
    · exact hw _ (.inr (by omega))
 have hwalk:abG bs'=some H.blks:=adb (by rw[hl];exact ht) hget;have hall:∀c,c<22->afn bs' c=some (H.lists c):=fun c hc=>by
  have h1:=h.all_ c hc;unfold afn at h1 ⊢;rw[hl,hw 0 (.inl (by omega)),hw (8+8*c) (.inl (by omega))];split at h1
  · cases h1
  · rename_i hn;rw[if_neg hn];split at h1
    · cases h1
    · rename_i hb;rw[if_neg hb];refine aic _ _ _ _ h1 fun o ho=> ?_;obtain⟨y,hy,hyo,hyu,hyc⟩:=abC ((h.nfree.1 c hc).2 o ho);have hym:=(aab _).1 ((aak _ _ _ ht).2 y hy).2.2.1;have hye:=((aak _ _ _ ht).2 y hy).2.1;have hmm:=aeG (acL (h.all_ c hc) o ho);subst hyo;have hap:y.off+y.size<=x.off\/x.off+x.size<=y.off:=by
       rcases aaG _ _ _ ht y hy x hx with h' | h' | h'
       · rw[h',hu]at hyu;cases hyu
       · exact .inl h'
       · exact .inr h'
      refine⟨?_,?_,?_⟩
      · unfold aap;rw[hget y hy];simp only[Bool.and_eq_true,decide_eq_true_eq,beq_iff_eq,Bool.not_eq_true'];exact⟨hmm.1,hyu,hyc⟩
      · rcases hap with h' | h'
        · exact hw _ (.inl (by omega))
        · exact hw _ (.inr (by omega))
      · rcases hap with h' | h'
        · exact hw _ (.inl (by omega))
        · exact hw _ (.inr (by omega))
 refine⟨hwalk,hall,?_,by rw[hl];exact h.len⟩;have hk:=h.chk;unfold abY at hk ⊢;rw[h.walk]at hk;rw[hwalk];dsimp only at hk ⊢;have hn0:ans bs' 0=ans bs 0:=by
  unfold ans word?;rw[hl];split
  · show(some (aaf bs' 0)).getD 0=(some (aaf bs 0)).getD 0;rw[hw 0 (.inl (by omega))]
  · rfl
 rw[hn0,aid (fun c hc=>(hall c hc).trans (h.all_ c hc).symm) 22 0 _ rfl];exact hk
theorem aed (d:Nat) (cs:List UInt8) (h1:x.off+8<=d) (h2:d+cs.length+8<=x.off+x.size) (h3:x.off+x.size<=bs.length):aib bs (lay bs d cs) x:=by
 have hle:d<=bs.length:=by omega
 refine⟨?_,fun q hq=> ?_⟩
 · unfold lay;simp only[List.length_append,List.length_take,List.length_drop];omega
 · unfold lay;rcases Nat.lt_or_ge q d with h | h
   · rw[List.getElem?_append_left (by rw[List.length_take];omega),List.getElem?_take_of_lt h]
   · have hq2:d+cs.length<=q:=by omega
     rw[List.getElem?_append_right (by rw[List.length_take];omega),List.length_take,List.getElem?_append_right (by omega),List.getElem?_drop];congr 1;omega
theorem aie (bs:List UInt8) (d:Nat) (cs:List UInt8) (hd:d<=bs.length) (k:Nat) (hk:k<cs.length):(lay bs d cs)[d+k]?=cs[k]?:=by
 unfold lay;rw[List.getElem?_append_right (by rw[List.length_take];omega),List.length_take,List.getElem?_append_left (by omega),show d+k-min d bs.length=k by omega]
end
def ac1 (k:Int) (g base cap:Nat) (A:Option Addr) (bs:List UInt8) (H:Hp) (y:Option Hp) (w:World) (e:Ending) (w':World):Prop:=
 match y with
 | none=>e= .returned (aat false k)/\Below w.heap.size w w'
 | some H'=>e= .returned (aat true k)/\∃out,Became 195 g base cap A out w w'/\Rt out H'/\Held H bs H' out
def ab9 (g base cap:Nat) (A:Option Addr) (bs:List UInt8) (H:Hp) (y:Option Nat × Hp) (w:World) (e:Ending) (w':World):Prop:=
 match y.1 with
 | none=>e= .returned (.tuple #[.int .i64 0,aat false 5])/\Below w.heap.size w w'
 | some o=>e= .returned (.tuple #[.int .i64 (o:Int),aat true 5])/\∃out,Became 195 g base cap A out w w'/\Rt out y.2/\Held H bs y.2 out
def avG:Prop:=∀(w:World) (g base cap c:Nat) (A:Option Addr) (bs:List UInt8) (H:Hp) (s:Int),Ar w 195 g base cap A c bs->base<=4611686018427387904->cap<=16384->H.cap=cap->Rt bs H->(-9223372036854775808<=s/\s<=9223372036854775807)->
 (aaB s=false->Calls Tryz.prog 188 #[.pointer (some ⟨g,0,none⟩), .int .i64 s] w fun e w'=>e= .returned (.tuple #[.int .i64 0,aat false 1])/\Below w.heap.size w w')/\
 (aaB s=true->Calls Tryz.prog 188 #[.pointer (some ⟨g,0,none⟩), .int .i64 s] w fun e w'=>ab9 g base cap A bs H (H.take s.toNat) w e w')
def avH:Prop:=∀(w:World) (g base cap c:Nat) (A:Option Addr) (bs:List UInt8) (H:Hp) (o:Int),Ar w 195 g base cap A c bs->base<=4611686018427387904->cap<=16384->H.cap=cap->Rt bs H->(-9223372036854775808<=o/\o<=9223372036854775807)->
 Calls Tryz.prog 127 #[.pointer (some ⟨g,0,none⟩), .int .i64 o] w fun e w'=>ac1 3 g base cap A bs H (H.giveO o) w e w'
def avI:Prop:=∀(w:World) (g base cap c:Nat) (A:Option Addr) (bs:List UInt8) (H:Hp) (o s:Int),Ar w 195 g base cap A c bs->base<=4611686018427387904->cap<=16384->H.cap=cap->Rt bs H->(-9223372036854775808<=o/\o<=9223372036854775807)->(-9223372036854775808<=s/\s<=9223372036854775807)->
 (aaB s=false->Calls Tryz.prog 191 #[.pointer (some ⟨g,0,none⟩), .int .i64 o, .int .i64 s] w fun e w'=>e= .returned (aat false 1)/\Below w.heap.size w w')/\
 (aaB s=true->Calls Tryz.prog 191 #[.pointer (some ⟨g,0,none⟩), .int .i64 o, .int .i64 s] w fun e w'=>ac1 3 g base cap A bs H (H.trimO o s.toNat) w e w')
def avJ:Prop:=∀(w:World) (g base cap c:Nat) (A:Option Addr) (bs:List UInt8) (H:Hp) (o:Int),Ar w 195 g base cap A c bs->base<=4611686018427387904->cap<=16384->H.cap=cap->Rt bs H->(-9223372036854775808<=o/\o<=9223372036854775807)->
 Calls Tryz.prog 189 #[.pointer (some ⟨g,0,none⟩), .int .i64 o] w fun e w'=>aaA ((aaY H.blks o).map (aam H.blks)) w e w'
end Go.Proofs.YtncadccbepjekaaGreatDoor
