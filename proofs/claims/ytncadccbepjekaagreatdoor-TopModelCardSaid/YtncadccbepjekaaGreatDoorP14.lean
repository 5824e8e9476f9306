/- Texts of mine, joined. -/
import Derived.Test.YtncadccbepjekaaGreatDoorP9
import Derived.Test.YtncadccbepjekaaGreatDoorP10
import Derived.Test.YtncadccbepjekaaGreatDoorP11
import Derived.Test.YtncadccbepjekaaGreatDoorP12
set_option maxRecDepth 100000
set_option maxHeartbeats 1000000
namespace Go.Proofs.YtncadccbepjekaaGreatDoor
open Go.RowKit
theorem aj6 (bs:List UInt8):∀(k o:Nat) (l:List Bk),ac7 bs k o=some l->∀x∈l,aa8 bs (x.off:Int)=some x
 | 0,_,_,h,_,_=>by cases h
 | k+1,o,l,h,x,hx=>by
  unfold ac7 at h;by_cases hlt:o<bs.length
  · rw[if_pos hlt]at h
    cases hg:aa8 bs (o:Int)with
    | none=>rw[hg]at h;cases h
    | some y=>
     rw[hg]at h;dsimp only at h
     cases hr:ac7 bs k (o+y.size)with
     | none=>rw[hr]at h;cases h
     | some r=>
      rw[hr]at h;injection h with h;subst h;rcases List.mem_cons.1 hx with e | hx
      · subst e;have:=(aay hg).1;rw[<-this,hg]
      · exact aj6 bs k _ r hr x hx
  · rw[if_neg hlt]at h;injection h with h;subst h
    cases hx
theorem apm{bs:List UInt8}{l:List Bk}(h:abI bs=some l):184<=bs.length/\∀x∈l,aa8 bs (x.off:Int)=some x:=by
 unfold abI at h;split at h
 · cases h
 · exact⟨by omega,aj6 bs _ _ l h⟩
theorem apn{w:World}{base n:Nat}{t:TypeId}{A:Option Addr}{c:Nat}{l:List Bk}(h:w.ownsRow base t 3 (.slice A n c) n (acW l)) (hn:n=l.length):BkRd w w.heap.size A l:=fun h0=>by
 rcases h.2 with⟨_,h0'⟩ | ⟨g,_,_,h',_⟩
 · omega
 · injection h' with e;subst e;refine⟨g,0,rfl,(h.lt g rfl).2,fun j x hx=> ?_⟩;obtain⟨q0,q1,q2⟩:=ajV l j x hx;have hj:j<l.length:=by
    rcases Nat.lt_or_ge j l.length with h | h
    · exact h
    · rw[List.getElem?_eq_none h]at hx;cases hx
   refine⟨?_,?_,?_⟩
   · rw[Nat.zero_add,h.cellAt (j*3) (by omega),q0]
   · rw[Nat.zero_add,h.cellAt (j*3+1) (by omega),q1]
   · rw[Nat.zero_add,h.cellAt (j*3+2) (by omega),q2]
section
variable (w:World)
end
def need (n:Nat):Nat:=(n+511)/512
def agF (b:List UInt8) (i:Nat):List UInt8:=(b.drop (i*512)).take 512++List.replicate (512-(b.length-i*512)) 0
theorem aeK (b:List UInt8) (i:Nat):(agF b i).length=512:=by
 simp[agF];omega
theorem Fill.over{B:Nat}{w0 w:World}{g:Nat}{t:TypeId}{bs:List UInt8}(h:Fill w g t bs) (hb:Below B w0 w) (hB:B<=g) (off:Nat) (cs:List UInt8):
 Fill (w.setRow g (((acb bs).toList.take off++(cs.map bv++(acb bs).toList.drop (off+(cs.map bv).length))).toArray)) g t (lay bs off cs)/\Below B w0 (w.setRow g (((acb bs).toList.take off++(cs.map bv++(acb bs).toList.drop (off+(cs.map bv).length))).toArray)):=by
 refine⟨?_,below_setRow hb hB _⟩;unfold Fill at h ⊢;rw[setRow_heap w g _ _ t _ h];simp[acb,lay]
section
variable {S:Nat->Prop} {w:World} {g h c:Nat} {W:Option Addr} {cw:Nat} {bs:List UInt8} {ws:List Wr} {left:Int} {off:Bool}
theorem ad7 (w:World) (n:Nat) (hn:n<=9223372036854775807) (m:Nat) (hm:need n=m):
 Calls Tryz.prog 253 #[.int .i64 (n:Int)] w fun e w'=>e= .returned (.int .i64 (m:Int))/\w=w':=by
 unfold need at hm;by_cases h:n%512=0
 · have s1:decide ((0:Int)<(n:Int)%512)=false:=decide_eq_false (by omega);have HM:Hid ((n:Int)/512=(m:Int)):=(show _=_ by omega);clear hm;go_enter Tryz.func253,Tryz.ntmps253
   go_wp2
   go_ret
   exact⟨apc HM.out,rfl⟩
 · have s1:decide ((0:Int)<(n:Int)%512)=true:=decide_eq_true (by omega);have HM:Hid ((n:Int)/512+1=(m:Int)):=(show _=_ by omega);clear hm;go_enter Tryz.func253,Tryz.ntmps253
   go_wp2
   go_ret
   exact⟨apc HM.out,rfl⟩
theorem aj7 (k:Dk S w g h c W cw bs ws left off) (N:Nat) (hN:bs.length=512*N) (hN2:N<=128) (p n:Nat) (hfit:p+need n<=N):
 Calls Tryz.prog 252 #[.pointer (some ⟨g,0,none⟩), .int .i64 (p:Int), .int .i64 (n:Int)] w fun e w'=>e= .returned (.bool true)/\w=w':=by
 have HS:=ad2 k (by omega);rw[show bs.length/512=N by omega]at HS;have HS:=hE0 HS;obtain⟨m,hm⟩:=nmE (need n);have HE:=hE0 (ad7 w n (by unfold need at hfit;omega) m hm);rw[hm]at hfit;have h1:(p:Int)<=(N:Int):=by omega
 have h2:(m:Int)<=(N:Int)-(p:Int):=by omega
 clear hm k hN;go_enter Tryz.func252,Tryz.ntmps252
 go_wp2_with fail
 with_reducible refine HS.out.mono ?_
 rintro e w1 ⟨rfl,rfl⟩;go_wp2_with fail
 with_reducible refine HE.out.mono ?_
 rintro e w1 ⟨rfl,rfl⟩;go_wp2_with fail
 with_reducible refine HS.out.mono ?_
 rintro e w1 ⟨rfl,rfl⟩;go_wp2
 go_ret
 exact⟨rfl,rfl⟩
end
theorem als (w:World) (A:Addr) (cA:Nat) (b:List UInt8) (hr:Rd w w.heap.size (some A) b.length b) (_hb:b.length<=1000000) (hpos:0<b.length):
 Calls Tryz.prog 256 #[.slice (some A) b.length cA] w fun e w'=>e= .returned (.slice (some ⟨w.heap.size,0,none⟩) 512 512)/\Fill w' w.heap.size 5 (agF b 0)/\Below w.heap.size w w':=by
 obtain⟨z,hz⟩:=nmE (List.replicate 512 (0:UInt8));have hzl:z.length=512:=by rw[<-hz];simp
 have hmk:∀W:World,(Instr.makeSlice 37 (.int .i64 512) (.int .i64 512)).run Tryz.prog W= .ok (.slice (some ⟨W.heap.size,0,none⟩) 512 512) (W.alloc (.cells (acb z) 5)):=fun W=>by
  have:=run_make_row' (P:=Tryz.prog) 37 5 (.int .u8 0) 1 Tryz.underlying37 afp rfl .i64 .i64 512 (by omega) (by omega) W;rw[acK,hz]at this;exact this
 obtain⟨w0,hw0⟩:=nmE (w.alloc (.cells (acb z) 5));have hf:Fill w0 w.heap.size 5 z:=by rw[<-hw0];exact Fill.made w 5 _
 have hbl:=abE hw0;have rs:=hr.below hbl;have hn:((b.take 512).map bv).length=Nat.min b.length 512:=by rw[List.length_map,List.length_take];exact Nat.min_comm _ _
 have hsrc:∀j v,((b.take 512).map bv)[j]?=some v->w0.cell? (A.add j)=some v:=fun j v hj=>adn rs j v (by
  rw[List.map_take]at hj;rcases Nat.lt_or_ge j 512 with h | h
  · rwa [List.getElem?_take_of_lt h]at hj
  · rw[List.getElem?_eq_none (by simp;omega)]at hj;cases hj)
 have hov:=hf.over hbl (Nat.le_refl _) 0 (b.take 512);have e1:lay z 0 (b.take 512)=agF b 0:=by
  rw[<-hz];simp only[lay,agF,List.take_zero,List.nil_append,Nat.zero_mul,List.drop_zero,Nat.zero_add,List.drop_replicate,List.length_take,Nat.sub_zero];congr 2;omega
 rw[e1]at hov;have HOV:=hE0 hov;have HSRC:=hE0 hsrc;have HN:=hE0 hn;have HF:=hE0 hf;have HFIT:Hid (0+((b.take 512).map bv).length<=(acb z).size):=(show _<=_ by rw[adP,hzl,List.length_map,List.length_take];omega);have HW0:=hE0 hw0;clear hov hsrc hn hf hbl rs hr e1 hz hzl hw0;go_enter Tryz.func256,Tryz.ntmps256
 go_wp2_with (rw[HW0.out];(refine wpList_copy_own rfl (.tmp 5) (.tmp 6) 37 37 rfl 5 Tryz.underlying37 (by kernel_rfl) w.heap.size 0 512 512 A b.length cA rfl rfl _ 5 HF.out ((b.take 512).map bv) HN.out HSRC.out HFIT.out (afG _) ?_);generalize w0.setRow _ _=w2 at HOV ⊢)
 go_ret
 exact⟨rfl,HOV.out.1,HOV.out.2⟩
def adw (bs:List UInt8) (l:List (Nat × List UInt8)) (p j:Nat):List UInt8:=((List.range j).map fun i=>abB bs l (p+i)).flatten
theorem ade (bs:List UInt8) (l:List (Nat × List UInt8)) (p j:Nat):adw bs l p (j+1)=adw bs l p j++abB bs l (p+j):=by simp[adw,List.range_succ]
theorem acY (bs:List UInt8) (l:List (Nat × List UInt8)) (i:Nat) (hf:apd bs.length l) (hi:i*512+512<=bs.length):(abB bs l i).length=512:=by
 unfold abB;split
 · rename_i x h;exact(hf x (List.mem_reverse.1 (List.mem_of_find?_eq_some h))).2
 · rw[List.length_take,List.length_drop];omega
theorem afM (bs:List UInt8) (l:List (Nat × List UInt8)) (p:Nat) (hf:apd bs.length l) (j:Nat) (h:(p+j)*512<=bs.length):(adw bs l p j).length=512*j:=by
 induction j with
 | zero=>simp[adw]
 | succ j ih=>
  have h1:=ih (by omega);have h2:=acY bs l (p+j) hf (by omega);rw[ade,List.length_append,h1,h2];omega
theorem arN (J x:List UInt8) (m:Nat) (hx:x.length=512):lay (J++List.replicate m 0) J.length (x.take m)=J++(x++List.replicate (m-512) 0).take m:=by
 unfold lay;rw[List.take_left];congr 1;have e:m-min m x.length=min (m-x.length) (m-512):=by omega
 rw[List.drop_append,List.drop_of_length_le (by omega),List.nil_append,Nat.add_sub_cancel_left,List.length_take,List.drop_replicate,List.take_append,List.take_replicate,e]
def ad8 (bs:List UInt8) (l:List (Nat × List UInt8)) (p n j:Nat):List UInt8:=(adw bs l p j++List.replicate (n-512*j) 0).take n
theorem alu (bs:List UInt8) (l:List (Nat × List UInt8)) (p n j:Nat) (hf:apd bs.length l) (hj:512*j<n) (hi:(p+j)*512+512<=bs.length):
 lay (ad8 bs l p n j) (j*512) ((abB bs l (p+j)).take (n-j*512))=ad8 bs l p n (j+1):=by
 have hl:=afM bs l p hf j (by omega);have hx:=acY bs l (p+j) hf hi;have e:j*512=(adw bs l p j).length:=by omega
 unfold ad8;rw[List.take_of_length_le (by simp;omega),ade,List.append_assoc,List.take_append,List.take_of_length_le (by omega:(adw bs l p j).length<=n),hl,show n-j*512=n-512*j by omega,e,arN _ _ _ hx];congr 4
theorem aiW (bs:List UInt8) (l:List (Nat × List UInt8)) (p n j:Nat) (hf:apd bs.length l) (hi:(p+j)*512<=bs.length):(ad8 bs l p n j).length=n:=by
 have hl:=afM bs l p hf j hi;simp[ad8,hl];omega
theorem Fill.own{w:World}{g:Nat}{bs:List UInt8}{base:Nat}(h:Fill w g 5 bs) (hB:base<=g) (hm:bs.length<=1000000):w.ownsRow base 5 1 (.slice (some ⟨g,0,none⟩) bs.length bs.length) bs.length (bs.map bv):=by
 refine⟨by simp, .inr ⟨g,bs.length,acb bs,rfl,hB,h,Nat.le_refl _,by unfold maxLen;omega,by rw[adP];simp,?_⟩⟩;rw[Nat.mul_one];simp only[acb];rw[List.take_of_length_le (by simp)]
section
variable {S:Nat->Prop} {w:World} {g h c:Nat} {W:Option Addr} {cw:Nat} {bs:List UInt8} {ws:List Wr} {left:Int} {off:Bool}
theorem apo (k:Dk S w g h c W cw bs ws left off) (N:Nat) (hN:bs.length=512*N) (hN2:N<=128) (p n K:Nat) (hK:need n=K) (hfit:p+K<=N) (ho:off=true->n=0) (out:List UInt8) (hout:(adw bs (ws.map Wr.two) p K).take n=out):
 Calls Tryz.prog 206 #[.pointer (some ⟨g,0,none⟩), .int .i64 (p:Int), .int .i64 (n:Int)] w fun e w'=>arr out w e w':=by
 have hbl:n<=65536:=by unfold need at hK;omega
 have HF:=hE0 (aj7 k N hN hN2 p n (by rw[hK];exact hfit));have HE:=hE0 (fun w=>ad7 w n (by omega) K hK);have hfs:=k.fits;obtain⟨z,hz⟩:=nmE (List.replicate n (0:UInt8));have hmk:∀W:World,(Instr.makeSlice 37 (.int .i64 (n:Int)) (.int .i64 (n:Int))).run Tryz.prog W= .ok (.slice (some ⟨W.heap.size,0,none⟩) n n) (W.alloc (.cells (acb z) 5)):=fun W=>by
  have:=run_make_row' (P:=Tryz.prog) 37 5 (.int .u8 0) 1 Tryz.underlying37 afp rfl .i64 .i64 n (by omega) (by omega) W;rw[acK,hz]at this;exact this
 obtain⟨w0,hw0⟩:=nmE (w.alloc (.cells (acb z) 5));have hf:Fill w0 w.heap.size 5 z:=by rw[<-hw0];exact Fill.made w 5 _
 have hbl0:=abE hw0;have e0:z=ad8 bs (ws.map Wr.two) p n 0:=by simp[ad8,adw,<-hz]
 have hend:ad8 bs (ws.map Wr.two) p n K=out:=by
  have:n-512*K=0:=by unfold need at hK;omega
  rw[<-hout];simp[ad8,this]
 have hlen:=fun j hj=>aiW bs (ws.map Wr.two) p n j hfs hj;rw[e0]at hf;have HF0:=hE0 hf;have HB0:=hE0 hbl0;have HW0:=hE0 hw0;have HKK:=hE0 k;have HNN:=hE0 hN;have HK:=hE0 hK;have HFS:=hE0 hfs;have HEND:=hE0 hend;have HLEN:=hE0 hlen;obtain⟨gb,hgb⟩:=nmE w.heap.size;have HGB:=hE0 hgb;clear hz hw0 hf hbl0 e0 k hN hK hout hfs hend hlen;go_enter Tryz.func206,Tryz.ntmps206
 go_wp2_with fail
 with_reducible refine HF.out.mono ?_
 rintro e w1 ⟨rfl,rfl⟩;clear HF;go_wp2_with fail
 rw[HW0.out]
 with_reducible refine(HE.out w0).mono ?_
 rintro e w1 ⟨rfl,rfl⟩;clear HE hmk HW0;clear hgb;go_wp2
 go_loopw [26] (fun i wr=>∃j:Nat,j<=K/\i= .int .i64 j/\Fill wr gb 5 (ad8 bs (ws.map Wr.two) p n j)/\Below gb w wr) (fun i _=>K-(intOf i).toNat)
 case atStart=>exact⟨0,Nat.zero_le _,rfl,by rw[<-HGB.out];exact HF0.out,by rw[<-HGB.out];exact HB0.out⟩
 case round=>
  obtain⟨j,hj,rfl,hf,hb⟩:=hrel;by_cases hlt:j<K
  · have hjn:512*j<n:=by have:=HK.out;unfold need at this;omega
    have hNb:=HNN.out;have hof:off=false:=by
     cases off
     · rfl
     · have:=ho rfl;omega
    subst hof;obtain⟨P,hP⟩:=nmE (ad8 bs (ws.map Wr.two) p n j);have hPl:P.length=n:=by rw[<-hP];exact HLEN.out j (by omega)
    have hst:=alu bs (ws.map Wr.two) p n j HFS.out hjn (by omega);have hxl:=acY bs (ws.map Wr.two) (p+j) HFS.out (by omega);have hrd:=amw (HKK.out.below (HGB.out▸hb)) (by omega) (p+j) (by omega);obtain⟨x,hx⟩:=nmE (abB bs (ws.map Wr.two) (p+j));rw[hP,hx]at hst;rw[hP]at hf;rw[hx]at hxl hrd;rw[Int.natCast_add]at hrd;have HRD:=hE0 hrd;have HST:=hE0 hst;have HFI:=hE0 hf;have HB:=hE0 hb;have hne:¬n=j*512:=by omega
    have HXL:=hE0 hxl;have HPL:=hE0 hPl;clear hrd hst hf hb hx hP hNb hxl hPl;go_wp2_with fail
    with_reducible refine HRD.out.mono ?_
    rintro e w2 ⟨A',c',rfl,hown,hb2⟩;rw[HXL.out]at hown ⊢;obtain⟨hr2,_⟩:=(⟨(aiy hown),trivial⟩:_/\True);obtain⟨A2,c2,e2,_,hr2⟩:=hr2;injection e2 with e2 _ e3;subst e2 e3;obtain⟨b2,o2,rfl,_,_⟩:=hr2.2 (by omega);have hlt2:=HFI.out.lt;have hf2:=HFI.out.below hb2 hlt2;have hov:=hf2.over ((HB.out.trans (hb2.mono (by omega)))) (Nat.le_refl _) (j*512) (x.take (n-j*512));rw[HST.out]at hov;have HOV:=hE0 hov;have HN2:Hid (((x.take (n-j*512)).map bv).length=Nat.min 512 (n-j*512)):=(show _=_ by rw[List.length_map,List.length_take,HXL.out];exact Nat.min_comm _ _);have HSRC:Hid (∀i v,((x.take (n-j*512)).map bv)[i]?=some v->w2.cell? ((⟨b2,o2,none⟩:Addr).add i)=some v):=fun i v hi=>adn hr2 i v (by
     rw[List.map_take]at hi;rcases Nat.lt_or_ge i (n-j*512)with h | h
     · rwa [List.getElem?_take_of_lt h]at hi
     · rw[List.getElem?_eq_none (by simp;omega)]at hi;cases hi)
    have HFIT:Hid (j*512+((x.take (n-j*512)).map bv).length<=(acb P).size):=(show _<=_ by rw[HN2.out,adP,HPL.out];have:=Nat.min_le_right 512 (n-j*512);simp only[Nat.min_def]at this ⊢;omega);have HF2:=hE0 hf2;clear hown hb2 hr2 hf2 hov HRD HST;go_wp2_with (refine wpList_copy_own rfl (.tmp 43) (.tmp 44) 37 37 rfl 5 Tryz.underlying37 (by kernel_rfl) gb (j*512) (n-j*512) (n-j*512) ⟨b2,o2,none⟩ 512 _ rfl rfl _ 5 HF2.out ((x.take (n-j*512)).map bv) HN2.out HSRC.out HFIT.out (afG _) ?_;generalize w2.setRow _ _=w3 at HOV ⊢)
    go_roundw
    case rel=>exact⟨j+1,by omega,by go_num,HOV.out.1,HOV.out.2⟩
    case measure=>simp[intOf];omega
  · obtain rfl:j=K:=by omega
    rw[HEND.out]at hf;have hol:out.length=n:=by rw[<-HEND.out];exact HLEN.out j (by have:=HNN.out;omega)
    have HO:=hE0 (hf.own (base:=gb) (Nat.le_refl _) (by omega));have HB:=hE0 hb;have HOL:=hE0 hol;clear hf hb hol;go_wp2
    go_ret2
    refine⟨some ⟨gb,0,none⟩,out.length,?_,HGB.out▸HO.out,HGB.out▸HB.out⟩;rw[HOL.out];rfl
end
def aav (ok:Bool) (k:Int):Value:=match ok with
 | true=> .nilIface
 | false=> .iface 130 (.int .i64 k)
def aaE (x:Option Bk) (w:World) (e:Ending) (w':World):Prop:=e= .returned (.tuple #[bkV x,aav x.isSome 3])/\Below w.heap.size w w'
def acZ (x:Option (List Bk)) (w:World) (e:Ending) (w':World):Prop:=
 ∃A' c',e= .returned (.tuple #[.slice A' (x.getD []).length c',aav x.isSome 3])/\w'.ownsRow w.heap.size 112 3 (.slice A' (x.getD []).length c') (x.getD []).length (acW (x.getD []))/\Below w.heap.size w w'
def app (k:Int) (t:TypeId) (g base cap:Nat) (A:Option Addr) (y:Option (List UInt8)) (w:World) (e:Ending) (w':World):Prop:=
 match y with
 | none=>e= .returned (aav false k)/\Below w.heap.size w w'
 | some out=>e= .returned (aav true k)/\Became t g base cap A out w w'
def awn:Prop:=∀(w:World) (g base cap c:Nat) (A:Option Addr) (bs:List UInt8) (o:Int) (x:Option Bk),Ar w 195 g base cap A c bs->base<=4611686018427387904->bs.length<=16384->(-9223372036854775808<=o/\o<=9223372036854775807)->aa8 bs o=x->
 Calls Tryz.prog 123 #[.pointer (some ⟨g,0,none⟩), .int .i64 o] w fun e w'=>aaE x w e w'
def au9:Prop:=∀(w:World) (g base cap c:Nat) (A:Option Addr) (bs:List UInt8) (o:Int) (x:Option Bk),Ar w 195 g base cap A c bs->base<=4611686018427387904->bs.length<=16384->(-9223372036854775808<=o/\o<=9223372036854775807)->abK bs o=x->
 Calls Tryz.prog 270 #[.pointer (some ⟨g,0,none⟩), .int .i64 o] w fun e w'=>aaE x w e w'
def awo:Prop:=∀(w:World) (g base cap c:Nat) (A:Option Addr) (bs:List UInt8) (o s:Int) (u:Bool) (y:Option (List UInt8)),Ar w 195 g base cap A c bs->base<=4611686018427387904->bs.length<=16384->(-9223372036854775808<=o/\o<=9223372036854775807)->(-9223372036854775808<=s/\s<=9223372036854775807)->aek bs o s u=y->
 Calls Tryz.prog 217 #[.pointer (some ⟨g,0,none⟩), .agg #[.int .i64 o, .int .i64 s, .bool u]] w fun e w'=>app 1 195 g base cap A y w e w'
def avM:Prop:=∀(w:World) (g base cap c:Nat) (A:Option Addr) (bs:List UInt8) (x:Option (List Bk)),Ar w 195 g base cap A c bs->base<=4611686018427387904->bs.length<=16384->abI bs=x->
 Calls Tryz.prog 60 #[.pointer (some ⟨g,0,none⟩)] w fun e w'=>acZ x w e w'
theorem aeL (bs:List UInt8) (x:Bk) (h1:184<=x.off) (h2:x.off%16=8) (h3:x.off+x.size<=bs.length) (h4:aaG (x.size:Int)=true):aek bs (x.off:Int) (x.size:Int) x.used=some (aaY bs x):=by
 have h5:=(aab _).1 h4;unfold aek aaY aot;rw[if_pos ⟨h4,(aa5 _ _ _).2 (by omega)⟩,aiO,aiO];have e:((x.off:Int)+(x.size:Int)-8).toNat=x.off+x.size-8:=by omega
 rw[e];simp
theorem BkRd.of_own{w:World}{base:Nat}{t:TypeId}{A:Option Addr}{c:Nat}{l:List Bk}(h:w.ownsRow base t 3 (.slice A l.length c) l.length (acW l)):BkRd w w.heap.size A l:=apn h rfl
def ae6 (x:Option (List Nat)) (k:Int) (w:World) (e:Ending) (w':World):Prop:=
 ∃A' c',e= .returned (.tuple #[.slice A' (x.getD []).length c',aav x.isSome k])/\w'.ownsRow w.heap.size 3 1 (.slice A' (x.getD []).length c') (x.getD []).length ((x.getD []).map iV)/\Below w.heap.size w w'
def awp:Prop:=∀(w:World) (g base cap c:Nat) (A:Option Addr) (bs:List UInt8) (o:Int) (y:Option (List UInt8)),Ar w 195 g base cap A c bs->base<=4611686018427387904->bs.length<=16384->(-9223372036854775808<=o/\o<=9223372036854775807)->ahH bs o=y->
 Calls Tryz.prog 174 #[.pointer (some ⟨g,0,none⟩), .int .i64 o] w fun e w'=>app 3 195 g base cap A y w e w'
def avN:Prop:=∀(w:World) (g base cap c:Nat) (A:Option Addr) (bs:List UInt8) (o:Int) (y:Option (List UInt8)),Ar w 195 g base cap A c bs->base<=4611686018427387904->bs.length<=16384->(-9223372036854775808<=o/\o<=9223372036854775807)->aeB bs o=y->
 Calls Tryz.prog 271 #[.pointer (some ⟨g,0,none⟩), .int .i64 o] w fun e w'=>app 3 195 g base cap A y w e w'
def awq:Prop:=∀(w:World) (g base cap c:Nat) (A:Option Addr) (bs:List UInt8) (k:Nat) (x:Option (List Nat)),Ar w 195 g base cap A c bs->base<=4611686018427387904->bs.length<=16384->k<22->afH bs k=x->
 Calls Tryz.prog 102 #[.pointer (some ⟨g,0,none⟩), .int .i64 (k:Int)] w fun e w'=>ae6 x 3 w e w'
def aj8 (bs:List UInt8) (s:Int):Value:=if aaG s=true then .tuple #[.int .i64 (((aoR bs s).getD 0:Nat):Int),aav (aoR bs s).isSome 3] else .tuple #[.int .i64 0,aav false 1]
def avO:Prop:=∀(w:World) (g base cap c:Nat) (A:Option Addr) (bs:List UInt8) (s:Int),Ar w 195 g base cap A c bs->base<=4611686018427387904->bs.length<=16384->(-9223372036854775808<=s/\s<=9223372036854775807)->
 Calls Tryz.prog 233 #[.pointer (some ⟨g,0,none⟩), .int .i64 s] w fun e w'=>e= .returned (aj8 bs s)/\Below w.heap.size w w'
def arO:Prop:=∀(w:World) (g base cap c:Nat) (A:Option Addr) (bs:List UInt8) (y:Option (List UInt8)),Ar w 195 g base cap A c bs->base<=4611686018427387904->bs.length<=16384->ab5 bs=y->
 Calls Tryz.prog 109 #[.pointer (some ⟨g,0,none⟩)] w fun e w'=>app 3 195 g base cap A y w e w'
def ava:Prop:=∀(w:World) (g base cap c:Nat) (A:Option Addr) (bs:List UInt8) (x:Bool),Ar w 195 g base cap A c bs->base<=4611686018427387904->bs.length<=16384->ace bs=x->
 Calls Tryz.prog 55 #[.pointer (some ⟨g,0,none⟩)] w fun e w'=>e= .returned (aav x 3)/\Below w.heap.size w w'
theorem aeo{l:List Nat}:∀{r:List Nat},l.Nodup->(∀a∈l,a∈r)->l.length<=r.length:=by
 induction l with
 | nil=>intro r _ _;exact Nat.zero_le _
 | cons x l ih=>
  intro r hn hs;obtain⟨h1,h2⟩:=List.nodup_cons.1 hn;have hx:=hs x (by simp);have h3:=ih (r:=r.erase x) h2 (fun a ha=>(List.mem_erase_of_ne (fun e:a=x=>h1 (by rw[<-e];exact ha))).2 (hs a (by simp[ha])));have h4:=List.length_erase_of_mem hx;have h5:0<r.length:=List.length_pos_of_mem hx;rw[List.length_cons];omega
theorem apq{l r:List Nat}(hn:l.Nodup) (hs:∀a∈l,a∈r) (hl:r.length<=l.length):∀b∈r,b∈l:=fun b hb=>by
 by_cases hin:b∈l
 · exact hin
 · have h1:=aeo (r:=r.erase b) hn (fun a ha=>(List.mem_erase_of_ne (fun e:a=b=>hin (by rw[<-e];exact ha))).2 (hs a ha));have h2:=List.length_erase_of_mem hb;have h3:0<r.length:=List.length_pos_of_mem hb;omega
theorem agG:∀{l:List Nat},(∀a∈l,l.count a=1)->l.Nodup
 | [],_=>List.nodup_nil
 | x::r,h=>by
  have h1:=h x (by simp);rw[List.count_cons_self]at h1;have hx:x∉r:=List.count_eq_zero.1 (by omega);refine List.nodup_cons.2 ⟨hx,agG fun a ha=> ?_⟩;have h2:=h a (by simp[ha]);have hne:x≠a:=fun e=>hx (e▸ha);rw[List.count_cons_of_ne hne]at h2;exact h2
section
variable {bs:List UInt8} {H:Hp}
theorem Rt.nfree (h:Rt bs H):(∀c,c<22->(H.lists c).Nodup/\∀o∈H.lists c,o∈abb H.blks c)/\aev H.blks=true/\af1 bs H.blks 22 0 (abl H.blks)=true:=by
 have hk:=h.chk;unfold ace at hk;rw[h.walk]at hk;simp only[Bool.and_eq_true]at hk;refine⟨fun c hc=> ?_,hk.2.1,hk.2.2⟩;obtain⟨al,h1,h2⟩:=aeV 22 0 _ hk.2.2 c (Nat.zero_le _) (by omega);rw[h.all_ c hc]at h1;injection h1 with h1;subst h1;have h2':=List.all_eq_true.1 h2;refine⟨agG fun a ha=> ?_,fun o ho=> ?_⟩
 · have:=h2' a ha;unfold okO at this;rw[Bool.and_eq_true]at this;simpa using this.2
 · have h3:=h2' o ho;unfold okO at h3;rw[Bool.and_eq_true]at h3;have h4:=h3.1;unfold acD at h4;obtain⟨x,hx,hx2⟩:=List.any_eq_true.1 h4;simp only[Bool.and_eq_true,beq_iff_eq]at hx2;have hm:=acM (h.all_ c hc) o ho;have hg:=(aaj h.walk).2.2 x hx;unfold aap at hm;rw[<-hx2.1,hg]at hm;simp only[Bool.and_eq_true,beq_iff_eq]at hm;rw[<-hx2.1];exact abe hx (by simpa using hx2.2) hm.2.2
theorem amC{bs:List UInt8}{l:List Bk}{L:Nat->List Nat}(hL:∀c,c<22->afH bs c=some (L c)) (hs:∀c,c<22->(L c).length<=(abb l c).length):
 ∀(k c:Nat) (fr:Int),c+k=22->af1 bs l k c fr=true->fr<=afu l k c/\(fr=afu l k c->∀d,c<=d->d<22->(abb l d).length<=(L d).length)
 | 0,c,fr,hck,h=>by
  unfold af1 at h;have:fr=0:=by simpa using h
  refine⟨by subst this;exact Int.natCast_nonneg _,fun _ d h1 h2=>by omega⟩
 | k+1,c,fr,hck,h=>by
  unfold af1 at h;rw[hL c (by omega)]at h;dsimp only at h;rw[Bool.and_eq_true]at h;obtain⟨i1,i2⟩:=amC hL hs k (c+1) _ (by omega) h.2;have h1:=hs c (by omega);have e:(afu l (k+1) c:Int)=((abb l c).length:Int)+(afu l k (c+1):Int):=by
   show(((abb l c).length+afu l k (c+1):Nat):Int)=_;omega
  refine⟨by omega,fun hfr d hd1 hd2=> ?_⟩;rcases Nat.lt_or_ge c d with hlt | hge
  · exact i2 (by omega) d hlt hd2
  · obtain rfl:d=c:=by omega
    omega
theorem Rt.complete (h:Rt bs H):∀c,c<22->∀o∈abb H.blks c,o∈H.lists c:=fun c hc=>by
 obtain⟨h1,_,h3⟩:=h.nfree;have ht:=(aaj h.walk).2.1;have hsz:∀x∈H.blks,aaG (x.size:Int)=true:=fun x hx=>((aak _ _ _ ht).2 x hx).2.2.1;have hl:=amC h.all_ (fun c hc=>aeo (h1 c hc).1 (h1 c hc).2) 22 0 _ rfl h3;exact apq (h1 c hc).1 (h1 c hc).2 (hl.2 (by rw[aiH _ hsz]) c (Nat.zero_le _) hc)
theorem ahY{l:List Bk}{s:Nat}:∀{L:List Nat},afV l s L=none->(∀o∈L,∃i,atB (o:Int) l=some i)->∀o∈L,∀i,atB (o:Int) l=some i->(aal l i).size<s
 | [],_,_,o,ho,_,_=>by cases ho
 | q::r,h,hL,o,ho,i,hi=>by
  obtain⟨j,hj⟩:=hL q (by simp);unfold afV at h;rw[hj]at h;dsimp only at h;split at h
  · cases h
  · rename_i hs;rcases List.mem_cons.1 ho with rfl | ho
    · rw[hj]at hi;injection hi with hi;subst hi;omega
    · exact ahY h (fun a ha=>hL a (by simp[ha])) o ho i hi
theorem ahZ{s:Nat}:∀{k c:Nat},H.findC s k c=none->∀d,c<=d->d<c+k->afV H.blks s (H.lists d)=none
 | 0,c,_,d,h1,h2=>by omega
 | k+1,c,h,d,h1,h2=>by
  unfold Hp.findC at h;split at h
  · cases h
  · rename_i hn;rcases Nat.lt_or_ge c d with hlt | hge
    · exact ahZ h d hlt (by omega)
    · obtain rfl:d=c:=by omega
      exact hn
theorem amD{l:List Bk}{o e:Nat}(h:aby o l e){x y:Bk}(hx:x∈l) (hy:y∈l) (he:x.off=y.off):x=y:=by
 have h1:=(aab _).1 ((aak _ _ _ h).2 x hx).2.2.1;have h2:=(aab _).1 ((aak _ _ _ h).2 y hy).2.2.1;rcases aaN l o e h x hx y hy with h' | h' | h'
 · exact h'
 · omega
 · omega
theorem amE{l:List Bk}{o e:Nat}(h:aby o l e){x:Bk}(hx:x∈l):∃i,atB (x.off:Int) l=some i/\i<l.length/\aal l i=x:=by
 obtain⟨i,hi⟩:=aeC hx;obtain⟨h1,h2⟩:=afJ hi;refine⟨i,hi,h1,amD h (List.mem_of_getElem? (aat h1)) hx (by omega)⟩
theorem Rt.found (h:Rt bs H){s i:Nat}(hs:aaG (s:Int)=true) (hf:H.find s=some i):i<H.blks.length/\s<=(aal H.blks i).size/\(aal H.blks i).used=false:=by
 have ht:=(aaj h.walk).2.1;have one:∀(LL:List Nat),(∀o∈LL,∃x∈H.blks,x.off=o/\x.used=false)->∀i,afV H.blks s LL=some i->i<H.blks.length/\s<=(aal H.blks i).size/\(aal H.blks i).used=false:=by
  intro LL;induction LL with
  | nil=>intro _ i h;cases h
  | cons o r ih=>
   intro hL i h;unfold afV at h;split at h
   · cases h
   · rename_i j hj;split at h
     · rename_i hs;injection h with h;subst h;obtain⟨x,hx,hxo,hxu⟩:=hL o (by simp);obtain⟨h1,h2⟩:=afJ hj;have e:=amD ht (List.mem_of_getElem? (aat h1)) hx (by omega);exact⟨h1,hs,by rw[e];exact hxu⟩
     · exact ih (fun a ha=>hL a (by simp[ha])) i h
 have go:∀(k c i:Nat),c+k<=22->H.findC s k c=some i->i<H.blks.length/\s<=(aal H.blks i).size/\(aal H.blks i).used=false:=by
  intro k;induction k with
  | zero=>intro c i _ h;cases h
  | succ k ih=>
   intro c i hck hh;unfold Hp.findC at hh;split at hh
   · rename_i j hj;injection hh with hh;subst hh;refine one _ (fun o ho=> ?_) _ hj;obtain⟨x,h1,h2,h3,_⟩:=abA ((h.nfree.1 c (by omega)).2 o ho);exact⟨x,h1,h2,h3⟩
   · exact ih _ _ (by omega) hh
 obtain⟨cl,hcl,hcl22⟩:∃c:Nat,aaq (s:Int)=(c:Int)/\c<22:=abz (x:=⟨0,s,false⟩) hs;unfold Hp.find at hf;rw[hcl,Int.toNat_natCast]at hf;exact go _ _ _ (by omega) hf
theorem Rt.lost (h:Rt bs H){s:Nat}(hs:aaG (s:Int)=true) (hf:H.find s=none):∀x∈H.blks,x.used=false->x.size<s:=fun x hx hu=>by
 have ht:=(aaj h.walk).2.1;have hxs:=((aak _ _ _ ht).2 x hx).2.2.1;obtain⟨cl,hcl,hcl22⟩:∃c:Nat,aaq (s:Int)=(c:Int)/\c<22:=abz (x:=⟨0,s,false⟩) hs;obtain⟨cx,hcx,hcx22⟩:=abz hxs;rcases Nat.lt_or_ge x.size s with h1 | h1
 · exact h1
 · have hm:=ala hs hxs (by omega);unfold Hp.find at hf;rw[hcl,Int.toNat_natCast]at hf;have hl:=ahZ hf cx (by omega) (by omega);obtain⟨i,hi,_,hb⟩:=amE ht hx;have:=ahY hl (h.listed cx hcx22) x.off (h.complete cx hcx22 _ (abe hx hu hcx)) i hi;rw[hb]at this;exact this
theorem atL{l:List Bk}{j:Nat}{x:Bk}(hx:l[j]?=some x):abd (l.take (j+1))=abd (l.take j)+x.size:=by
 rw[List.take_add_one,hx,aeX];simp[abd]
def anz (l:List Bk):Nat:=l.foldl (fun e x=>if x.used=true then x.off+x.size else e) 184
theorem aj9 (l:List Bk) (x:Bk):anz (l++ [x])=if x.used=true then x.off+x.size else anz l:=by
 unfold anz;rw[List.foldl_append];rfl
theorem apr{l:List Bk}{j:Nat}{x:Bk}(hx:l[j]?=some x):anz (l.take (j+1))=if x.used=true then x.off+x.size else anz (l.take j):=by
 rw[List.take_add_one,hx];exact aj9 _ _
theorem atM{l:List Bk}{k:Nat}(h:l.length=k+1):l=l.take k++ [aal l k]:=by
 have e:=aeY (aat (l:=l) (i:=k) (by omega));rw[List.drop_of_length_le (by omega)]at e;exact e
theorem aps{l:List Bk}(ht:aby 184 l (lenB l)) (hn:aev l=true):anz l+acq l=lenB l:=by
 obtain⟨k,hk⟩:∃k,l.length=0\/l.length=k+1:=⟨l.length-1,by omega⟩;rcases hk with hk | hk
 · obtain rfl:=List.eq_nil_of_length_eq_zero hk;rfl
 · have e:=atM hk;have ha:=aiK ht (aat (l:=l) (i:=k) (by omega));have hlast:(aal l k).off+(aal l k).size=lenB l:=by
    have h4:=ha.2.2.2;rw[List.drop_of_length_le (by omega)]at h4;exact h4
   have he:anz l=if (aal l k).used=true then (aal l k).off+(aal l k).size else anz (l.take k):=by
    conv=>lhs;rw[e]
    exact aj9 _ _
   unfold acq;rw[if_neg (by omega),show l.length-1=k by omega]
   cases hu:(aal l k).used with
   | true=>
    rw[hu,if_pos rfl]at he;rw[if_pos rfl,he];omega
   | false=>
    rw[hu,if_neg (by decide)]at he;rw[if_neg (by decide),he];have hoff:=ha.2.1
    cases k with
    | zero=>
     rw[List.take_zero];rw[List.take_zero]at hoff;have h0:anz []=184:=rfl;simp only[abd]at hoff;rw[h0];omega
    | succ k=>
     have hp:=List.all_eq_true.1 hn (k+1) (List.mem_range.2 (by omega));unfold adJ adI at hp;rw[aat (l:=l) (i:=k+1) (by omega),show k+1-1=k by omega,aat (l:=l) (i:=k) (by omega)]at hp;dsimp only at hp;rw[hu]at hp;have hpu:(aal l k).used=true:=by simpa using hp
     have e2:anz (l.take (k+1))=(aal l k).off+(aal l k).size:=by
      rw[apr (aat (l:=l) (i:=k) (by omega)),if_pos hpu]
     have hb:=aiK ht (aat (l:=l) (i:=k) (by omega));have hs:=atL (aat (l:=l) (i:=k) (by omega));rw[e2];omega
theorem Rt.room (h:Rt bs H){s:Nat}(hs:aaG (s:Int)=true):(H.take s).1.isSome=(H.blks.any (fun x=> !x.used&&decide (s<=x.size)) || decide (s+anz H.blks<=H.cap)):=by
 have ht:aby 184 H.blks (lenB H.blks):=by rw[h.lenE];exact(aaj h.walk).2.1
 have het:=aps ht h.nfree.2.1;unfold Hp.take
 cases hf:H.find s with
 | some i=>
  obtain⟨h1,h2,h3⟩:=h.found hs hf;dsimp only;have:H.blks.any (fun x=> !x.used&&decide (s<=x.size))=true:=List.any_eq_true.2 ⟨_,List.mem_of_getElem? (aat h1),by rw[h3,decide_eq_true h2];rfl⟩;rw[this];rfl
 | none=>
  have hno:H.blks.any (fun x=> !x.used&&decide (s<=x.size))=false:=by
   rw[Bool.eq_false_iff];intro hh;obtain⟨x,hx,hx2⟩:=List.any_eq_true.1 hh;simp only[Bool.and_eq_true,decide_eq_true_eq]at hx2;have:=h.lost hs hf x hx (by simpa using hx2.1);omega
  rw[hno,Bool.false_or];dsimp only;by_cases hr:H.cap<lenB H.blks+s-acq H.blks
  · rw[if_pos hr,decide_eq_false (by omega)];rfl
  · rw[if_neg hr,decide_eq_true (by omega)];split<;>rfl
end
def ah0 (bs bs':List UInt8) (x:Bk):Prop:=bs'.length=bs.length/\∀q,(q<x.off+8\/x.off+x.size<=q+8)->bs'[q]?=bs[q]?
theorem ah1{bs bs':List UInt8}{c:Nat}:∀(k last p:Nat) (l:List Nat),aeR bs c k last p=some l->(∀o∈l,aap bs' o (c:Int)=true/\aaf bs' (o+16)=aaf bs (o+16)/\aaf bs' (o+8)=aaf bs (o+8))->aeR bs' c k last p=some l
 | 0,last,p,l,h,_=>by
  unfold aeR at h ⊢;split at h
  · rename_i hp;rw[if_pos hp];exact h
  · cases h
 | k+1,last,p,l,h,hm=>by
  unfold aeR at h ⊢;by_cases hp:p=0
  · rw[if_pos hp]at h ⊢;exact h
  · rw[if_neg hp]at h ⊢;dsimp only at h ⊢;by_cases hc:aap bs p (c:Int)=true/\aaf bs (p+16)=last
    · rw[if_pos hc]at h
      cases hr:aeR bs c k p (aaf bs (p+8))with
      | none=>rw[hr]at h;cases h
      | some l'=>
       rw[hr]at h;injection h with h;subst h;obtain⟨m1,m2,m3⟩:=hm p (by simp);rw[if_pos ⟨m1,m2.trans hc.2⟩,m3,ah1 k p _ l' hr (fun o ho=>hm o (by simp[ho]))];rfl
    · rw[if_neg hc]at h;cases h
theorem ah2{bs bs':List UInt8}{l:List Bk}(h:∀c,c<22->afH bs' c=afH bs c):∀(k c:Nat) (fr:Int),c+k=22->af1 bs' l k c fr=af1 bs l k c fr
 | 0,c,fr,_=>rfl
 | k+1,c,fr,hck=>by
  unfold af1;rw[h c (by omega)];split
  · rfl
  · rw[ah2 h k (c+1) _ (by omega)]
section
variable {bs bs':List UInt8} {H:Hp} {x:Bk}
theorem Rt.fill (h:Rt bs H) (hx:x∈H.blks) (hu:x.used=true) (ha:ah0 bs bs' x):Rt bs' H:=by
 obtain⟨h184,ht,hg⟩:=aaj h.walk;obtain⟨hl,hq⟩:=ha;have hxm:=(aak _ _ _ ht).2 x hx;have hxs:=(aab _).1 hxm.2.2.1;have hw:∀p,(p+8<=x.off+8\/x.off+x.size<=p+8)->aaf bs' p=aaf bs p:=fun p hp=>aaM bs bs' p fun i h1 h2=>hq i (by omega);have hget:∀y∈H.blks,aa8 bs' (y.off:Int)=some y:=fun y hy=>by
  have hym:=(aab _).1 ((aak _ _ _ ht).2 y hy).2.2.1;refine abV bs bs' y hl (hg y hy) ?_ ?_
  · rcases aaN _ _ _ ht y hy x hx with rfl | h' | h'
    · exact hw _ (.inl (by omega))
    · exact hw _ (.inl (by omega))
    · exact hw _ (.inr (by omega))
  · rcases aaN _ _ _ ht y hy x hx with rfl | h' | h'
    · exact hw _ (.inr (by omega))
    · exact hw _ (.inl (by omega))
    · exact hw _ (.inr (by omega))
 have hwalk:abI bs'=some H.blks:=ac8 (by rw[hl];exact ht) hget;have hall:∀c,c<22->afH bs' c=some (H.lists c):=fun c hc=>by
  have h1:=h.all_ c hc;unfold afH at h1 ⊢;rw[hl,hw 0 (.inl (by omega)),hw (8+8*c) (.inl (by omega))];split at h1
  · cases h1
  · rename_i hn;rw[if_neg hn];split at h1
    · cases h1
    · rename_i hb;rw[if_neg hb];refine ah1 _ _ _ _ h1 fun o ho=> ?_;obtain⟨y,hy,hyo,hyu,hyc⟩:=abA ((h.nfree.1 c hc).2 o ho);have hym:=(aab _).1 ((aak _ _ _ ht).2 y hy).2.2.1;have hye:=((aak _ _ _ ht).2 y hy).2.1;have hmm:=aeE (acM (h.all_ c hc) o ho);subst hyo;have hap:y.off+y.size<=x.off\/x.off+x.size<=y.off:=by
       rcases aaN _ _ _ ht y hy x hx with h' | h' | h'
       · rw[h',hu]at hyu;cases hyu
       · exact .inl h'
       · exact .inr h'
      refine⟨?_,?_,?_⟩
      · unfold aap;rw[hget y hy];simp only[Bool.and_eq_true,decide_eq_true_eq,beq_iff_eq,Bool.not_eq_true'];exact⟨hmm.1,hyu,hyc⟩
      · rcases hap with h' | h'
        · exact hw _ (.inl (by omega))
        · exact hw _ (.inr (by omega))
      · rcases hap with h' | h'
        · exact hw _ (.inl (by omega))
        · exact hw _ (.inr (by omega))
 refine⟨hwalk,hall,?_,by rw[hl];exact h.len⟩;have hk:=h.chk;unfold ace at hk ⊢;rw[h.walk]at hk;rw[hwalk];dsimp only at hk ⊢;have hn0:aos bs' 0=aos bs 0:=by
  unfold aos word?;rw[hl];split
  · show(some (aaf bs' 0)).getD 0=(some (aaf bs 0)).getD 0;rw[hw 0 (.inl (by omega))]
  · rfl
 rw[hn0,ah2 (fun c hc=>(hall c hc).trans (h.all_ c hc).symm) 22 0 _ rfl];exact hk
theorem ad9 (d:Nat) (cs:List UInt8) (h1:x.off+8<=d) (h2:d+cs.length+8<=x.off+x.size) (h3:x.off+x.size<=bs.length):ah0 bs (lay bs d cs) x:=by
 have hle:d<=bs.length:=by omega
 refine⟨?_,fun q hq=> ?_⟩
 · unfold lay;simp only[List.length_append,List.length_take,List.length_drop];omega
 · unfold lay;rcases Nat.lt_or_ge q d with h | h
   · rw[List.getElem?_append_left (by rw[List.length_take];omega),List.getElem?_take_of_lt h]
   · have hq2:d+cs.length<=q:=by omega
     rw[List.getElem?_append_right (by rw[List.length_take];omega),List.length_take,List.getElem?_append_right (by omega),List.getElem?_drop];congr 1;omega
theorem agH (bs:List UInt8) (d:Nat) (cs:List UInt8) (hd:d<=bs.length) (k:Nat) (hk:k<cs.length):(lay bs d cs)[d+k]?=cs[k]?:=by
 unfold lay;rw[List.getElem?_append_right (by rw[List.length_take];omega),List.length_take,List.getElem?_append_left (by omega),show d+k-min d bs.length=k by omega]
end
def ac0 (k:Int) (g base cap:Nat) (A:Option Addr) (bs:List UInt8) (H:Hp) (y:Option Hp) (w:World) (e:Ending) (w':World):Prop:=
 match y with
 | none=>e= .returned (aav false k)/\Below w.heap.size w w'
 | some H'=>e= .returned (aav true k)/\∃out,Became 195 g base cap A out w w'/\Rt out H'/\Held H bs H' out
def ab7 (g base cap:Nat) (A:Option Addr) (bs:List UInt8) (H:Hp) (y:Option Nat × Hp) (w:World) (e:Ending) (w':World):Prop:=
 match y.1 with
 | none=>e= .returned (.tuple #[.int .i64 0,aav false 5])/\Below w.heap.size w w'
 | some o=>e= .returned (.tuple #[.int .i64 (o:Int),aav true 5])/\∃out,Became 195 g base cap A out w w'/\Rt out y.2/\Held H bs y.2 out
def avP:Prop:=∀(w:World) (g base cap c:Nat) (A:Option Addr) (bs:List UInt8) (H:Hp) (s:Int),Ar w 195 g base cap A c bs->base<=4611686018427387904->cap<=16384->H.cap=cap->Rt bs H->(-9223372036854775808<=s/\s<=9223372036854775807)->
 (aaG s=false->Calls Tryz.prog 188 #[.pointer (some ⟨g,0,none⟩), .int .i64 s] w fun e w'=>e= .returned (.tuple #[.int .i64 0,aav false 1])/\Below w.heap.size w w')/\
 (aaG s=true->Calls Tryz.prog 188 #[.pointer (some ⟨g,0,none⟩), .int .i64 s] w fun e w'=>ab7 g base cap A bs H (H.take s.toNat) w e w')
def avQ:Prop:=∀(w:World) (g base cap c:Nat) (A:Option Addr) (bs:List UInt8) (H:Hp) (o:Int),Ar w 195 g base cap A c bs->base<=4611686018427387904->cap<=16384->H.cap=cap->Rt bs H->(-9223372036854775808<=o/\o<=9223372036854775807)->
 Calls Tryz.prog 127 #[.pointer (some ⟨g,0,none⟩), .int .i64 o] w fun e w'=>ac0 3 g base cap A bs H (H.giveO o) w e w'
def avR:Prop:=∀(w:World) (g base cap c:Nat) (A:Option Addr) (bs:List UInt8) (H:Hp) (o s:Int),Ar w 195 g base cap A c bs->base<=4611686018427387904->cap<=16384->H.cap=cap->Rt bs H->(-9223372036854775808<=o/\o<=9223372036854775807)->(-9223372036854775808<=s/\s<=9223372036854775807)->
 (aaG s=false->Calls Tryz.prog 191 #[.pointer (some ⟨g,0,none⟩), .int .i64 o, .int .i64 s] w fun e w'=>e= .returned (aav false 1)/\Below w.heap.size w w')/\
 (aaG s=true->Calls Tryz.prog 191 #[.pointer (some ⟨g,0,none⟩), .int .i64 o, .int .i64 s] w fun e w'=>ac0 3 g base cap A bs H (H.trimO o s.toNat) w e w')
def avS:Prop:=∀(w:World) (g base cap c:Nat) (A:Option Addr) (bs:List UInt8) (H:Hp) (o:Int),Ar w 195 g base cap A c bs->base<=4611686018427387904->cap<=16384->H.cap=cap->Rt bs H->(-9223372036854775808<=o/\o<=9223372036854775807)->
 Calls Tryz.prog 189 #[.pointer (some ⟨g,0,none⟩), .int .i64 o] w fun e w'=>aaE ((aa3 H.blks o).map (aal H.blks)) w e w'
end Go.Proofs.YtncadccbepjekaaGreatDoor
