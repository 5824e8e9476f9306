/- Texts of mine, joined. -/
import Derived.Test.YtncadccbepjekaaGreatDoorU9
import Derived.Test.YtncadccbepjekaaGreatDoorU12
set_option maxRecDepth 100000
set_option maxHeartbeats 1000000
namespace Go.Proofs.YtncadccbepjekaaGreatDoor
theorem abi{α:Type}{l:List α}{i:Nat}{x:α}(h:l[i]?=some x):i<l.length:=by
 rcases Nat.lt_or_ge i l.length with h' | h'
 · exact h'
 · rw[List.getElem?_eq_none h']at h;cases h
theorem amH{α:Type}(l:List α) (i:Nat) (y:α) (hi:i<l.length):(l.set i y).take (i+1)=l.take i++ [y]:=by
 rw[List.take_set,List.take_add_one,List.getElem?_eq_getElem hi];rw[Option.toList_some,List.set_append_right _ _ (by rw[List.length_take];omega),List.length_take];congr 1;have e:i-min i l.length=0:=by omega
 rw[e];rfl
theorem amI{α:Type}(l:List α) (i k:Nat) (y:α) (hk:i<k):(l.set i y).drop k=l.drop k:=List.drop_set_of_lt hk
theorem acA (l:List Bk) (i j:Nat) (y:Bk) (hi:i<l.length):aam (l.set i y) j=if j=i then y else aam l j:=by
 unfold aam;rw[List.getD_eq_getElem?_getD,List.getD_eq_getElem?_getD];by_cases h:j=i
 · subst h;rw[List.getElem?_set_self hi,if_pos rfl];rfl
 · rw[List.getElem?_set_ne (fun e=>h e.symm),if_neg h]
theorem auU{a b:Nat}(ha:aaB (a:Int)=true) (hb:aaB (b:Int)=true) (h:a+b<=16384):aaB ((a+b:Nat):Int)=true:=by
 have h1:=(aab _).1 ha;have h2:=(aab _).1 hb;exact(aab _).2 (by omega)
section
variable {H:Hp} {i s:Nat}
theorem Hp.Ok.at_ (h:H.Ok) (hi:i<H.blks.length):abA 184 (H.blks.take i) (aam H.blks i).off/\aaB ((aam H.blks i).size:Int)=true/\abA ((aam H.blks i).off+(aam H.blks i).size) (H.blks.drop (i+1)) (lenB H.blks):=by
 obtain⟨a,_,b,c⟩:=aiN h.tl (aas hi);exact⟨a,b,c⟩
theorem Hp.Ok.sz (h:H.Ok) (hi:i<H.blks.length):aaB ((aam H.blks i).size:Int)=true:=(h.at_ hi).2.1
theorem Hp.Ok.len (h:H.Ok):H.blks.length*32<=lenB H.blks:=by
 have go:∀(l:List Bk) (o e:Nat),abA o l e->l.length*32<=abc l:=by
  intro l;induction l with
  | nil=>intro o e _;simp[abc]
  | cons x r ih=>
   intro o e ht;obtain⟨_,h2,h3⟩:=ht;have h4:=ih _ _ h3;have h5:=(aab _).1 h2;simp only[List.length_cons,abc];omega
 have:=go H.blks 184 _ h.tl;unfold lenB;omega
theorem Hp.Ok.n (h:H.Ok):H.blks.length<=512:=by
 have h1:=h.len;have h2:=h.le;omega
theorem Hp.Ok.two (h:H.Ok) (hi:i+1<H.blks.length):(aam H.blks (i+1)).off=(aam H.blks i).off+(aam H.blks i).size/\(aam H.blks i).size+(aam H.blks (i+1)).size<=16384:=by
 obtain⟨_,hs,ht⟩:=h.at_ (i:=i) (by omega);rw[List.drop_eq_getElem_cons hi]at ht;have e:H.blks[i+1]=aam H.blks (i+1):=by
  have:=aas hi;rw[List.getElem?_eq_getElem hi]at this;exact Option.some.inj this
 rw[e]at ht;obtain⟨h1,_,h3⟩:=ht;have h4:=(aak _ _ _ h3).1;have h5:=h.le;exact⟨h1,by omega⟩
theorem Hp.Ok.same (h:H.Ok) (hi:i<H.blks.length) (y:Bk) (ho:y.off=(aam H.blks i).off) (hs:y.size=(aam H.blks i).size):abA 184 (H.blks.set i y) (lenB H.blks)/\lenB (H.blks.set i y)=lenB H.blks:=by
 obtain⟨a,b,c⟩:=h.at_ hi;have ht:abA 184 (H.blks.set i y) (lenB H.blks):=by
  rw[ao1 y (aas hi)];refine aiO (by rw[ho];exact a) (by rw[hs];exact b) ?_;rw[ho,hs];exact c
 exact⟨ht,ack ht⟩
theorem Hp.Ok.use (h:H.Ok) (hi:i<H.blks.length) (u:Bool):(H.use i u).Ok:=by
 obtain⟨h1,h2⟩:=h.same hi {aam H.blks i with used:=u} rfl rfl;refine⟨?_,?_,?_⟩
 · show abA 184 (H.blks.set i _) (lenB (H.blks.set i _));rw[h2];exact h1
 · show lenB (H.blks.set i _)<=_;rw[h2];exact h.le
 · show H.ds.length=(H.blks.set i _).length;rw[List.length_set];exact h.dl
theorem Hp.Ok.wipe (h:H.Ok):(H.wipe i).Ok:=⟨h.tl,h.le,by show(H.ds.set i _).length=_;rw[List.length_set];exact h.dl⟩
theorem Hp.Ok.out (h:H.Ok):(H.out i).Ok:=⟨h.tl,h.le,h.dl⟩
theorem Hp.Ok.in_ (h:H.Ok):(H.in_ i).Ok:=⟨h.tl,h.le,h.dl⟩
theorem acN (H:Hp) (hi:i+1<H.blks.length):(H.join i).blks=H.blks.take i++{aam H.blks i with size:=(aam H.blks i).size+(aam H.blks (i+1)).size}::H.blks.drop (i+2):=by
 show(H.blks.set i _).take (i+1)++(H.blks.set i _).drop (i+1+1)=_;rw[amH _ _ _ (by omega),amI _ _ _ _ (by omega),List.append_assoc];rfl
theorem Hp.Ok.join (h:H.Ok) (hi:i+1<H.blks.length):(H.join i).Ok:=by
 obtain⟨a,b,c⟩:=h.at_ (i:=i) (by omega);obtain⟨_,b2,c2⟩:=h.at_ (i:=i+1) hi;obtain⟨e,hle⟩:=h.two hi;have ht:abA 184 (H.join i).blks (lenB H.blks):=by
  rw[acN H hi];refine aiO (x:={aam H.blks i with size:=(aam H.blks i).size+(aam H.blks (i+1)).size}) a (auU b b2 hle) ?_;show abA ((aam H.blks i).off+((aam H.blks i).size+(aam H.blks (i+1)).size)) _ _;rw[<-Nat.add_assoc,<-e];exact c2
 have hl:=ack ht;refine⟨by rw[hl];exact ht,by rw[hl];exact h.le,?_⟩;show(H.ds.take (i+1)++H.ds.drop (i+1+1)).length=(H.join i).blks.length;rw[acN H hi];have:=h.dl;simp only[List.length_append,List.length_take,List.length_drop,List.length_cons];omega
theorem aiW (H:Hp) (hi:i+1<H.blks.length):i<(H.join i).blks.length/\aam (H.join i).blks i={aam H.blks i with size:=(aam H.blks i).size+(aam H.blks (i+1)).size}/\(H.join i).blks.length+1=H.blks.length:=by
 rw[acN H hi];refine⟨?_,aa9 ?_,?_⟩
 · simp only[List.length_append,List.length_take,List.length_cons];omega
 · rw[List.getElem?_append_right (by rw[List.length_take];omega),List.length_take,show i-min i H.blks.length=0 by omega];rfl
 · simp only[List.length_append,List.length_take,List.length_cons,List.length_drop];omega
theorem ae8 (H:Hp) (hi:i<H.blks.length) (y:Bk):(((H.use i true).size i s).put (i+1) y).blks=H.blks.take i++{aam H.blks i with used:=true,size:=s}::y::H.blks.drop (i+1):=by
 have e:aam (H.blks.set i {aam H.blks i with used:=true}) i={aam H.blks i with used:=true}:=by rw[acA _ _ _ _ hi,if_pos rfl]
 show((H.blks.set i {aam H.blks i with used:=true}).set i {aam (H.blks.set i {aam H.blks i with used:=true}) i with size:=s}).take (i+1)++y::((H.blks.set i {aam H.blks i with used:=true}).set i {aam (H.blks.set i {aam H.blks i with used:=true}) i with size:=s}).drop (i+1)=_;rw[e,List.set_set,amH _ _ _ hi,amI _ _ _ _ (by omega),List.append_assoc];rfl
theorem Hp.Ok.cut (h:H.Ok) (hi:i<H.blks.length) (hs:aaB (s:Int)=true) (hle:s+32<=(aam H.blks i).size):(((H.use i true).size i s).put (i+1) ⟨(aam H.blks i).off+s,(aam H.blks i).size-s,true⟩).Ok:=by
 obtain⟨a,b,c⟩:=h.at_ hi;have h1:=(aab _).1 hs;have h2:=(aab _).1 b;have ht:abA 184 (((H.use i true).size i s).put (i+1) ⟨(aam H.blks i).off+s,(aam H.blks i).size-s,true⟩).blks (lenB H.blks):=by
  rw[ae8 H hi];refine aiO (x:={aam H.blks i with used:=true,size:=s}) a hs ⟨rfl,(aab _).2 (by dsimp only;omega),?_⟩;dsimp only;rw[show(aam H.blks i).off+s+((aam H.blks i).size-s)=(aam H.blks i).off+(aam H.blks i).size by omega];exact c
 have hl:=ack ht;refine⟨by rw[hl];exact ht,by rw[hl];exact h.le,?_⟩;rw[ae8 H hi];show(H.ds.take (i+1)++acI::H.ds.drop (i+1)).length=_;have:=h.dl;simp only[List.length_append,List.length_take,List.length_drop,List.length_cons];omega
theorem alq (H:Hp) (hi:i<H.blks.length) (y:Bk):(((H.use i true).size i s).put (i+1) y).blks.length=H.blks.length+1:=by
 rw[ae8 H hi];simp only[List.length_append,List.length_take,List.length_drop,List.length_cons];omega
end
open Go.RowKit
theorem apx:(Tryz.prog.info? 167).map (fun i=>(i.zero,i.size,i.bytes))=some (some (.agg #[.int .i64 0, .slice none 0 0]),2,32):=by kernel_rfl
theorem apy (w:World) (s:Int) (A:Option Addr) (n c:Nat):(Instr.buildSlice 126 1 #[(0, .agg #[.int .i64 s, .slice A n c])]).run Tryz.prog w= .ok (.slice (some ⟨w.heap.size,0,none⟩) 1 1) (w.alloc (.cells #[.int .i64 s, .slice A n c] 167)):=by
 obtain⟨i0,hi,hz0,hz1,hz2⟩:=info_parts apx;refine run_buildSlice w 126 167 1 _ _ i0 _ Tryz.underlying126 hi hz0 (by omega) (by omega) ?_;rw[hz1];have e:Array.range (1*2)= #[0,1]:=by decide
 rw[e];simp[Instr.fill,Value.cells]
section
variable {S:Nat->Prop} {w w3 w4:World} {g h c:Nat} {W:Option Addr} {cw:Nat} {bs:List UInt8} {ws:List Wr} {left:Int} {off:Bool}
theorem Dk.pushed (k:Dk S w g h c W cw bs ws left off) (hb:Below w.heap.size w w3) (x:Wr) (hx1:x.s*512+512<=bs.length) (hx2:w.heap.size<=x.b) (hx3:x.d.length=512) (hx4:Fil w3 x.b x.d) (v:Value)
 (hown:w4.ownsRow 0 167 2 v (ws.length+1) (akY (ws++ [x]))) (hgr:w3.grownBy w4 (Value.slice W ws.length cw).ownBlock) (hat:v.ownBlock=(Value.slice W ws.length cw).ownBlock\/v.ownBlock=some w3.heap.size):
 w4.cell? ⟨g,1,none⟩=some (.slice W ws.length cw)/\w4.frozen? ⟨g,1,none⟩=false/\∃W' cw',v= .slice W' (ws.length+1) cw'/\Dk (adz S w (w4.setCell ⟨g,1,none⟩ v)) (w4.setCell ⟨g,1,none⟩ v) g h c W' cw' bs (ws++ [x]) left off/\Tch S w (w4.setCell ⟨g,1,none⟩ v):=by
 have k3:=k.below hb;have hne:∀j,j<w3.heap.size->(∀a,W=some a->j≠a.block)->w4.heap[j]?=w3.heap[j]?:=fun j hj hn=>hgr.block j hj (fun e=>by
  rcases W with _ | a
  · simp[Value.ownBlock]at e
  · simp[Value.ownBlock]at e;exact hn a rfl e)
 have hg4:w4.heap[g]?=w3.heap[g]?:=hne g k3.lt (fun a e=>(k3.wg e).1.symm);have hs4:(w4.setCell ⟨g,1,none⟩ v).heap.size=w4.heap.size:=by simp[World.setCell]
 have hoth:∀j,j≠g->(w4.setCell ⟨g,1,none⟩ v).heap[j]?=w4.heap[j]?:=fun j hj=>Below.heap_setCell _ _ _ _ hj;obtain⟨gw,cw',cur,hv,_,hrow,_⟩:∃g' cap cur,v= .slice (some ⟨g',0,none⟩) (ws.length+1) cap/\0<=g'/\w4.heap[g']?=some (.cells cur 167 (0,0))/\ws.length+1<=cap:=by
  rcases hown.2 with⟨_,h0⟩ | ⟨g',cap,cur,h1,h2,h3,h4,_⟩
  · omega
  · exact⟨g',cap,cur,h1,h2,h3,h4⟩
 have hgwlt:=aae hrow;have hgwg:gw≠g:=afy hrow (hg4.trans k3.obj) (by decide);subst hv;refine⟨(World.cell?_of_block (a:=⟨g,1,none⟩) hg4).trans k3.c1,(World.frozen?_of_block (a:=⟨g,1,none⟩) hg4).trans (k3.thaw 1),some ⟨gw,0,none⟩,cw',rfl,⟨?_,?_,?_,?_, .inl k.sg, .inl k.sh,?_,?_⟩,?_⟩
 · rw[heap_setCell_same w4 g 1 _ _ _ (hg4.trans k3.obj),List.length_append];rfl
 · refine acq k3.own fun j hj=> ?_;injection hj with hj;subst hj;rw[hoth _ k3.gh.symm];exact hne _ k3.hlt (fun a e=>(k3.wg e).2.1.symm)
 · rw[List.length_append];refine acq hown fun j hj=> ?_;injection hj with hj;subst hj;exact hoth _ hgwg
 · intro y hy;rcases List.mem_append.1 hy with hy | hy
   · obtain⟨h1,h2,h3,h4⟩:=k3.row y hy;refine⟨h1,h2,h3,h4.keep ?_⟩;rw[hoth _ (k3.xg hy)];exact hne _ (k3.xlt hy) (fun a e=>(k3.wg e).2.2 y hy)
   · obtain rfl:y=x:=by simpa using hy
     have hlt:=hx4.lt;have hyg:y.b≠g:=fun e=>by have:=k.lt;omega
     refine⟨hx1,fun e=>by have:=k.hlt;omega,hx3,hx4.keep ?_⟩;rw[hoth _ hyg];refine hne _ hlt (fun a e=> ?_);have:=k.wlt e;omega
 · intro a e;injection e with e;subst e;show adz S w _ gw;rcases hat with h1 | h1
   · left;rcases W with _ | a
     · simp[Value.ownBlock]at h1
     · simp[Value.ownBlock]at h1;rw[h1];exact k.sw a rfl
   · right;simp[Value.ownBlock]at h1;rw[hs4,h1];exact⟨hb.size,by omega⟩
 · intro y hy;rcases List.mem_append.1 hy with hy | hy
   · exact .inl (k.sx y hy)
   · obtain rfl:y=x:=by simpa using hy
     right;rw[hs4];have:=hx4.lt;have:=hgr.size;exact⟨hx2,by omega⟩
 · refine((Tch.of_below (S:=S) hb).trans (Tch.grown (S:=S) hgr fun j hj=> ?_) (fun _ _ h=>h)).trans (Tch.set (S:=S) w4 ⟨g,1,none⟩ _ k.sg) (fun _ _ h=>h);rcases W with _ | a
   · simp[Value.ownBlock]at hj
   · simp[Value.ownBlock]at hj;rw[<-hj];exact k.sw a rfl
theorem anK (k:Dk S w g h c W cw bs ws left false) (hl:bs.length<=100000) (hws:ws.length<=1000000) (hleft:left<0) (i:Nat) (hi:i*512+512<=bs.length) (A:Option Addr) (cA:Nat) (d:List UInt8) (hd:d.length=512) (hr:Rd w w.heap.size A 512 d):
 Calls Tryz.prog 255 #[.pointer (some ⟨g,0,none⟩), .int .i64 (i:Int), .slice A 512 cA] w fun e w'=>e= .returned .nilIface/\(∃W' cw' b cb,Dk (adz S w w') w' g h c W' cw' bs (ws++ [⟨i,b,cb,d⟩]) left false)/\Tch S w w':=by
 have hA:A=none->cA=0:=fun e=>by
  obtain⟨_,_,e1,_⟩:=hr.2 (by omega);rw[e]at e1;cases e1
 have HH:=hE0 (ae7 k hl i hi);have c2:=k.c2;have c3:=k.c3;have hle0:(left==0)=false:=by rw[beq_eq_false_iff_ne];omega
 obtain⟨w0,hw0⟩:=nmE w.drew;have k0:Dk S w0 g h c W cw bs ws left false:=by rw[<-hw0];exact k.drew
 have hsz0:w0.heap.size=w.heap.size:=by rw[<-hw0];rfl
 have r0:Rd w0 w0.heap.size A d.length d:=by rw[hd,hsz0,<-hw0];exact hr.drew
 have hb0:=adE hw0;have HC:=abV A cA w0.heap.size d w0 r0 (Nat.le_refl _) hA (by omega);rw[hd]at HC;have HC:=hE0 HC;have K0:=hE0 k0;have HW0:=hE0 hw0;have HB0:=hE0 hb0;have HD:=hE0 hd;have HSZ:=hE0 hsz0;clear hw0 k0 r0 hb0 hd k hr hA hsz0;go_enter Tryz.func255,Tryz.ntmps255
 go_wp2_with fail
 refine HH.out.mono ?_;rintro e w1 ⟨rfl,rfl⟩;go_wp2_with fail
 refine aar w0.heap.size [([0,1,2,3,4,5,6],7),([8],9)] [] [10,11,12,13] (by kernel_rfl) (by kernel_rfl) (by kernel_rfl) (fun _ _ _ _ _ h=>h) ?_;rw[HW0.out];clear c2 c3 hle0;have q0:∀x:LaterB w0.heap.size w0,x.val.cell? ⟨g,1,none⟩=some (.slice W ws.length cw):=fun x=>(x.ext.cell (p:=⟨g,1,none⟩) K0.out.lt).trans K0.out.c1;refine tail_cons (l:= ?seg1) ?hseg1 ?_
 case hseg1=>simp only[pick,lE1,lE2,lE3];rfl
 repeat (go_big_quiet_step (fail))
 refine wpQuiet_nil ?_;clear q0;refine aau (vs:= #[.slice A 512 cA]) Tryz.call92 rfl rfl rfl (R:=fun r w'=>∃b cb,r= .slice (some ⟨b,0,none⟩) 512 cb/\w0.heap.size<=b/\Fil w' b d) (HC.out.mono ?_) w0.heap.size (Nat.le_refl _) ?_
 · rintro e w' ⟨A',c',rfl,ho,hb⟩;rw[HD.out]at ho;obtain⟨b,cb,e1,_,_⟩:=amn ho (by omega);injection e1 with e1 _ e3;subst e1 e3;exact⟨_,by rw[HD.out],hb,b,c',rfl,(ho.lt b rfl).1,Fil.of_own ho⟩
 rintro r w1 hb1 ⟨b,cb,rfl,hbb,hfil⟩;refine tail_cons (l:= ?seg2) ?hseg2 ?_
 case hseg2=>simp only[pick,lE1,lE2,lE3];rfl
 simp only[Act.put,lE4,lE5,lE6];repeat (go_big_quiet_step (fail))
 refine wpQuiet_nil ?_;obtain⟨w3,hw3⟩:=nmE (w1.alloc (.cells #[.int .i64 (i:Int), .slice (some ⟨b,0,none⟩) 512 cb] 167));have hro:=apy w1 (i:Int) (some ⟨b,0,none⟩) 512 cb;rw[hw3]at hro;have hb13:=abE hw3;have hn3:=anE hw3;have hb3:Below w0.heap.size w0 w3:=hb1.trans (hb13.mono hb1.size);refine aml (w1:=w3) (v:= .slice (some ⟨w1.heap.size,0,none⟩) 1 1) rfl rfl ?rv1 (hb13.mono hb1.size) ?_
 case rv1=>exact acD rfl rfl hro
 refine⟨w0.heap.size,Nat.le_refl _,?_⟩;refine aaO (l:= ?la3) (t:= ?tl3) ?hla3 ?htl3 ?_
 case hla3=>rfl
 case htl3=>simp only[pick,lE1,lE2,lE3];rfl
 refine wpQuiet_nil ?_;simp only[Act.put,List.setIfInBounds_toArray];obtain⟨i0,hi0,hz0,hz1,hz2⟩:=info_parts apx;have hwcap:=K0.out.wcap;have hnew:∀j u,[Value.int .i64 (i:Int), .slice (some ⟨b,0,none⟩) 512 cb][j]?=some u->w3.cell? ((⟨w1.heap.size,0,none⟩:Addr).add j)=some u:=by
  intro j u hu;have e:(⟨w1.heap.size,0,none⟩:Addr).add j=⟨w1.heap.size,j,none⟩:=by unfold Addr.add;split<;>simp_all
  rw[e,cell_of_row w3 _ j _ _ (0,0) hn3];simpa using hu
 have hone:∀u∈ [Value.int .i64 (i:Int), .slice (some ⟨b,0,none⟩) 512 cb],u.oneCell'=true:=by
  intro u hu;simp at hu;rcases hu with rfl | rfl<;>rfl
 have k3:=K0.out.below hb3;refine wpList_append_own_at w3 rfl (.tmp 46) (.tmp 51) 126 rfl 0 167 i0 _ 2 32 Tryz.underlying126 hi0 hz0 hz1 hz2 rfl (by decide) (.slice W ws.length cw) ws.length (akY ws) rfl k3.wai ⟨w1.heap.size,0,none⟩ 1 1 _ rfl rfl hnew hone (by unfold maxLen;omega) (by omega) (Nat.zero_le _) ?_;intro v4 w4 own4 gr4 _ at4;have own4':w4.ownsRow 0 167 2 v4 (ws.length+1) (akY (ws++ [⟨i,b,cb,d⟩])):=by rw[agM];exact own4
 obtain⟨p1,p2,W',cw',rfl,p3,p4⟩:=K0.out.pushed hb3 ⟨i,b,cb,d⟩ hi hbb HD.out (hfil.keep (hb13.block b hfil.lt)) v4 own4' gr4 at4;have P3:=hE0 p3;have P4:=hE0 p4;clear p3 p4 own4 own4' gr4 at4 k3 hone hnew hi0 hz0 hz1 hz2 hn3 hro hw3;go_wp2
 go_ret
 refine⟨rfl,⟨W',cw',b,cb,P3.out.more fun j hj=> ?_⟩,(Tch.of_below (S:=S) HB0.out).trans P4.out (fun _ _ h=>h)⟩;rcases(P3.out.foot hj).1 with h1 | h1
 · exact .inl h1
 · exact .inr ⟨HSZ.out▸h1.1,h1.2⟩
end
section
variable {S:Nat->Prop} {w:World} {g h c:Nat} {W:Option Addr} {cw:Nat} {bs:List UInt8} {ws:List Wr} {left:Int} {off:Bool}
theorem anL (k:Dk S w g h c W cw bs ws left false) (hl:bs.length<=100000) (hws:ws.length<=1000000) (hleft:0<left) (hleft2:left<=9223372036854775807) (i:Nat) (hi:i*512+512<=bs.length) (A:Option Addr) (cA:Nat) (d:List UInt8) (hd:d.length=512) (hr:Rd w w.heap.size A 512 d) (hAg:∀a,A=some a->a.block≠g):
 Calls Tryz.prog 255 #[.pointer (some ⟨g,0,none⟩), .int .i64 (i:Int), .slice A 512 cA] w fun e w'=>e= .returned .nilIface/\(∃W' cw' b cb,Dk (adz S w w') w' g h c W' cw' bs (ws++ [⟨i,b,cb,d⟩]) (left-1) false)/\Tch S w w':=by
 have hA:A=none->cA=0:=fun e=>by
  obtain⟨_,_,e1,_⟩:=hr.2 (by omega);rw[e]at e1;cases e1
 have HH:=hE0 (ae7 k hl i hi);have c2:=k.c2;have c3:=k.c3;have hle0:(left==0)=false:=by rw[beq_eq_false_iff_ne];omega
 have f2:=k.thaw 2;obtain⟨w0,hw0⟩:=nmE ((w.setCell ⟨g,2,none⟩ (.int .i64 (left-1))).drew);have k0:Dk S w0 g h c W cw bs ws (left-1) false:=by rw[<-hw0];exact(k.set2 (left-1)).drew
 have hsz0:w0.heap.size=w.heap.size:=by rw[<-hw0];simp[World.setCell]
 have hb0:Tch (fun j=>j=g) w w0:=by rw[<-hw0];exact(Tch.set (S:=fun j=>j=g) w ⟨g,2,none⟩ _ rfl).drew
 have r0:Rd w0 w0.heap.size A d.length d:=by rw[hd];exact hr.tch hb0 hAg
 have HC:=abV A cA w0.heap.size d w0 r0 (Nat.le_refl _) hA (by omega);rw[hd]at HC;have HC:=hE0 HC;have K0:=hE0 k0;have HW0:=hE0 hw0;have HB0:Hid (Tch S w w0):=⟨hb0.os,hb0.tape,hb0.output,hb0.size,fun j hj hn=>hb0.block j hj (fun e=>hn (by rw[e];exact k.sg))⟩;have HD:=hE0 hd;have HSZ:=hE0 hsz0;clear hw0 k0 r0 hb0 hd k hr hA hsz0 hAg;go_enter Tryz.func255,Tryz.ntmps255
 go_wp2_with fail
 refine HH.out.mono ?_;rintro e w1 ⟨rfl,rfl⟩;go_wp2_with fail
 refine aar w0.heap.size [([0,1,2,3,4,5,6],7),([8],9)] [] [10,11,12,13] (by kernel_rfl) (by kernel_rfl) (by kernel_rfl) (fun _ _ _ _ _ h=>h) ?_;rw[HW0.out];clear c2 c3 hle0 f2;have q0:∀x:LaterB w0.heap.size w0,x.val.cell? ⟨g,1,none⟩=some (.slice W ws.length cw):=fun x=>(x.ext.cell (p:=⟨g,1,none⟩) K0.out.lt).trans K0.out.c1;refine tail_cons (l:= ?seg1) ?hseg1 ?_
 case hseg1=>simp only[pick,lE1,lE2,lE3];rfl
 repeat (go_big_quiet_step (fail))
 refine wpQuiet_nil ?_;clear q0;refine aau (vs:= #[.slice A 512 cA]) Tryz.call92 rfl rfl rfl (R:=fun r w'=>∃b cb,r= .slice (some ⟨b,0,none⟩) 512 cb/\w0.heap.size<=b/\Fil w' b d) (HC.out.mono ?_) w0.heap.size (Nat.le_refl _) ?_
 · rintro e w' ⟨A',c',rfl,ho,hb⟩;rw[HD.out]at ho;obtain⟨b,cb,e1,_,_⟩:=amn ho (by omega);injection e1 with e1 _ e3;subst e1 e3;exact⟨_,by rw[HD.out],hb,b,c',rfl,(ho.lt b rfl).1,Fil.of_own ho⟩
 rintro r w1 hb1 ⟨b,cb,rfl,hbb,hfil⟩;refine tail_cons (l:= ?seg2) ?hseg2 ?_
 case hseg2=>simp only[pick,lE1,lE2,lE3];rfl
 simp only[Act.put,lE4,lE5,lE6];repeat (go_big_quiet_step (fail))
 refine wpQuiet_nil ?_;obtain⟨w3,hw3⟩:=nmE (w1.alloc (.cells #[.int .i64 (i:Int), .slice (some ⟨b,0,none⟩) 512 cb] 167));have hro:=apy w1 (i:Int) (some ⟨b,0,none⟩) 512 cb;rw[hw3]at hro;have hb13:=abE hw3;have hn3:=anE hw3;have hb3:Below w0.heap.size w0 w3:=hb1.trans (hb13.mono hb1.size);refine aml (w1:=w3) (v:= .slice (some ⟨w1.heap.size,0,none⟩) 1 1) rfl rfl ?rv1 (hb13.mono hb1.size) ?_
 case rv1=>exact acD rfl rfl hro
 refine⟨w0.heap.size,Nat.le_refl _,?_⟩;refine aaO (l:= ?la3) (t:= ?tl3) ?hla3 ?htl3 ?_
 case hla3=>rfl
 case htl3=>simp only[pick,lE1,lE2,lE3];rfl
 refine wpQuiet_nil ?_;simp only[Act.put,List.setIfInBounds_toArray];obtain⟨i0,hi0,hz0,hz1,hz2⟩:=info_parts apx;have hwcap:=K0.out.wcap;have hnew:∀j u,[Value.int .i64 (i:Int), .slice (some ⟨b,0,none⟩) 512 cb][j]?=some u->w3.cell? ((⟨w1.heap.size,0,none⟩:Addr).add j)=some u:=by
  intro j u hu;have e:(⟨w1.heap.size,0,none⟩:Addr).add j=⟨w1.heap.size,j,none⟩:=by unfold Addr.add;split<;>simp_all
  rw[e,cell_of_row w3 _ j _ _ (0,0) hn3];simpa using hu
 have hone:∀u∈ [Value.int .i64 (i:Int), .slice (some ⟨b,0,none⟩) 512 cb],u.oneCell'=true:=by
  intro u hu;simp at hu;rcases hu with rfl | rfl<;>rfl
 have k3:=K0.out.below hb3;refine wpList_append_own_at w3 rfl (.tmp 46) (.tmp 51) 126 rfl 0 167 i0 _ 2 32 Tryz.underlying126 hi0 hz0 hz1 hz2 rfl (by decide) (.slice W ws.length cw) ws.length (akY ws) rfl k3.wai ⟨w1.heap.size,0,none⟩ 1 1 _ rfl rfl hnew hone (by unfold maxLen;omega) (by omega) (Nat.zero_le _) ?_;intro v4 w4 own4 gr4 _ at4;have own4':w4.ownsRow 0 167 2 v4 (ws.length+1) (akY (ws++ [⟨i,b,cb,d⟩])):=by rw[agM];exact own4
 obtain⟨p1,p2,W',cw',rfl,p3,p4⟩:=K0.out.pushed hb3 ⟨i,b,cb,d⟩ hi hbb HD.out (hfil.keep (hb13.block b hfil.lt)) v4 own4' gr4 at4;have P3:=hE0 p3;have P4:=hE0 p4;clear p3 p4 own4 own4' gr4 at4 k3 hone hnew hi0 hz0 hz1 hz2 hn3 hro hw3;go_wp2
 go_ret
 refine⟨rfl,⟨W',cw',b,cb,P3.out.more fun j hj=> ?_⟩,HB0.out.trans P4.out (fun _ _ h=>h)⟩;rcases(P3.out.foot hj).1 with h1 | h1
 · exact .inl h1
 · exact .inr ⟨by have:=HSZ.out;omega,h1.2⟩
theorem anM (k:Dk S w g h c W cw bs ws left true) (hl:bs.length<=100000) (hleft:left≠0) (i:Nat) (hi:i*512+512<=bs.length) (A:Option Addr) (cA:Nat):
 Calls Tryz.prog 255 #[.pointer (some ⟨g,0,none⟩), .int .i64 (i:Int), .slice A 512 cA] w fun e w'=>e= .returned (.iface 130 (.int .i64 6))/\w=w':=by
 have HH:=hE0 (ae7 k hl i hi);have c2:=k.c2;have c3:=k.c3;have hle0:(left==0)=false:=by rw[beq_eq_false_iff_ne];exact hleft
 go_enter Tryz.func255,Tryz.ntmps255
 go_wp2_with fail
 with_reducible refine HH.out.mono ?_
 rintro e w1 ⟨rfl,rfl⟩;go_wp2
 go_ret
 exact⟨rfl,rfl⟩
theorem anN (k:Dk S w g h c W cw bs ws 0 off) (hl:bs.length<=100000) (i:Nat) (hi:i*512+512<=bs.length) (A:Option Addr) (cA:Nat):
 Calls Tryz.prog 255 #[.pointer (some ⟨g,0,none⟩), .int .i64 (i:Int), .slice A 512 cA] w fun e w'=>e= .returned (.iface 130 (.int .i64 6))/\Dk S w' g h c W cw bs ws 0 true/\Tch S w w':=by
 have HH:=hE0 (ae7 k hl i hi);have c2:=k.c2;have c3:=k.c3;have f3:=k.thaw 3;have K1:=hE0 (k.set3 true);have T1:=hE0 (Tch.set (S:=S) w ⟨g,3,none⟩ (.bool true) k.sg);clear k;go_enter Tryz.func255,Tryz.ntmps255
 go_wp2_with fail
 with_reducible refine HH.out.mono ?_
 rintro e w1 ⟨rfl,rfl⟩;go_wp2
 go_ret
 exact⟨rfl,K1.out,T1.out⟩
theorem anO (k:Dk S w g h c W cw bs ws left true):
 Calls Tryz.prog 209 #[.pointer (some ⟨g,0,none⟩)] w fun e w'=>e= .returned (.iface 130 (.int .i64 6))/\w=w':=by
 have c3:=k.c3;go_enter Tryz.func209,Tryz.ntmps209
 go_wp2
 go_ret
 exact⟨rfl,rfl⟩
theorem arI (k:Dk S w g h c W cw bs ws left off) (n m:Int) (hm:(if n<0 then-1 else n)=m):
 Calls Tryz.prog 17 #[.pointer (some ⟨g,0,none⟩), .int .i64 n] w fun e w'=>e= .returned (.tuple #[])/\Dk S w' g h c W cw bs ws m off/\Tch S w w':=by
 have c2:=k.c2;have f2:=k.thaw 2;have K1:=hE0 (k.set2 m);have T1:=hE0 (Tch.set (S:=S) w ⟨g,2,none⟩ (.int .i64 m) k.sg);clear k;by_cases h0:n<0
 · obtain rfl:m= -1:=by rw[if_pos h0]at hm;exact hm.symm
   have e1:(if n< -1 then (-1:Int) else n)= -1:=by split<;>omega
   clear hm;go_enter Tryz.func17,Tryz.ntmps17
   go_wp2
   go_end0
   exact⟨rfl,K1.out,T1.out⟩
 · obtain rfl:n=m:=by rw[if_neg h0]at hm;exact hm
   have e1:¬n< -1:=by omega
   clear hm;go_enter Tryz.func17,Tryz.ntmps17
   go_wp2
   go_end0
   exact⟨rfl,K1.out,T1.out⟩
end
theorem atz{H:Hp}{s:Nat}:∀{i:Nat},H.find s=some i->i<H.blks.length:=by
 have one:∀(LL:List Nat) (i:Nat),af4 H.blks s LL=some i->i<H.blks.length:=by
  intro LL;induction LL with
  | nil=>intro i h;cases h
  | cons o r ih=>
   intro i h;unfold af4 at h;split at h
   · cases h
   · rename_i j hj;split at h
     · injection h with h;subst h;exact(afQ hj).1
     · exact ih i h
 have go:∀(k c i:Nat),H.findC s k c=some i->i<H.blks.length:=by
  intro k;induction k with
  | zero=>intro c i h;cases h
  | succ k ih=>
   intro c i h;unfold Hp.findC at h;split at h
   · rename_i j hj;injection h with h;subst h;exact one _ _ hj
   · exact ih _ _ h
 intro i h;exact go _ _ _ h
section
variable {H:Hp} {i s N:Nat}
theorem Hp.Ok.giveB (h:H.Ok):(H.giveB i).Ok:=by
 unfold Hp.giveB;split
 · rename_i hn;have hlt:i+1<H.blks.length:=by
    unfold acJ at hn;rw[Bool.and_eq_true,decide_eq_true_eq]at hn;exact hn.1
   exact Hp.Ok.join (Hp.Ok.out h) hlt
 · exact h
theorem Hp.Ok.giveC (h:H.Ok) (hi:i<H.blks.length):(H.giveC i).Ok:=by
 unfold Hp.giveC;split
 · rename_i hn;have hlt:i-1+1<H.blks.length:=by
    unfold aiM at hn;rw[Bool.and_eq_true,decide_eq_true_eq]at hn;have:=hn.1;omega
   exact Hp.Ok.in_ (Hp.Ok.join (Hp.Ok.out h) hlt)
 · exact Hp.Ok.in_ h
theorem amJ (hi:i<H.blks.length):i<(H.giveB i).blks.length:=by
 unfold Hp.giveB;split
 · rename_i hn;have hlt:i+1<H.blks.length:=by
    unfold acJ at hn;rw[Bool.and_eq_true,decide_eq_true_eq]at hn;exact hn.1
   exact(aiW (H.out (i+1)) (i:=i) hlt).1
 · exact hi
theorem Hp.Ok.give (h:H.Ok) (hi:i<H.blks.length):(H.give i).Ok:=by
 have h1:((H.use i false).wipe i).Ok:=(h.use hi false).wipe;have l1:i<((H.use i false).wipe i).blks.length:=by
  show i<(H.blks.set i _).length;rw[List.length_set];exact hi
 exact(h1.giveB).giveC (amJ l1)
theorem Hp.Ok.cutA (h:H.Ok) (hi:i<H.blks.length) (hs:aaB (s:Int)=true):(H.cut i s).Ok:=by
 unfold Hp.cut;split
 · exact h.use hi true
 · rename_i hge;exact(h.cut hi hs (by omega)).give (by rw[alq H hi];omega)
theorem Hp.Ok.last (h:H.Ok){k:Nat}(hk:H.blks.length=k+1) (u:Bool) (hs:aaB (s:Int)=true) (hle:(aam H.blks k).off+s<=16384):(((H.size k s).use k u)).Ok/\(H.size k s).Ok:=by
 obtain⟨a,b,c⟩:=h.at_ (i:=k) (by omega);have hd:H.blks.drop (k+1)= []:=List.drop_of_length_le (by omega);have go:∀y:Bk,y.off=(aam H.blks k).off->y.size=s->abA 184 (H.blks.set k y) ((aam H.blks k).off+s):=fun y ho hsz=>by
  rw[ao1 y (aas (i:=k) (by omega)),hd];exact aiO (by rw[ho];exact a) (by rw[hsz];exact hs) (by rw[ho,hsz];rfl)
 have e1:((H.size k s).use k u).blks=H.blks.set k {aam H.blks k with size:=s,used:=u}:=by
  show(H.blks.set k _).set k _=_;rw[List.set_set];congr 1;show {aam (H.blks.set k {aam H.blks k with size:=s}) k with used:=u}=_;rw[acA _ _ _ _ (by omega),if_pos rfl]
 have t1:=go {aam H.blks k with size:=s,used:=u} rfl rfl;have t2:=go {aam H.blks k with size:=s} rfl rfl;refine⟨⟨?_,?_,?_⟩,?_,?_,?_⟩
 · rw[e1,ack t1];exact t1
 · rw[e1,ack t1];exact hle
 · show H.ds.length=((H.size k s).use k u).blks.length;rw[e1,List.length_set];exact h.dl
 · show abA 184 (H.blks.set k _) (lenB (H.blks.set k _));rw[ack t2];exact t2
 · show lenB (H.blks.set k _)<=_;rw[ack t2];exact hle
 · show H.ds.length=(H.blks.set k _).length;rw[List.length_set];exact h.dl
theorem arJ (h:H.Ok){k:Nat}(hk:H.blks.length=k+1):(aam H.blks k).off+(aam H.blks k).size=lenB H.blks:=by
 have h4:=(h.at_ (i:=k) (by omega)).2.2;rw[List.drop_of_length_le (by omega)]at h4;exact h4
theorem Hp.Ok.take (h:H.Ok) (hc:H.cap<=16384) (hs:aaB (s:Int)=true):(H.take s).2.Ok:=by
 unfold Hp.take;split
 · rename_i i hf;exact Hp.Ok.cutA (Hp.Ok.out h) (atz (H:=H) hf) hs
 · split
   · exact h
   · rename_i hr;split
     · rename_i htl;obtain⟨k,hk⟩:∃k,H.blks.length=0\/H.blks.length=k+1:=⟨H.blks.length-1,by omega⟩;rcases hk with hk | hk
       · unfold acp at htl;rw[if_pos hk]at htl;omega
       · have he:=arJ h hk;have htf:acp H.blks=(aam H.blks k).size:=by
          unfold acp at htl ⊢;rw[if_neg (by omega),show H.blks.length-1=k by omega]at htl ⊢;split at htl
          · omega
          · rename_i hu;rw[if_neg hu]
         rw[show H.blks.length-1=k by omega];exact(Hp.Ok.last (Hp.Ok.out (i:=k) h) hk true hs (by show(aam H.blks k).off+s<=_;omega)).1
     · rename_i htl;have ht:abA 184 (H.blks++ [⟨lenB H.blks,s,true⟩]) (lenB H.blks+s):=ajO _ _ _ _ h.tl rfl hs;have e:(H.put H.blks.length ⟨lenB H.blks,s,true⟩).blks=H.blks++ [⟨lenB H.blks,s,true⟩]:=by
        show H.blks.take _++_::H.blks.drop _=_;rw[List.take_length,List.drop_length]
       refine⟨?_,?_,?_⟩
       · rw[e,ack ht];exact ht
       · rw[e,ack ht];omega
       · rw[e];show(H.ds.take _++acI::H.ds.drop _).length=_;have:=h.dl;simp only[List.length_append,List.length_take,List.length_drop,List.length_cons,List.length_nil];omega
end
def Hp.swallow (H:Hp) (i:Nat):Hp:=if acJ H.blks i=true then (H.out (i+1)).drop (i+1) else H
def ahG (l:List Bk) (i:Nat):Nat:=(aam l i).size+(if acJ l i=true then (aam l (i+1)).size else 0)
def Hp.widen (H:Hp) (i:Nat):Hp:=(H.swallow i).size i (ahG H.blks i)
def Hp.copyD (H:Hp) (p o:Nat):Hp:={H with ds:=H.ds.set p (H.ds.getD o acI)}
def Hp.moveD (H:Hp) (p o:Int):Hp:=match atB p H.blks,atB o H.blks with
 | some ip,some io=>H.copyD ip io
 | _,_=>H
def afT (H:Hp) (i s:Nat):Bool:=decide ((aam H.blks i).off+ahG H.blks i=lenB H.blks)&&decide (lenB H.blks+s-ahG H.blks i<=H.cap)
def Hp.resize (H:Hp) (o:Int) (s:Nat):(Nat × Int) × Hp:=match aaY H.blks o with
 | none=>((0,3),H)
 | some i=>if s<=(aam H.blks i).size then (((aam H.blks i).off,0),H.cut i s)
  else if s<=ahG H.blks i then (((aam H.blks i).off,0),(H.widen i).cut i s)
  else if afT H i s=true then (((aam H.blks i).off,0),(H.widen i).size i s)
  else match (H.take s).1 with
   | none=>((0,5),H)
   | some p=>((p,0),(((H.take s).2.moveD (p:Int) o).giveO o).getD ((H.take s).2.moveD (p:Int) o))
section
variable {H:Hp} {i s N:Nat}
theorem agO (h:acJ H.blks i=true):H.swallow i=(H.out (i+1)).drop (i+1):=by unfold Hp.swallow;rw[if_pos h]
theorem ah7 (h:acJ H.blks i=false):H.swallow i=H:=by unfold Hp.swallow;rw[h,if_neg (by decide)]
theorem aiX (h:acJ H.blks i=true):ahG H.blks i=(aam H.blks i).size+(aam H.blks (i+1)).size:=by unfold ahG;rw[if_pos h]
theorem alr (h:acJ H.blks i=false):ahG H.blks i=(aam H.blks i).size:=by unfold ahG;rw[h,if_neg (by decide)];rfl
theorem afA (h:acJ H.blks i=true):i+1<H.blks.length:=by
 unfold acJ at h;rw[Bool.and_eq_true,decide_eq_true_eq]at h;exact h.1
theorem afB (h:acJ H.blks i=true):(H.widen i).blks=((H.out (i+1)).join i).blks/\(H.widen i).ds=((H.out (i+1)).join i).ds:=by
 have hlt:=afA h;have hb:aam ((H.out (i+1)).drop (i+1)).blks i=aam H.blks i:=by
  show aam (H.blks.take (i+1)++H.blks.drop (i+1+1)) i=_;unfold aam;rw[List.getD_eq_getElem?_getD,List.getElem?_append_left (by rw[List.length_take];omega),List.getElem?_take_of_lt (by omega),<-List.getD_eq_getElem?_getD]
 unfold Hp.widen;rw[agO h,aiX h];refine⟨?_,rfl⟩;rw[acN (H.out (i+1)) hlt];show(H.blks.take (i+1)++H.blks.drop (i+1+1)).set i {aam ((H.out (i+1)).drop (i+1)).blks i with size:=_}=_;rw[hb,List.set_append_left _ _ (by rw[List.length_take];omega)];rw[List.take_add_one,List.getElem?_eq_getElem (by omega)];rw[Option.toList_some,List.set_append_right _ _ (by rw[List.length_take];omega),List.length_take,show i-min i H.blks.length=0 by omega];simp;rfl
theorem afC (h:acJ H.blks i=false) (hi:i<H.blks.length):(H.widen i).blks=H.blks/\(H.widen i).ds=H.ds:=by
 unfold Hp.widen;rw[ah7 h,alr h];refine⟨?_,rfl⟩;show H.blks.set i {aam H.blks i with size:=(aam H.blks i).size}=H.blks;have e:({aam H.blks i with size:=(aam H.blks i).size}:Bk)=aam H.blks i:=rfl;rw[e];have hg:=aas hi;rw[List.getElem?_eq_getElem hi]at hg;injection hg with hg;rw[<-hg];exact List.set_getElem_self hi
theorem Hp.Ok.widen (h:H.Ok) (hi:i<H.blks.length):(H.widen i).Ok/\i<(H.widen i).blks.length/\aam (H.widen i).blks i={aam H.blks i with size:=ahG H.blks i}:=by
 cases hn:acJ H.blks i with
 | true=>
  obtain⟨e1,e2⟩:=afB hn;have hj:=Hp.Ok.join (Hp.Ok.out (i:=i+1) h) (afA hn);have ha:=aiW (H.out (i+1)) (i:=i) (afA hn);refine⟨⟨by rw[e1];exact hj.tl,by rw[e1];exact hj.le,by rw[e1,e2];exact hj.dl⟩,by rw[e1];exact ha.1,?_⟩;rw[e1,ha.2.1,aiX hn];rfl
 | false=>
  obtain⟨e1,e2⟩:=afC hn hi;refine⟨⟨by rw[e1];exact h.tl,by rw[e1];exact h.le,by rw[e1,e2];exact h.dl⟩,by rw[e1];exact hi,?_⟩;rw[e1,alr hn]
theorem widen_cap:(H.widen i).cap=H.cap:=by unfold Hp.widen Hp.swallow;split<;>rfl
theorem Hp.Dl.swallow (h:H.Dl):(H.swallow i).Dl:=by
 unfold Hp.swallow;split
 · exact Hp.Dl.drop (Hp.Dl.out h)
 · exact h
theorem Hp.Dl.widen (h:H.Dl):(H.widen i).Dl:=Hp.Dl.size (Hp.Dl.swallow h)
theorem Hp.Dl.moveD{p o:Int}(h:H.Dl):(H.moveD p o).Dl:=by
 unfold Hp.moveD;split
 · show(H.ds.set _ _).length=_;rw[List.length_set];exact h
 · exact h
theorem moveD_cap{p o:Int}:(H.moveD p o).cap=H.cap:=by unfold Hp.moveD;split<;>rfl
theorem Hp.Dl.resize{o:Int}(h:H.Dl):(H.resize o s).2.Dl:=by
 unfold Hp.resize;split
 · exact h
 · split
   · exact h.cut
   · split
     · exact h.widen.cut
     · split
       · exact h.widen.size
       · split
         · exact h
         · rename_i p _
           cases hg:((H.take s).2.moveD (p:Int) o).giveO o with
           | none=>exact h.take.moveD
           | some H2=>exact h.take.moveD.giveO hg
theorem resize_cap{o:Int}:(H.resize o s).2.cap=H.cap:=by
 unfold Hp.resize;split
 · rfl
 · split
   · exact cut_cap
   · split
     · exact cut_cap.trans widen_cap
     · split
       · exact widen_cap
       · split
         · rfl
         · rename_i p _
           cases hg:((H.take s).2.moveD (p:Int) o).giveO o with
           | none=>exact moveD_cap.trans take_cap
           | some H2=>exact(ao4 hg).trans (moveD_cap.trans take_cap)
end
def Hp.handleB (H:Hp) (q:Nat):Option Nat:=if q<8\/20000<q then none else aaY H.blks ((q:Int)-8)
def agP (H:Hp):Nat->Hp
 | 0=>{H with lists:=fun _=> []}
 | j+1=>if (aam H.blks j).used=true then agP H j else (agP H j).in_ j
def Hp.rebuild (H:Hp):Hp:=agP H H.blks.length
theorem acr (H:Hp):∀j,(agP H j).blks=H.blks/\(agP H j).ds=H.ds/\(agP H j).cap=H.cap
 | 0=>⟨rfl,rfl,rfl⟩
 | j+1=>by
  unfold agP;split
  · exact acr H j
  · exact acr H j
def aj8 (d:List UInt8) (n:Nat) (x:UInt8):List UInt8:=d.take n++List.replicate (n-d.length) x
theorem apz (d:List UInt8) (n:Nat) (x:UInt8):(aj8 d n x).length=n:=by
 unfold aj8;rw[List.length_append,List.length_take,List.length_replicate];omega
theorem amK (d:List UInt8) (n:Nat) (x:UInt8) (k:Nat) (hk:k<n):(aj8 d n x)[k]?=some (d.getD k x):=by
 unfold aj8;rcases Nat.lt_or_ge k d.length with h | h
 · rw[List.getElem?_append_left (by rw[List.length_take];omega),List.getElem?_take_of_lt hk,List.getD_eq_getElem?_getD,List.getElem?_eq_getElem h];rfl
 · rw[List.getElem?_append_right (by rw[List.length_take];omega),List.getElem?_replicate,if_pos (by rw[List.length_take];omega),List.getD_eq_getElem?_getD,List.getElem?_eq_none h];rfl
def Hp.dset (H:Hp) (i:Nat) (d:Dt):Hp:={H with ds:=H.ds.set i d}
def Hp.fill (H:Hp) (i:Nat) (x:UInt8):Hp:=H.dset i (.slice none 0 0,aj8 (H.ds.getD i acI).2 ((aam H.blks i).size-16) x)
theorem ad8{n s:Nat}(h:acU n=some s):aaB (s:Int)=true:=by
 unfold acU at h;split at h
 · injection h with h;exact(aab _).2 (by omega)
 · cases h
def Hp.get (H:Hp) (n:Nat) (x:UInt8):(Nat × Int) × Hp:=match acU n with
 | none=>((0,5),H)
 | some s=>match (H.take s).1 with
  | none=>((0,5),H)
  | some o=>((o+8,0),match atB (o:Int) (H.take s).2.blks with
   | none=>(H.take s).2
   | some i=>((H.take s).2.wipe i).fill i x)
def Hp.calloc (H:Hp) (n m:Nat):(Nat × Int) × Hp:=if 18446744073709551615<n*m then ((0,5),H) else H.get (n*m) 0
def Hp.realloc (H:Hp) (q n:Nat):(Nat × Int) × Hp:=match H.handleB q with
 | none=>((0,4),H)
 | some _=>match acU n with
  | none=>((0,5),H)
  | some s=>if (H.resize ((q:Int)-8) s).1.2=0 then (((H.resize ((q:Int)-8) s).1.1+8,0),match atB ((H.resize ((q:Int)-8) s).1.1:Int) (H.resize ((q:Int)-8) s).2.blks with
   | none=>(H.resize ((q:Int)-8) s).2
   | some i=>(H.resize ((q:Int)-8) s).2.fill i 165)
   else ((0,(H.resize ((q:Int)-8) s).1.2),(H.resize ((q:Int)-8) s).2)
theorem agQ{H:Hp}{q i:Nat}(h:H.handleB q=some i):8<=q/\q<=20000/\aaY H.blks ((q:Int)-8)=some i:=by
 unfold Hp.handleB at h;split at h
 · cases h
 · exact⟨by omega,by omega,h⟩
theorem agR (H:Hp) (o:Int) (s:Nat) (h:(H.resize o s).1.2≠0):(H.resize o s).1.1=0/\(H.resize o s).2=H/\((H.resize o s).1.2=3\/(H.resize o s).1.2=5):=by
 unfold Hp.resize at h ⊢;split
 · exact⟨rfl,rfl, .inl rfl⟩
 · rename_i i hi;rw[hi]at h;dsimp only at h ⊢;split
   · rename_i h1;rw[if_pos h1]at h;exact absurd rfl h
   · rename_i h1;rw[if_neg h1]at h;split
     · rename_i h2;rw[if_pos h2]at h;exact absurd rfl h
     · rename_i h2;rw[if_neg h2]at h;split
       · rename_i h3;rw[if_pos h3]at h;exact absurd rfl h
       · rename_i h3;rw[if_neg h3]at h;split
         · exact⟨rfl,rfl, .inr rfl⟩
         · rename_i p hp;rw[hp]at h;exact absurd rfl h
def tkL (L:Nat->List Nat) (y:Bk):Nat->List Nat:=aga L (ae0 y) ((L (ae0 y)).filter fun o=>o !=y.off)
def ptL (L:Nat->List Nat) (y:Bk):Nat->List Nat:=aga L (ae0 y) (y.off::L (ae0 y))
def tkO (L:Nat->List Nat):Option Bk->Nat->List Nat
 | none=>L
 | some y=>tkL L y
theorem ad9 (A:List Bk) (y:Bk) (B:List Bk):aam (A++y::B) A.length=y:=aa9 (by rw[List.getElem?_append_right (Nat.le_refl _),Nat.sub_self];rfl)
theorem als (A:List Bk) (y z:Bk) (B:List Bk):aam (A++y::z::B) (A.length+1)=z:=aa9 (by rw[List.getElem?_append_right (by omega),show A.length+1-A.length=1 by omega];rfl)
theorem ae9{l:List Bk}{i:Nat}(hi:i<l.length):l=l.take i++aam l i::l.drop (i+1)/\(l.take i).length=i:=by
 refine⟨?_,by rw[List.length_take];omega⟩;have e:l.drop i=aam l i::l.drop (i+1):=by
  have h:=aas hi;rw[List.getElem?_eq_getElem hi]at h;injection h with h;rw[List.drop_eq_getElem_cons hi,h]
 rw[<-e,List.take_append_drop]
section
variable {H:Hp} {A B:List Bk} {y z:Bk} {i:Nat}
theorem agS (hb:H.blks=A++y::B) (u:Bool):(H.use A.length u).blks=A++{y with used:=u}::B:=by
 show H.blks.set A.length {aam H.blks A.length with used:=u}=_;rw[hb,ad9,List.set_append_right _ _ (Nat.le_refl _),Nat.sub_self];rfl
theorem amL (hb:H.blks=A++y::B) (s:Nat):(H.size A.length s).blks=A++{y with size:=s}::B:=by
 show H.blks.set A.length {aam H.blks A.length with size:=s}=_;rw[hb,ad9,List.set_append_right _ _ (Nat.le_refl _),Nat.sub_self];rfl
theorem aiY (hb:H.blks=A++y::z::B):(H.join A.length).blks=A++{y with size:=y.size+z.size}::B:=by
 rw[acN H (i:=A.length) (by rw[hb];simp),hb,ad9,als,List.take_left,show A++y::z::B=(A++ [y,z])++B by simp,List.drop_left' (by simp)]
theorem agT (hb:H.blks=A++y::B):(H.out A.length).lists=tkL H.lists y:=by
 show aga H.lists (ae0 (aam H.blks A.length)) _=_;rw[hb,ad9];rfl
theorem asJ (hb:H.blks=A++y::B):(H.in_ A.length).lists=ptL H.lists y:=by
 show aga H.lists (ae0 (aam H.blks A.length)) _=_;rw[hb,ad9];rfl
end
theorem agU (A:List Bk) (x:Bk) (B:List Bk):acJ (A++x::B) A.length=match B with
 | []=>false
 | n::_=> !n.used:=by
 unfold acJ
 cases B with
 | nil=>simp
 | cons n r=>
  rw[als];simp
theorem aj9 (A:List Bk) (p x:Bk) (B:List Bk):aiM (A++p::x::B) (A.length+1)= !p.used:=by
 unfold aiM;rw[Nat.add_sub_cancel,ad9];simp
structure alu (A1:List Bk) (p:Option Bk) (n:Option Bk) (B1:List Bk):Prop where
 pf:∀y,p=some y->y.used=false
 nf:∀y,n=some y->y.used=false
 pu:p=none->∀y r,A1=r++ [y]->y.used=true
 nu:n=none->∀y r,B1=y::r->y.used=true
theorem alv (A B:List Bk):∃A1 p n B1,A=A1++p.toList/\B=n.toList++B1/\alu A1 p n B1:=by
 have h1:∃A1 p,A=A1++p.toList/\(∀y,p=some y->y.used=false)/\(p=none->∀y r,A1=r++ [y]->y.used=true):=by
  rcases List.eq_nil_or_concat A with e | ⟨r,y,e⟩
  · refine⟨[],none,e,fun y hy=>(by cases hy),fun _ y r h=> ?_⟩;have:=congrArg List.length h;simp at this
  · rw[List.concat_eq_append]at e
    cases hu:y.used with
    | false=>exact⟨r,some y,e,fun z hz=>(by injection hz with hz;rw[<-hz];exact hu),fun h=>(by cases h)⟩
    | true=>
     refine⟨A,none,by simp,fun y hy=>(by cases hy),fun _ z r2 h=> ?_⟩;rw[e]at h;have:=List.append_inj_right' h rfl;injection this with h1;rw[<-h1];exact hu
 have h2:∃n B1,B=n.toList++B1/\(∀y,n=some y->y.used=false)/\(n=none->∀y r,B1=y::r->y.used=true):=by
  cases B with
  | nil=>exact⟨none,[],rfl,fun y hy=>(by cases hy),fun _ y r h=>(by cases h)⟩
  | cons y r=>
   cases hu:y.used with
   | false=>exact⟨some y,r,rfl,fun z hz=>(by injection hz with hz;rw[<-hz];exact hu),fun h=>(by cases h)⟩
   | true=>exact⟨none,y::r,rfl,fun y hy=>(by cases hy),fun _ z r2 h=>(by injection h with h1 _;rw[<-h1];exact hu)⟩
 obtain⟨A1,p,e1,e2,e3⟩:=h1;obtain⟨n,B1,f1,f2,f3⟩:=h2;exact⟨A1,p,n,B1,e1,f1,e2,f2,e3,f3⟩
def aea (p:Option Bk) (x:Bk) (n:Option Bk):Bk:=⟨(p.getD x).off,(p.map Bk.size).getD 0+x.size+(n.map Bk.size).getD 0,false⟩
theorem alw{H:Hp}{A1 B1:List Bk}{p n:Option Bk}{x:Bk}(hb:H.blks=(A1++p.toList)++x::(n.toList++B1)) (hN:alu A1 p n B1):
 (H.give (A1++p.toList).length).blks=A1++aea p x n::B1/\(H.give (A1++p.toList).length).lists=ptL (tkO (tkO H.lists n) p) (aea p x n):=by
 obtain⟨A,hA⟩:=nmE (A1++p.toList);rw[hA]at hb ⊢;obtain⟨H0,hH0⟩:=nmE ((H.use A.length false).wipe A.length);have b0:H0.blks=A++{x with used:=false}::(n.toList++B1):=by rw[<-hH0];exact agS hb false
 have l0:H0.lists=H.lists:=by rw[<-hH0];rfl
 have h1:(H0.giveB A.length).blks=A++⟨x.off,x.size+(n.map Bk.size).getD 0,false⟩::B1/\(H0.giveB A.length).lists=tkO H.lists n:=by
  unfold Hp.giveB;rw[b0,agU]
  cases n with
  | none=>
   have e:(match (none:Option Bk).toList++B1 with
    | []=>false
    | n::_=> !n.used)=false:=by
    cases B1 with
    | nil=>rfl
    | cons y r=>
     show(!y.used)=false;rw[hN.nu rfl y r rfl];rfl
   rw[e,if_neg (by simp)];exact⟨b0,l0⟩
  | some m=>
   have hm:=hN.nf m rfl;show(if (!m.used)=true then _ else _:Hp).blks=_/\(if (!m.used)=true then _ else _:Hp).lists=_;rw[hm,if_pos (by rfl)];constructor
   · exact aiY (H:=H0.out (A.length+1)) (y:={x with used:=false}) (z:=m) b0
   · have b0':H0.blks=(A++ [{x with used:=false}])++m::B1:=by rw[b0];simp
     have:=agT b0';rw[List.length_append,List.length_singleton]at this;show(H0.out (A.length+1)).lists=_;rw[this,l0];rfl
 obtain⟨b1,l1⟩:=h1;have e:H.give A.length=(H0.giveB A.length).giveC A.length:=by rw[<-hH0];rfl
 rw[e];obtain⟨G,hG⟩:=nmE (H0.giveB A.length);rw[hG]at b1 l1 ⊢;unfold Hp.giveC
 cases p with
 | none=>
  have hA:A1=A:=by rw[<-hA];simp
  have hp:aiM G.blks A.length=false:=by
   rcases List.eq_nil_or_concat A with e | ⟨r,y,e⟩
   · rw[b1,e];rfl
   · rw[List.concat_eq_append]at e;have hu:=hN.pu rfl y r (by rw[hA];exact e);rw[b1,e,List.append_assoc,List.length_append];exact(aj9 r y _ B1).trans (by rw[hu];rfl)
  rw[hp,if_neg (by simp)];have hw:aea none x n=⟨x.off,x.size+(n.map Bk.size).getD 0,false⟩:=by unfold aea;simp
  rw[hw];refine⟨by rw[hA];exact b1,?_⟩;rw[asJ b1,l1];rfl
 | some q=>
  have hq:=hN.pf q rfl;have hA':A=A1++ [q]:=by rw[<-hA];rfl
  have b1':G.blks=A1++q::⟨x.off,x.size+(n.map Bk.size).getD 0,false⟩::B1:=by rw[b1,hA'];simp
  have hlen:A.length=A1.length+1:=by rw[hA'];simp
  rw[hlen,Nat.add_sub_cancel,b1',aj9,hq,if_pos (by rfl)];have hw:aea (some q) x n={q with size:=q.size+(x.size+(n.map Bk.size).getD 0)}:=by
   unfold aea;show Bk.mk q.off (q.size+x.size+(n.map Bk.size).getD 0) false=Bk.mk q.off (q.size+(x.size+(n.map Bk.size).getD 0)) q.used;rw[hq,Nat.add_assoc]
  have b2:((G.out A1.length).join A1.length).blks=A1++aea (some q) x n::B1:=by
   rw[hw];exact aiY (H:=G.out A1.length) b1'
  refine⟨b2,?_⟩;rw[asJ b2];show ptL (G.out A1.length).lists _=_;rw[agT b1',l1];rfl
end Go.Proofs.YtncadccbepjekaaGreatDoor
