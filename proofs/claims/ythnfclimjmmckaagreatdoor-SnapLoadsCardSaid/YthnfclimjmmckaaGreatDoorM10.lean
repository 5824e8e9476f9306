/- Texts of mine, joined. -/
import Derived.Lib.Mul64
import Derived.Laws.Bits64b
import Derived.Test.YthnfclimjmmckaaGreatDoorM9
set_option maxRecDepth 100000
set_option maxHeartbeats 8000000
namespace Go.Proofs.YthnfclimjmmckaaGreatDoor
open Go.RowKit
theorem ajF{H:Hp}{s:Nat}(h:(H.take s).1=none):(H.take s).2=H:=by
 unfold Hp.take at h ⊢;split
 · rename_i hf;rw[hf]at h;cases h
 · rename_i hf;rw[hf]at h;dsimp only at h ⊢;split
   · rfl
   · rename_i hr;rw[if_neg hr]at h;split at h<;>cases h
section
variable {F:Nat->Prop} {w w':World} {p gl:Nat} {H:Hp} {Vb Vd:Value} {cs:List Value}
end
section
variable {F:Nat->Prop} {w w':World} {p gl:Nat} {H:Hp} {Vb Vd:Value} {cs:List Value}
theorem Hm.gset (h:Hm F w p H Vb Vd gl cs) (g2:Nat) (hrow:w.heap[g2]?=some (.cells (List.replicate 22 (Value.slice none 0 0)).toArray 23 (0,0))):
 Hm (fun k=>F k\/k=g2) (w.setCell ⟨p,3,none⟩ (.slice (some ⟨g2,0,none⟩) 22 22)) p {H with lists:=fun _=> []} Vb Vd g2 (List.replicate 22 (.slice none 0 0)):=by
 have hk:=amK w p 3 (.slice (some ⟨g2,0,none⟩) 22 22);have hg:g2≠p:=fun e=>by
  have h1:=h.obj;rw[<-e,hrow]at h1;injection h1 with h1;injection h1 with _ h1 _;exact absurd h1 (by decide)
 refine⟨?_,aaP h.ob (fun k e=>hk k (ab5 h.ob h.obj (by decide) k e)),aaP h.od (fun k e=>hk k (ab5 h.od h.obj (by decide) k e)),(hk g2 hg).trans hrow,List.length_replicate,fun d hd=>⟨.slice none 0 0,by rw[List.getElem?_replicate,if_pos hd],World.ownsRow_nil _ _ _ _⟩, .inl h.fp, .inr rfl,fun k e=> .inl (h.fb k e),fun k e=> .inl (h.fd k e),fun d v k hd hv e=> ?_,h.sl⟩
 · have:=heap_setCell_same w p 3 _ _ (.slice (some ⟨g2,0,none⟩) 22 22) h.obj;rw[this];rfl
 · rw[List.getElem?_replicate,if_pos hd]at hv;injection hv with hv;subst hv
   cases e
theorem aqF (h:Hm F w p H Vb Vd gl cs) (hok:H.Ok):
 Calls Tryz.prog 87 #[.pointer (some ⟨p,0,none⟩)] w fun e w'=>e= .returned (.tuple #[])/\HT F w p H.rebuild w':=by
 obtain⟨c22,h22⟩:∃c22:List Value,List.replicate 22 (Value.slice none 0 0)=c22:=⟨_,rfl⟩;have HMS:∀W:World,(Instr.makeSlice 94 (.int .i64 22) (.int .i64 22)).run Tryz.prog W= .ok (.slice (some ⟨W.heap.size,0,none⟩) 22 22) (W.alloc (.cells c22.toArray 23)):=fun W=>by rw[<-h22];exact aon W
 obtain⟨wg,hwg⟩:=nmE (w.alloc (.cells c22.toArray 23));have b1:=abE hwg;have n1:=anE hwg;have hg:=h.below b1;have q3:=hg.c3;have f3:=hg.thaw 3;have hs:=hg.gset w.heap.size (by rw[h22];exact n1);obtain⟨w1,hw1⟩:=nmE (wg.setCell ⟨p,3,none⟩ (.slice (some ⟨w.heap.size,0,none⟩) 22 22));rw[hw1,h22]at hs;have hz:Hz F w p (fun k=>F k\/k=w.heap.size) w1 (afc H 0) Vb Vd w.heap.size c22:=by
  refine⟨hs,(Tch.of_below (S:=F) b1).trans (by rw[<-hw1];exact Tch.set wg ⟨p,3,none⟩ _ h.fp) (fun _ _ h=>h),fun k hk=> ?_⟩;rcases hk with hk | hk
  · exact .inl hk
  · exact .inr (by omega)
 have hn512:=hok.n;have HZ0:=hE0 hz;have HWG:=hE0 hwg;have HW1:=hE0 hw1;have HOK:=hE0 hok;obtain⟨n,hn⟩:=nmE H.blks.length;rw[hn]at hn512;have HN:=hE0 hn;have HRB:Hid (H.rebuild=afc H n):=(show _=_ by unfold Hp.rebuild;rw[hn]);clear h hok h22 hwg b1 n1 hg hs hw1 hz hn;go_enter Tryz.func87,Tryz.ntmps87
 go_wp2_with (first | (rw[HWG.out]) | (rw[HW1.out]) | fail)
 clear q3 f3 HMS HWG HW1;go_loopw [2] (fun i wr=>∃(j:Nat) (F':Nat->Prop) (Vb Vd:Value) (gl:Nat) (cs:List Value),i= .int .i64 (j:Int)/\j<=n/\Hz F w p F' wr (afc H j) Vb Vd gl cs) (fun i _=>n-(intOf i).toNat)
 case atStart=>exact⟨0,_,_,_,_,_,rfl,Nat.zero_le _,HZ0.out⟩
 case round=>
  obtain⟨j,F',Vb,Vd,gl,cs,rfl,hj,hz⟩:=hrel;clear HZ0;obtain⟨e1,e2,_⟩:=ael H j;have hfw:=aiC H j;have k1:=hz.hm.c1;obtain⟨A,c,hV⟩:=aa4 hz.hm.ob;rw[hV]at k1 hz;have hlen:(afc H j).blks.length=n:=by rw[e1];exact HN.out
  rw[hlen]at k1 hz;by_cases hlt:j<n
  · obtain⟨b1,c1,hb,_,hnc,_⟩:=agO hz.hm.ob (by omega);injection hb with e3 _ e5;subst e3 e5;have d2:=(hz.hm.at_n hlen hlt).2.2;rw[e1]at d2;have hji:(j:Int)<(n:Int):=by omega
    have HZ:=hE0 hz;have HE1:=hE0 e1;have HFW:=hE0 hfw;have HLEN:=hE0 hlen
    cases hu:(aaL H.blks j).used with
    | true=>
     rw[hu]at d2;have HR:Hid (afc H (j+1)=afc H j):=(show _=_ by
      show(if (aaL H.blks j).used=true then afc H j else (afc H j).in_ j)=_;rw[if_pos hu])
     clear hz e1 e2 hfw hlen hV hu;go_wp2
     go_roundw
     case rel=>exact⟨j+1,_,_,_,_,_,by go_num,by omega,by rw[HR.out];exact HZ.out⟩
     case measure=>simp only[intOf];omega
    | false=>
     rw[hu]at d2;have HR:Hid (afc H (j+1)=(afc H j).in_ j):=(show _=_ by
      show(if (aaL H.blks j).used=true then afc H j else (afc H j).in_ j)=_;rw[if_neg (by rw[hu];decide)])
     clear hz e1 e2 hfw hlen hV hu;go_wp2_with fail
     refine(ar0 HZ.out.hm j (by rw[HLEN.out];exact hlt) (by rw[HE1.out];exact HOK.out.sz (by rw[HN.out];exact hlt)) (fun d hd=>Nat.le_trans (HFW.out d hd) (by omega))).mono ?_;rintro e w2 ⟨rfl,ht⟩;obtain⟨F2,Vb2,Vd2,gl2,cs2,z2⟩:=HZ.out.step ht;have Z2:=hE0 z2;clear z2 ht HZ k1 d2;go_wp2
     go_roundw
     case rel=>exact⟨j+1,_,_,_,_,_,by go_num,by omega,by rw[HR.out];exact Z2.out⟩
     case measure=>simp only[intOf];omega
  · obtain rfl:n=j:=by omega
    have HTO:=hE0 hz.fin;clear hz;go_wp2
    go_end0
    exact⟨rfl,by rw[HRB.out];exact HTO.out⟩
end
structure Hd (F G:Nat->Prop) (w:World) (p:Nat) (H:Hp):Prop where
 hm:HM F w p H
 dat:∀d∈H.ds,(d.1= .slice none 0 0/\d.2= [])\/∃b c,d.1= .slice (some ⟨b,0,none⟩) d.2.length c/\G b/\w.ownsRow 0 5 1 d.1 d.2.length (d.2.map bv)
 sep:H.ds.Pairwise fun a b=>∀k,a.1.ownBlock=some k->b.1.ownBlock≠some k
 gf:∀k,G k->¬F k
 gl:∀k,G k->k<w.heap.size
 fl:∀k,F k->k<w.heap.size
def Ht (F G:Nat->Prop) (w:World) (p:Nat) (H':Hp) (w':World):Prop:=∃F' G',Hd F' G' w' p H'/\Tch (fun k=>F k\/G k) w w'/\∀k,F' k\/G' k->(F k\/G k)\/w.heap.size<=k
section
variable {F G:Nat->Prop} {w w' w2:World} {p:Nat} {H H' H2:Hp}
theorem Hd.below (h:Hd F G w p H) (hb:Below w.heap.size w w'):Hd F G w' p H:=
 ⟨h.hm.below hb,fun d hd=>(h.dat d hd).imp id fun⟨b,c,e,g,o⟩=>⟨b,c,e,g,aa6 o hb⟩,h.sep,h.gf,fun k hk=>Nat.lt_of_lt_of_le (h.gl k hk) hb.size,fun k hk=>Nat.lt_of_lt_of_le (h.fl k hk) hb.size⟩
theorem Hd.tch{S:Nat->Prop}(h:Hd F G w p H) (ht:Tch S w w') (hf:∀k,F k->¬S k) (hg:∀k,G k->¬S k):Hd F G w' p H:=
 ⟨h.hm.tch ht hf,fun d hd=>(h.dat d hd).imp id fun⟨b,c,e,g,o⟩=>⟨b,c,e,g,aaP o fun k hk=>by
  rw[e]at hk;injection hk with hk;have hk:b=k:=hk;subst hk;exact ht.block b (h.gl b g) (hg b g)⟩,h.sep,h.gf,fun k hk=>Nat.lt_of_lt_of_le (h.gl k hk) ht.size,fun k hk=>Nat.lt_of_lt_of_le (h.fl k hk) ht.size⟩
theorem Hd.turn (h:Hd F G w p H) (ht:HT F w p H' w') (hds:∀d∈H'.ds,d∈H.ds\/d=acB) (hsep:H'.ds.Pairwise fun a b=>∀k,a.1.ownBlock=some k->b.1.ownBlock≠some k):
 ∃F',Hd F' G w' p H'/\Tch F w w'/\∀k,F' k->F k\/w.heap.size<=k:=by
 obtain⟨F1,h1,t1,f1⟩:=ht;obtain⟨Vb,Vd,gl,cs,hmm⟩:=h1;refine⟨_,⟨⟨Vb,Vd,gl,cs,hmm.tight⟩,fun d hd=> ?_,hsep,fun k hk hf=> ?_,fun k hk=>Nat.lt_of_lt_of_le (h.gl k hk) t1.size,fun k hk=>hmm.feet_lt hk⟩,t1,fun k hk=>f1 k (hmm.feetF hk)⟩
 · rcases hds d hd with hd | rfl
   · refine(h.dat d hd).imp id fun⟨b,c,e,g,o⟩=>⟨b,c,e,g,aaP o fun k hk=> ?_⟩;rw[e]at hk;injection hk with hk;have hk:b=k:=hk;subst hk;exact t1.block b (h.gl b g) (h.gf b g)
   · exact .inl ⟨rfl,rfl⟩
 · rcases f1 k (hmm.feetF hf)with h' | h'
   · exact h.gf k hk h'
   · have:=h.gl k hk;omega
theorem Ht.of (h:Hd F G w p H) (hb:Below w.heap.size w w'):Ht F G w p H w':=⟨F,G,h.below hb,Tch.of_below hb,fun _ hk=> .inl hk⟩
theorem Hd.ht (h:Hd F G w p H) (ht:HT F w p H' w') (hds:∀d∈H'.ds,d∈H.ds\/d=acB) (hsep:H'.ds.Pairwise fun a b=>∀k,a.1.ownBlock=some k->b.1.ownBlock≠some k):Ht F G w p H' w':=by
 obtain⟨F',h1,t1,f1⟩:=h.turn ht hds hsep;refine⟨F',G,h1,⟨t1.os,t1.tape,t1.output,t1.size,fun k hk hn=>t1.block k hk (fun hf=>hn (.inl hf))⟩,fun k hk=> ?_⟩;rcases hk with hk | hk
 · rcases f1 k hk with h' | h'
   · exact .inl (.inl h')
   · exact .inr h'
 · exact .inl (.inr hk)
theorem ar9{ds:List Dt}{i:Nat}{y:Dt}(h:ds.Pairwise fun a b=>∀k,a.1.ownBlock=some k->b.1.ownBlock≠some k) (hy:∀d∈ds,∀k,y.1.ownBlock=some k->d.1.ownBlock≠some k):(ds.set i y).Pairwise fun a b=>∀k,a.1.ownBlock=some k->b.1.ownBlock≠some k:=by
 rw[List.pairwise_iff_getElem]at h ⊢;intro m n hm hn hmn k;rw[List.length_set]at hm hn;rw[List.getElem_set,List.getElem_set];by_cases e1:i=m
 · rw[if_pos e1,if_neg (by omega)];exact fun hk=>hy _ (List.getElem_mem _) k hk
 · rw[if_neg e1];by_cases e2:i=n
   · rw[if_pos e2];exact fun hk hk2=>hy _ (List.getElem_mem hm) k hk2 hk
   · rw[if_neg e2];exact h m n hm hn hmn k
theorem Hd.dset (h:Hd F G w p H) (hlen:w.heap.size<=w'.heap.size){i b c:Nat}(l:List UInt8) (hb:w.heap.size<=b) (hown:w'.ownsRow 0 5 1 (.slice (some ⟨b,0,none⟩) l.length c) l.length (l.map bv))
 (hbel:Below w.heap.size w w') (Vb Vd:Value) (gl:Nat) (cs:List Value) (hm:Hm F w' p H Vb Vd gl cs) (bd cd:Nat) (hV:Vd= .slice (some ⟨bd,0,none⟩) H.ds.length cd):
 Ht F G w p (H.dset i (.slice (some ⟨b,0,none⟩) l.length c,l)) (w'.setCell ⟨bd,i,none⟩ (.slice (some ⟨b,0,none⟩) l.length c)):=by
 have hFbd:F bd:=hm.fd bd (by rw[hV];rfl);have hd:=h.below hbel;have h2:=hm.dcell (i:=i) hV (.slice (some ⟨b,0,none⟩) l.length c,l) ⟨_,_,_,rfl⟩;have hbl:b<w'.heap.size:=(hown.lt b rfl).2;have hne:∀k,k≠bd->(w'.setCell ⟨bd,i,none⟩ (.slice (some ⟨b,0,none⟩) l.length c)).heap[k]?=w'.heap[k]?:=fun k hk=>Below.heap_setCell w' ⟨bd,i,none⟩ _ k hk;have hsz:(w'.setCell ⟨bd,i,none⟩ (.slice (some ⟨b,0,none⟩) l.length c)).heap.size=w'.heap.size:=by simp[World.setCell]
 refine⟨F,fun k=>G k\/k=b,⟨⟨_,_,_,_,h2⟩,fun d hdm=> ?_,?_,fun k hk hf=> ?_,fun k hk=> ?_,fun k hk=> ?_⟩,?_,fun k hk=> ?_⟩
 · rcases List.mem_or_eq_of_mem_set hdm with hdm | rfl
   · refine(hd.dat d hdm).imp id fun⟨b',c',e,g,o⟩=>⟨b',c',e, .inl g,aaP o fun k hk=> ?_⟩;rw[e]at hk;injection hk with hk;have hk:b'=k:=hk;subst hk;exact hne _ (fun e=>h.gf _ g (e▸hFbd))
   · refine .inr ⟨b,c,rfl, .inr rfl,aaP hown fun k hk=> ?_⟩;injection hk with hk;have hk:b=k:=hk;subst hk;exact hne _ (fun e=>by have:=h.fl bd hFbd;omega)
 · refine ar9 h.sep fun d hdm k hk hk2=> ?_;injection hk with hk;have hk:b=k:=hk;subst hk;rcases h.dat d hdm with⟨e,_⟩ | ⟨b',c',e,g,_⟩
   · rw[e]at hk2;cases hk2
   · rw[e]at hk2;injection hk2 with hk2;have hk2:b'=b:=hk2;subst hk2;have:=h.gl b' g;omega
 · rcases hk with hk | rfl
   · exact h.gf k hk hf
   · have:=h.fl k hf;omega
 · rw[hsz];rcases hk with hk | rfl
   · exact Nat.lt_of_lt_of_le (h.gl k hk) hlen
   · exact hbl
 · rw[hsz];exact Nat.lt_of_lt_of_le (h.fl k hk) hlen
 · exact(Tch.of_below (S:=fun k=>F k\/G k) hbel).trans (Tch.set w' ⟨bd,i,none⟩ _ (.inl hFbd)) (fun _ _ h=>h)
 · rcases hk with hk | hk | rfl
   · exact .inl (.inl hk)
   · exact .inl (.inr hk)
   · exact .inr hb
end
section
variable {F G:Nat->Prop} {w w' w2:World} {p:Nat} {H H' H2:Hp}
theorem aoI{l:List UInt8}{k:Nat}{u:UInt8}(h:l[k]?=some u):l.take (k+1)=l.take k++ [u]:=by
 rw[List.take_add_one,h];rfl
theorem aoJ (h:Hd F G w p H) (hok:H.Ok) (i:Nat) (hi:i<H.blks.length) (x:UInt8):
 Calls Tryz.prog 104 #[.pointer (some ⟨p,0,none⟩), .int .i64 (i:Int), .int .u8 (x.toNat:Int)] w fun e w'=>e= .returned (.tuple #[])/\∃V,Ht F G w p (H.dset i (V,agS (H.ds.getD i acB).2 ((aaL H.blks i).size-16) x)) w':=by
 obtain⟨Vb,Vd,gl,cs,hmm⟩:=h.hm;obtain⟨b1,c1,rfl,_,hnc1,_⟩:=agO hmm.ob (by omega);obtain⟨b2,c2,rfl,_,hnc2,_⟩:=agO hmm.od (by rw[hok.dl];omega);have hn512:=hok.n;have hsz:=(aae _).1 (hok.sz hi);have q1:=hmm.c1;have d1:=(hmm.at_n rfl hi).2.1;have hdl:=hok.dl;have q2:=hmm.c2;have hod:=hmm.od;obtain⟨dv,k2,k3⟩:=agQ hod (j:=i) (by omega);obtain⟨dd,hdd⟩:=nmE (H.ds.getD i acB);have hddm:dd∈H.ds/\dv=dd.1:=by
  rw[List.getElem?_map]at k3;rw[List.getD_eq_getElem?_getD]at hdd
  cases h':H.ds[i]? with
  | none=>rw[h']at k3;cases k3
  | some y=>
   rw[h']at k3 hdd;injection k3 with k3;have hdd:y=dd:=hdd;subst hdd;exact⟨List.mem_of_getElem? h',k3.symm⟩
 obtain⟨hddm,rfl⟩:=hddm;rw[hdd];have hdat:=h.dat dd hddm;obtain⟨V,D⟩:=dd;dsimp only at hdat k2 ⊢;have hrd:∃A c,V= .slice A D.length c/\∀k u,D[k]?=some u->∃b,A=some ⟨b,0,none⟩/\b<w.heap.size/\w.cell? ⟨b,k,none⟩=some (.int .u8 (u.toNat:Int)):=by
  rcases hdat with⟨rfl,rfl⟩ | ⟨b,c,rfl,hg,ho⟩
  · exact⟨none,0,rfl,fun k u hu=>by simp at hu⟩
  · refine⟨some ⟨b,0,none⟩,c,rfl,fun k u hu=>⟨b,rfl,h.gl b hg,?_⟩⟩;have hk:=ada hu;have h1:=ho.cellAt k (by omega);rw[List.getElem?_map,hu]at h1;exact h1
 obtain⟨A,c,rfl,hcell⟩:=hrd;obtain⟨xs,hxs⟩:=nmE ((aaL H.blks i).size);rw[hxs]at d1 hsz ⊢;obtain⟨n,hn⟩:=nmE (xs-16);have hn1:(xs:Int)-16=(n:Int):=by omega
 rw[hn];obtain⟨dl,hdlen⟩:=nmE D.length;rw[hdlen]at k2;obtain⟨R,hR⟩:=nmE (agS D n x);have hRl:R.length=n:=by rw[<-hR];exact aoC _ _ _
 have hRa:∀k,k<n->R[k]?=some (D.getD k x):=fun k hk=>by rw[<-hR];exact aqt _ _ _ _ hk
 rw[hR];have hn16:16<=n:=by omega
 have hnle:n<=16384:=by omega
 have hplt:=hmm.lt;have hb2l:b2<w.heap.size:=aek hod rfl;obtain⟨m,hm⟩:=nmE H.blks.length;rw[hdl,hm]at q2;rw[hm]at q1;have him:(i:Int)<(m:Int):=by omega
 have HH:=hE0 h;have HM:=hE0 hmm;have HRL:=hE0 hRl;have HRA:=hE0 hRa;have HCE:=hE0 hcell;have HDL:=hE0 hdlen;obtain⟨B5,hB5⟩:=nmE w.heap.size;have HB5:=hE0 hB5;have HCS:Hid (∀W,Below B5 w W->W.cell? ⟨p,2,none⟩=some (.slice (some ⟨b2,0,none⟩) m c2)/\W.cell? ⟨b2,i,none⟩=some (.slice A dl c)):=fun W h'=>⟨(h'.cell (p:=⟨p,_,none⟩) (by rw[<-hB5];exact hplt)).trans q2,(h'.cell (p:=⟨b2,_,none⟩) (by rw[<-hB5];exact hb2l)).trans k2⟩;clear h hmm hok hdat hddm hdd hod k3 hcell hRl hRa hR hB5 hxs hn hm hdlen hdl hsz hnc1 q2 k2;go_enter Tryz.func104,Tryz.ntmps104
 go_wp2
 go_loopw [7,8] (fun q i wr=>∃k:Nat,i= .int .i64 (k:Int)/\k<=n/\wr.ownsRow B5 5 1 q k ((R.take k).map bv)/\Below B5 w wr) (fun _ i _=>n-(intOf i).toNat)
 case atStart=>exact⟨0,rfl,Nat.zero_le _,by rw[List.take_zero];exact World.ownsRow_nil _ _ _ _,Below.refl _ _⟩
 case round=>
  obtain⟨k,rfl,hk,hown,hb9⟩:=hrel;obtain⟨A9,c9,rfl⟩:=aa4 hown;have hBw:B5<=wr.heap.size:=by have:=hb9.size;have:=HB5.out;omega
  obtain⟨e1,e2⟩:=HCS.out wr hb9;by_cases hlt:k<n
  · have hki:(k:Int)<(n:Int):=by omega
    have hra:=HRA.out k hlt;have hnx:=aoI hra;obtain⟨u,hu⟩:=nmE (D.getD k x);rw[hu]at hnx;obtain⟨w6,hw6⟩:=nmE (wr.alloc (.cells #[.int .u8 (u.toNat:Int)] 5));have b6:=abE hw6;have f6:Fill w6 wr.heap.size 5 [u]:=by rw[<-hw6];exact heap_alloc_new wr _
    have own6:=aa6 hown b6;have RD:=hE0 f6.reads;have h6B:B5<=w6.heap.size:=Nat.le_trans hBw b6.size;have OWN6:=hE0 own6;have HB6:=hE0 (hb9.trans (b6.mono hBw));have HW6:=hE0 hw6;have HNX:=hE0 hnx;by_cases hkd:k<dl
    · have hkd2:(k:Int)<(dl:Int):=by omega
      have hDk:D[k]?=some u:=by
       rw[List.getD_eq_getElem?_getD,List.getElem?_eq_getElem (by rw[HDL.out];exact hkd)]at hu;rw[List.getElem?_eq_getElem (by rw[HDL.out];exact hkd)];exact congrArg some hu
      obtain⟨b,rfl,hbw,hce⟩:=HCE.out k u hDk;have e3:=(hb9.cell (p:=⟨b,k,none⟩) (by rw[<-HB5.out];exact hbw)).trans hce;clear hown hb9 hra hnx hu hw6 b6 f6 own6 hDk hce;go_wp2_with (first
       | (rw[HW6.out])
       | (at_builtin;go_must (refine aaj rfl _ _ 37 5 rfl Tryz.underlying37 ac8 B5 _ k (R.take k) rfl OWN6.out _ (some ⟨wr.heap.size,0,none⟩) 1 1 [u] rfl RD.out (fun e=>by cases e) (by omega) h6B ?_);intro x7 w7 own7 hb7 gr7
          have HB7:Hid (Below B5 w w7):=HB6.out.trans hb7;have OWN7:=hE0 own7;clear own7 gr7 hb7)
       | fail)
      go_roundw
      case rel=>exact⟨k+1,by go_num,by omega,by rw[HNX.out];exact OWN7.out,HB7.out⟩
      case measure=>simp only[intOf];omega
    · have hkd2:(dl:Int)<=(k:Int):=by omega
      have hux:u=x:=by
       rw[List.getD_eq_getElem?_getD,List.getElem?_eq_none (by rw[HDL.out];omega)]at hu;exact hu.symm
      subst hux;clear hown hb9 hra hnx hu hw6 b6 f6 own6;go_wp2_with (first
       | (rw[HW6.out])
       | (at_builtin;go_must (refine aaj rfl _ _ 37 5 rfl Tryz.underlying37 ac8 B5 _ k (R.take k) rfl OWN6.out _ (some ⟨wr.heap.size,0,none⟩) 1 1 [u] rfl RD.out (fun e=>by cases e) (by omega) h6B ?_);intro x7 w7 own7 hb7 gr7
          have HB7:Hid (Below B5 w w7):=HB6.out.trans hb7;have OWN7:=hE0 own7;clear own7 gr7 hb7)
       | fail)
      go_roundw
      case rel=>exact⟨k+1,by go_num,by omega,by rw[HNX.out];exact OWN7.out,HB7.out⟩
      case measure=>simp only[intOf];omega
  · obtain rfl:n=k:=by omega
    rw[List.take_of_length_le (Nat.le_of_eq HRL.out)]at hown;obtain⟨b9,c9',hV,_⟩:=agO (acg hown (Nat.zero_le _)) (by omega);injection hV with e3 _ e5;subst e3 e5;have hbel:Below w.heap.size w wr:=by rw[HB5.out];exact hb9
    have hown':=acg hown (Nat.zero_le _);have hto:=HH.out.dset (i:=i) (b:=b9) (c:=c9) hbel.size R (by rw[HB5.out];exact(hown.lt b9 rfl).1) (by rw[HRL.out];exact hown') hbel _ _ _ _ (HM.out.below hbel) b2 c2 rfl;rw[HRL.out]at hto;have HTO:=hE0 hto;have f2:=alE (HM.out.below hbel).od i;clear hown hb9 hbel hown' hto;go_wp2
    go_end0
    exact⟨rfl,_,HTO.out⟩
end
def att (F G:Nat->Prop) (w:World) (p:Nat) (r:(Nat × Int) × Hp) (e:Ending) (w':World):Prop:=
 e= .returned (.tuple #[.int .u64 (r.1.1:Int), .int .i64 r.1.2])/\∃H',Ht F G w p H' w'/\H'.str=r.2.str
section
variable {F G:Nat->Prop} {w w':World} {p:Nat} {H:Hp}
theorem Ht.more{F1 G1:Nat->Prop}{w1 w2:World}{H2:Hp}(t:Tch (fun k=>F k\/G k) w w1) (f:∀k,F1 k\/G1 k->(F k\/G k)\/w.heap.size<=k) (k:Ht F1 G1 w1 p H2 w2):Ht F G w p H2 w2:=by
 obtain⟨F2,G2,h2,t2,f2⟩:=k;refine⟨F2,G2,h2,t.trans t2 (fun i hi hk=> ?_),fun k hk=> ?_⟩
 · rcases f i hk with h' | h'
   · exact h'
   · omega
 · rcases f2 k hk with h' | h'
   · exact f k h'
   · exact .inr (Nat.le_trans t.size h')
theorem Ht.up{F1:Nat->Prop}{w1 w2:World}{H2:Hp}(t1:Tch F w w1) (f1:∀k,F1 k->F k\/w.heap.size<=k) (k:Ht F1 G w1 p H2 w2):Ht F G w p H2 w2:=by
 refine Ht.more (F1:=F1) (G1:=G) ⟨t1.os,t1.tape,t1.output,t1.size,fun k hk hn=>t1.block k hk (fun hf=>hn (.inl hf))⟩ (fun k hk=> ?_) k;rcases hk with hk | hk
 · rcases f1 k hk with h' | h'
   · exact .inl (.inl h')
   · exact .inr h'
 · exact .inl (.inr hk)
theorem asa (h:Hd F G w p H) (hok:H.Ok) (hc16:H.cap<=16384) (n:Nat) (hn:n<18446744073709551616) (x:UInt8) (hT:∀s:Nat,ab1 n=some s->Calls Tryz.prog 102 #[.pointer (some ⟨p,0,none⟩), .int .i64 (s:Int)] w fun e w'=>e= .returned (.tuple #[.int .i64 (((H.take s).1.getD 0:Nat):Int), .int .i64 (asJ (H.take s).1)])/\HT F w p (H.take s).2 w')
 (hat:∀s o,ab1 n=some s->(H.take s).1=some o->∃i,atB (o:Int) (H.take s).2.blks=some i):
 Calls Tryz.prog 48 #[.pointer (some ⟨p,0,none⟩), .int .u64 (n:Int), .int .u8 (x.toNat:Int)] w fun e w'=>att F G w p (H.get n x) e w':=by
 have HND:=hE0 (fun W=>ano (w:=W) n hn)
 cases hs:ab1 n with
 | none=>
  have e:H.get n x=((0,5),H):=by unfold Hp.get;rw[hs]
  have HE:=hE0 e;have HS:=hE0 hs;have H0:Hid (Ht F G w p H w):=Ht.of h (Below.refl _ _);clear h hok hT hat e hs hn;go_enter Tryz.func48,Tryz.ntmps48
  go_wp2_with fail
  refine(HND.out _).mono ?_;rintro e w2 ⟨rfl,rfl⟩;rw[HS.out];dsimp only[ah1];go_wp2
  go_ret2
  exact⟨by rw[HE.out];rfl,H,H0.out,by rw[HE.out]⟩
 | some s=>
  have hsz:=agT hs;have hss:=(aae _).1 hsz;have HTK:=hE0 (hT s hs);clear hT;have HS:=hE0 hs
  cases ht:(H.take s).1 with
  | none=>
   have e:H.get n x=((0,5),H):=by unfold Hp.get;rw[hs];dsimp only;rw[ht]
   have HE:=hE0 e;have HTN:=hE0 ht;have H0:=hE0 h;clear h hok hat e hs hn ht hsz hss;go_enter Tryz.func48,Tryz.ntmps48
   go_wp2_with fail
   refine(HND.out _).mono ?_;rintro e w2 ⟨rfl,rfl⟩;rw[HS.out];dsimp only[ah1];go_wp2_with fail
   refine HTK.out.mono ?_;rintro e w3 ⟨rfl,ht⟩;rw[ajF HTN.out]at ht;rw[HTN.out];dsimp only[asJ,Option.isSome,Option.getD];have hto:=H0.out.ht ht (fun d hd=> .inl hd) H0.out.sep;have HTO:=hE0 hto;clear ht hto HTK H0;go_wp2
   go_ret2
   exact⟨by rw[HE.out];rfl,H,HTO.out,by rw[HE.out]⟩
  | some o=>
   obtain⟨i,hi⟩:=hat s o hs ht;have hok1:=hok.take hc16 hsz;obtain⟨hib,hio⟩:=ajd hi;have ho16:o<=16384:=by
    have h1:=(aau _ _ _ (hok1.at_ hib).2.2).1;have h2:=hok1.le;omega
   have e:H.get n x=((o+8,0),((H.take s).2.wipe i).fill i x):=by unfold Hp.get;rw[hs];dsimp only;rw[ht];dsimp only;rw[hi]
   have hds:=ar3 (H:=H) (s:=s);have hn1:=hok1.n;obtain⟨H1,hH1⟩:=nmE ((H.take s).2);rw[hH1]at e hds hok1 hi hib hn1;have HE:=hE0 e;have HTN:=hE0 ht;have H0:=hE0 h;have HH1:=hE0 hH1;have HDS:=hE0 hds;have HOK1:=hE0 hok1;have HI:=hE0 hi;have HIB:=hE0 hib;have hi512:i<512:=by omega
   clear h hok hat e hs hn ht hsz hss hds hok1 hH1 hi hio hib;go_enter Tryz.func48,Tryz.ntmps48
   go_wp2_with fail
   refine(HND.out _).mono ?_;rintro e w2 ⟨rfl,rfl⟩;rw[HS.out];dsimp only[ah1];go_wp2_with fail
   refine HTK.out.mono ?_;rintro e w3 ⟨rfl,ht⟩;rw[HH1.out]at ht;rw[HTN.out];dsimp only[asJ,Option.isSome,Option.getD];obtain⟨F1,h1,t1,f1⟩:=H0.out.turn ht HDS.out.1 (HDS.out.2 H0.out.sep);obtain⟨Vb1,Vd1,gl1,cs1,hm1⟩:=h1.hm;have HAT:=hE0 (aoz hm1 (by omega) (o:Int) (by omega) _ HI.out);obtain⟨b2,c2,rfl,_,hnc2,_⟩:=agO hm1.od (by rw[HOK1.out.dl];have:=HIB.out;omega);have hdl:=HOK1.out.dl;obtain⟨m,hm⟩:=nmE H1.blks.length;have k2:=hm1.c2;rw[hdl,hm]at k2;have hod:=hm1.od;obtain⟨_,k4,_⟩:=agQ hod (j:=i) (by rw[hdl];exact HIB.out);have f2:=alE hod i;have hw:=hm1.wipeM (i:=i) rfl;obtain⟨w4,hw4⟩:=nmE (w3.setCell ⟨b2,i,none⟩ (.slice none 0 0));rw[hw4]at hw;have ht4:HT F1 w3 p (H1.wipe i) w4:=⟨F1,⟨_,_,_,_,hw⟩,by rw[<-hw4];exact Tch.set w3 ⟨b2,i,none⟩ _ (hm1.fd b2 rfl),fun _ hk=> .inl hk⟩;have hds4:DsS H1.ds (H1.wipe i).ds:=DsS.setNil _ _;obtain⟨F4,h4,t4,f4⟩:=h1.turn ht4 hds4.1 (hds4.2 h1.sep);have HFU:=hE0 (aoJ h4 (HOK1.out.wipe (i:=i)) i HIB.out x);have hmi:(i:Int)<(m:Int):=by have:=HIB.out;omega
   have T1:=hE0 t1;have F1':=hE0 f1;have T4:=hE0 t4;have F4':=hE0 f4;have HW4:=hE0 hw4;clear h1 hm1 hod hw ht4 hds4 h4 ht hdl hm hw4 t1 f1 t4 f4 HTK;go_wp2_with fail
   refine HAT.out.mono ?_;rintro e w5 ⟨rfl,rfl⟩;dsimp only[ixV];go_wp2_with (first | (rw[HW4.out]) | fail)
   refine HFU.out.mono ?_;rintro e w6 ⟨rfl,V,ht⟩;have hto:=Ht.up T1.out F1'.out (Ht.up T4.out F4'.out ht);have HTO:=hE0 hto;clear ht hto HFU HAT k2 k4 f2;go_wp2
   go_ret2
   exact⟨by rw[HE.out];rfl,_,HTO.out,by rw[HE.out];dsimp only;rw[alG,aqv]⟩
end
structure PH (w:World) (q g base cap:Nat) (A:Option Addr) (c:Nat) (bs:List UInt8) (H:Hp):Prop where
 obj:w.heap[q]?=some (.cells #[.pointer (some ⟨g,0,none⟩)] 93 (0,0))
 ar:Ar w 160 g base cap A c bs
 rd:RtD bs H
 cp:H.cap=cap
 c16:cap<=16384
 b62:base<=4611686018427387904
section
variable {w w':World} {q g base cap c:Nat} {A:Option Addr} {bs out:List UInt8} {H H':Hp}
theorem PH.lt (h:PH w q g base cap A c bs H):q<w.heap.size:=aan h.obj
theorem PH.c0 (h:PH w q g base cap A c bs H):w.cell? ⟨q,0,none⟩=some (.pointer (some ⟨g,0,none⟩)):=by rw[cell_of_row w q 0 _ _ (0,0) h.obj];rfl
theorem PH.ap (h:PH w q g base cap A c bs H):¬foot g A q:=by
 rintro(rfl | ⟨a,ea,rfl⟩)
 · have h1:=h.ar.obj;rw[h.obj]at h1;injection h1 with h1;injection h1 with _ h2 _;exact absurd h2 (by decide)
 · obtain⟨h',e,cur,hg,_⟩:=h.ar.row ea;subst e;rw[h.obj]at hg;injection hg with hg;injection hg with _ h2 _;exact absurd h2 (by decide)
theorem PH.below (h:PH w q g base cap A c bs H) (hb:Below w.heap.size w w'):PH w' q g base cap A c bs H:=
 ⟨(hb.block q h.lt).trans h.obj,h.ar.below hb,h.rd,h.cp,h.c16,h.b62⟩
theorem PH.len (h:PH w q g base cap A c bs H):bs.length<=16384:=(h.rd.rt.bound (by rw[h.cp];exact h.c16)).1
theorem PH.became (h:PH w q g base cap A c bs H) (hb:Became 160 g base cap A out w w') (rd:RtD out H') (hc:H'.cap=cap):
 ∃A' c',PH w' q g base cap A' c' out H'/\Tch (foot g A) w w'/\(A'=A\/∀a,A'=some a->w.heap.size<=a.block):=by
 obtain⟨A',c',a,t,k⟩:=hb;exact⟨A',c',⟨(t.block q h.lt h.ap).trans h.obj,a,rd,hc,h.c16,h.b62⟩,t,k⟩
theorem aeL (w:World) (o:Int) (s:Nat) (u:Bool) (h1:16<=s) (h2:s<=16384):
 Calls Tryz.prog 92 #[.agg #[.int .i64 o, .int .i64 (s:Int), .bool u]] w fun e w'=>e= .returned (.int .u64 ((s-16:Nat):Int))/\Below w.heap.size w w':=by
 have e:((s-16:Nat):Int)=(s:Int)-16:=by omega
 rw[e];have ew:IntKind.u64.wrap ((s:Int)-16)=(s:Int)-16:=IntWalk.u64_in _ (by omega);clear e;go_enter Tryz.func92,Tryz.ntmps92
 go_wp2
 go_ret
 exact⟨rfl,(Below.refl _ _).alloc (Nat.le_refl _) _⟩
theorem aoK (h:PH w q g base cap A c bs H){p:Nat}(p8:8<=p) (pl:p<=bs.length):H.handleB p=aeA H.blks ((p:Int)-8):=by
 have:=h.len;unfold Hp.handleB;rw[if_neg (by omega)]
theorem amT (h:PH w q g base cap A c bs H){p:Nat}(pl:bs.length<p):H.handleB p=none:=by
 unfold Hp.handleB;split
 · rfl
 · refine ajC fun i x hx hh=> ?_;have:=(h.rd.rt.bound (by rw[h.cp];exact h.c16)).2 x (List.mem_of_getElem? hx);omega
theorem aoL (h:PH w q g base cap A c bs H) (p:Nat) (hp:p<18446744073709551616):
 Calls Tryz.prog 91 #[.pointer (some ⟨q,0,none⟩), .int .u64 (p:Int)] w fun e w'=>e= .returned (.tuple #[bkV ((H.handleB p).map (aaL H.blks)),abm (H.handleB p).isSome 4])/\Below w.heap.size w w':=by
 obtain⟨w1,hw1⟩:=nmE (w.alloc (.cells #[.int .i64 0, .int .i64 0, .bool false] 132));have hb1:=abE hw1;have n1:=anE hw1;have h1:=h.below hb1;have hl:=h.len;obtain⟨⟨c0,c1,c2⟩,f0,f1,f2⟩:=aar n1;have hlt1:=aav n1;have HW1:=hE0 hw1;have HB1:=hE0 hb1;have HN1:=hE0 n1;have k0:=h1.c0;have HL:=hE0 (adz h1.ar);by_cases p8:p<8
 · have e:H.handleB p=none:=by unfold Hp.handleB;rw[if_pos (.inl p8)]
   rw[e];dsimp only[bkV,abm,Option.map,Option.isSome];have g1:decide ((p:Int)<8)=true:=decide_eq_true (by omega);clear e h h1 hw1 hb1 n1 k0 HL;go_enter Tryz.func91,Tryz.ntmps91
   go_wp2_with (first | (rw[HW1.out]) | fail)
   (try simp only[Exit.inBlock,Exit.then])
   refine acn (x:= .iface 90 (.int .i64 4)) (g:=w.heap.size) (o:=0) (s:=0) (b:=false) Tryz.results91 ?_ ?_ ?_ (ab2 HN1.out _ _ _) ?_
   · rfl
   · rfl
   · rfl
   · exact⟨rfl,((HB1.out.setCell (Nat.le_refl _) _).setCell (Nat.le_refl _) _).setCell (Nat.le_refl _) _⟩
 · have g1:decide ((p:Int)<8)=false:=decide_eq_false (by omega);obtain⟨n,hn⟩:=nmE bs.length;rw[hn]at HL hl;by_cases pl:n<p
   · have e:=amT h (p:=p) (by omega);rw[e];dsimp only[bkV,abm,Option.map,Option.isSome];have g2:decide ((n:Int)<(p:Int))=true:=decide_eq_true (by omega);clear e h h1 hw1 hb1 n1;go_enter Tryz.func91,Tryz.ntmps91
     go_wp2_with (first | (rw[HW1.out]) | fail)
     refine HL.out.mono ?_;rintro e w2 ⟨rfl,rfl⟩;go_wp2
     (try simp only[Exit.inBlock,Exit.then])
     refine acn (x:= .iface 90 (.int .i64 4)) (g:=w.heap.size) (o:=0) (s:=0) (b:=false) Tryz.results91 ?_ ?_ ?_ (ab2 HN1.out _ _ _) ?_
     · rfl
     · rfl
     · rfl
     · exact⟨rfl,((HB1.out.setCell (Nat.le_refl _) _).setCell (Nat.le_refl _) _).setCell (Nat.le_refl _) _⟩
   · have g2:decide ((n:Int)<(p:Int))=false:=decide_eq_false (by omega);have e:=aoK h (p:=p) (by omega) (by omega);rw[e];obtain⟨pz,hpz⟩:∃pz:Int,(p:Int)-8=pz:=⟨_,rfl⟩;have hU:=atr w1 g base cap c A bs H pz h1.ar h.b62 h.c16 h.cp h.rd.rt (by omega);rw[hpz];have ewp:IntKind.i64.wrap pz=pz:=IntWalk.i64_in _ (by omega)
     cases hi:aeA H.blks pz with
     | none=>
      rw[hi]at hU;dsimp only[ab4,bkV,abm,Option.map,Option.isSome]at hU ⊢;have HU:=hE0 hU;clear e h h1 hw1 hb1 n1 hU hi;go_enter Tryz.func91,Tryz.ntmps91
      go_wp2_with (first | (rw[HW1.out]) | fail)
      refine HL.out.mono ?_;rintro e w2 ⟨rfl,rfl⟩;go_wp2_with fail
      refine HU.out.mono ?_;rintro e w2 ⟨rfl,hb2⟩;have n2:=(hb2.block w.heap.size (aan HN1.out)).trans HN1.out;have n3:(w2.alloc (.cells #[.int .i64 0, .int .i64 0, .bool false] 132)).heap[w.heap.size]?=some (.cells #[.int .i64 0, .int .i64 0, .bool false] 132 (0,0)):=(heap_alloc_old _ _ (aan n2)).trans n2;have hb12:=HB1.out.trans (hb2.mono HB1.out.size);have hb3:Below w.heap.size w (w2.alloc (.cells #[.int .i64 0, .int .i64 0, .bool false] 132)):=hb12.alloc hb12.size _;clear c0 c1 c2 f0 f1 f2 hlt1 k0;obtain⟨⟨c0,c1,c2⟩,f0,f1,f2⟩:=aar n3;have hlt3:=aav n3;have HB3:=hE0 hb3;have HN3:=hE0 n3;clear hb3 n3 n2 hb12 hb2 HU HL HN1 HB1 HW1;go_wp2
      (try simp only[Exit.inBlock,Exit.then])
      refine acn (x:= .iface 90 (.int .i64 4)) (g:=w.heap.size) (o:=0) (s:=0) (b:=false) Tryz.results91 ?_ ?_ ?_ (ab2 HN3.out _ _ _) ?_
      · rfl
      · rfl
      · rfl
      · exact⟨rfl,((HB3.out.setCell (Nat.le_refl _) _).setCell (Nat.le_refl _) _).setCell (Nat.le_refl _) _⟩
     | some i=>
      rw[hi]at hU;obtain⟨x,hx⟩:=nmE (aaL H.blks i);dsimp only[ab4,Option.map]at hU ⊢;rw[hx]at hU ⊢;obtain⟨xo,xs,xu⟩:=x;dsimp only[bkV,Bk.val,abm,Option.isSome]at hU ⊢;have HU:=hE0 hU;clear e h h1 hw1 hb1 n1 hU hi hx;go_enter Tryz.func91,Tryz.ntmps91
      go_wp2_with (first | (rw[HW1.out]) | fail)
      refine HL.out.mono ?_;rintro e w2 ⟨rfl,rfl⟩;go_wp2_with fail
      refine HU.out.mono ?_;rintro e w2 ⟨rfl,hb2⟩;have n2:=(hb2.block w.heap.size (aan HN1.out)).trans HN1.out;obtain⟨w3,hw3⟩:=nmE (w2.alloc (.cells #[.int .i64 (xo:Int), .int .i64 (xs:Int), .bool xu] 132));have n3:w3.heap[w.heap.size]?=some (.cells #[.int .i64 0, .int .i64 0, .bool false] 132 (0,0)):=by rw[<-hw3];exact(heap_alloc_old _ _ (aan n2)).trans n2
      have m3:=anE hw3;have hb12:=HB1.out.trans (hb2.mono HB1.out.size);have hb3:Below w.heap.size w w3:=by rw[<-hw3];exact hb12.alloc hb12.size _
      have HNEQ:=hE0 (show w2.heap.size≠w.heap.size from fun e=>by have:=aan n2;omega);clear c0 c1 c2 f0 f1 f2 hlt1 k0;obtain⟨⟨c0,c1,c2⟩,f0,f1,f2⟩:=aar n3;obtain⟨⟨d0,d1,d2⟩,_⟩:=aar m3;have hlt3:=aav n3;have hlt4:=aav m3;have HW3:=hE0 hw3;have HB3:=hE0 hb3;have HN3:=hE0 n3;clear hw3 hb3 n3 n2 hb12 hb2 HU HL HN1 HB1 HW1 m3;go_wp2_with (first | (rw[HW3.out]) | fail)
      (try simp only[Exit.inBlock,Exit.then])
      refine acn (x:= .nilIface) (g:=w.heap.size) (o:=(xo:Int)) (s:=(xs:Int)) (b:=xu) Tryz.results91 ?_ ?_ ?_ (ab2 HN3.out _ _ _) ?_
      · rfl
      · rfl
      · rfl
      · exact⟨rfl,((HB3.out.setCell (Nat.le_refl _) _).setCell (Nat.le_refl _) _).setCell (Nat.le_refl _) _⟩
end
section
variable {w w':World} {q g base cap c:Nat} {A:Option Addr} {bs out:List UInt8} {H H':Hp}
theorem PH.blk (h:PH w q g base cap A c bs H){p i:Nat}(hh:H.handleB p=some i):
 ∃xo xs,aaL H.blks i=⟨xo,xs,true⟩/\p=xo+8/\184<=xo/\32<=xs/\xo+xs<=bs.length/\i<H.blks.length/\H.At i ⟨xo,xs,true⟩ (H.ds.getD i acB)/\(H.ds.getD i acB).2.length+16=xs/\xs<=16384/\aeA H.blks (xo:Int)=some i:=by
 obtain⟨p8,_,hu⟩:=akI hh;obtain⟨h1,h2,h3⟩:=ar7 hu;have hb:=(h.rd.rt.bound (by rw[h.cp];exact h.c16)).2 _ (List.mem_of_getElem? (acc h1));have hl:=h.len;have hdl:H.ds.length=H.blks.length:=h.rd.dl;have hat:H.At i (aaL H.blks i) (H.ds.getD i acB):=⟨acc h1,by rw[List.getD_eq_getElem?_getD,List.getElem?_eq_getElem (by omega)];rfl⟩;have hd:=(h.rd.ho i _ _ hat h3).1;obtain⟨x,hx⟩:=nmE (aaL H.blks i);rw[hx]at h2 h3 hb hat hd ⊢;obtain⟨xo,xs,xu⟩:=x;dsimp only at h2 h3 hb hat hd;subst h3;have hxo:(p:Int)-8=(xo:Int):=by omega
 rw[hxo]at hu;exact⟨xo,xs,rfl,by omega,by omega,by omega,by omega,h1,hat,hd,by omega,hu⟩
theorem as5 (ho:w.heap[q]?=some (.cells #[.pointer (some ⟨g,0,none⟩)] 93 (0,0))) (ha:Ar w 160 g base cap A c bs) (hbase:base<=4611686018427387904) (hl:bs.length<=16384) (o s f p:Nat) (v:UInt8){u:Bool}(hg:abV bs (o:Int)=some ⟨o,s,u⟩) (hs:16<=s) (hos:o+s<=bs.length) (hf:s-16<=f) (hp:o+8=p):
 Calls Tryz.prog 97 #[.pointer (some ⟨q,0,none⟩), .int .i64 (o:Int), .int .u64 (f:Int), .int .u8 (v.toNat:Int)] w fun e w'=>e= .returned (.int .u64 (p:Int))/\Below w.heap.size w w':=by
 have hG:=aq5 w g base cap c A bs (o:Int) _ ha hbase hl (by omega) hg;dsimp only[ab4,bkV,Bk.val,abm,Option.isSome]at hG;have HUS:=hE0 (fun W=>aeL W (o:Int) s u (by omega) (by omega));obtain⟨L,hL⟩:=nmE (s-16);rw[hL]at HUS hf;have g1:decide (f<L)=false:=decide_eq_false (by omega);have ep:(o:Int)+8=(p:Int):=by omega
 have hp14:p<=16384:=by omega
 have ho14:o<=16384:=by omega
 have k0:w.cell? ⟨q,0,none⟩=some (.pointer (some ⟨g,0,none⟩)):=by rw[cell_of_row w q 0 _ _ (0,0) ho];rfl
 have hlq:=aav ho;have HG:=hE0 hG;clear hG hg ha ho hL hf hp hos hs;go_enter Tryz.func97,Tryz.ntmps97
 go_wp2_with fail
 refine HG.out.mono ?_;rintro e w2 ⟨rfl,hb⟩;obtain⟨w3,hw3⟩:=nmE (w2.alloc (.cells #[.int .i64 (o:Int), .int .i64 (s:Int), .bool u] 132));have n3:=anE hw3;have HB3:Hid (Below w.heap.size w w3):=(show Below _ _ _ by rw[<-hw3];exact hb.alloc hb.size _);obtain⟨⟨d0,d1,d2⟩,_⟩:=aar n3;have hlt3:=aav n3;have HW3:=hE0 hw3;clear hb HG hw3 n3 k0;go_wp2_with (first | (rw[HW3.out]) | fail)
 refine(HUS.out w3).mono ?_;rintro e w4 ⟨rfl,hb4⟩;have HB4:=hE0 (HB3.out.trans (hb4.mono HB3.out.size));clear hb4 d0 d1 d2 HB3 hlt3;go_wp2
 go_ret
 exact⟨rfl,HB4.out⟩
theorem aoM (ho:w.heap[q]?=some (.cells #[.pointer (some ⟨g,0,none⟩)] 93 (0,0))) (ha:Ar w 160 g base cap A c bs) (hbase:base<=4611686018427387904) (hl:bs.length<=16384) (o s f p:Nat) (v:UInt8){u:Bool}(hg:abV bs (o:Int)=some ⟨o,s,u⟩) (hs:16<=s) (hos:o+s<=bs.length) (hf:f<s-16) (hp:o+8=p):
 Calls Tryz.prog 97 #[.pointer (some ⟨q,0,none⟩), .int .i64 (o:Int), .int .u64 (f:Int), .int .u8 (v.toNat:Int)] w fun e w'=>e= .returned (.int .u64 (p:Int))/\Became 160 g base cap A (lay bs (p+f) (List.replicate (s-16-f) v)) w w':=by
 have hG:=aq5 w g base cap c A bs (o:Int) _ ha hbase hl (by omega) hg;dsimp only[ab4,bkV,Bk.val,abm,Option.isSome]at hG;have HUS:=hE0 (fun W=>aeL W (o:Int) s u (by omega) (by omega));obtain⟨L,hL⟩:=nmE (s-16);rw[hL]at HUS hf ⊢;obtain⟨m,hm⟩:=nmE (L-f);rw[hm];have g1:decide (f<L)=true:=decide_eq_true (by omega);have ep:(o:Int)+8=(p:Int):=by omega
 have hp14:p<=16384:=by omega
 have ho14:o<=16384:=by omega
 have hf14:f<=16384:=by omega
 have hL14:L<=16384:=by omega
 have em:(L:Int)-(f:Int)=(m:Int):=by omega
 have hm14:m<=16384:=by omega
 obtain⟨y,hy⟩:=nmE (base+p);obtain⟨x,hx⟩:=nmE (y+f);have ey:(base:Int)+(p:Int)=(y:Int):=by omega
 have ex:(y:Int)+(f:Int)=(x:Int):=by omega
 have hy63:y<=4611686018427404288:=by omega
 have hx63:x<=4611686018427420672:=by omega
 have HFL:=hE0 (fun W c' A' (a':Ar W 160 g base cap A' c' bs)=>anf a' (by omega) x m (p+f) v (by omega) (by omega) (by omega) (by omega));have k0:w.cell? ⟨q,0,none⟩=some (.pointer (some ⟨g,0,none⟩)):=by rw[cell_of_row w q 0 _ _ (0,0) ho];rfl
 have hlq:=aav ho;have HG:=hE0 hG;have HA:=hE0 ha;have HO:=hE0 ho;clear hG hg ha ho hL hf hp hos hs hm hy hx;go_enter Tryz.func97,Tryz.ntmps97
 go_wp2_with fail
 refine HG.out.mono ?_;rintro e w2 ⟨rfl,hb⟩;obtain⟨w3,hw3⟩:=nmE (w2.alloc (.cells #[.int .i64 (o:Int), .int .i64 (s:Int), .bool u] 132));have n3:=anE hw3;have HB3:Hid (Below w.heap.size w w3):=(show Below _ _ _ by rw[<-hw3];exact hb.alloc hb.size _);obtain⟨⟨d0,d1,d2⟩,_⟩:=aar n3;have hlt3:=aav n3;have HW3:=hE0 hw3;clear hb HG hw3 n3 k0;go_wp2_with (first | (rw[HW3.out]) | fail)
 refine(HUS.out w3).mono ?_;rintro e w4 ⟨rfl,hb4⟩;have hb4':=HB3.out.trans (hb4.mono HB3.out.size);obtain⟨wd,hwd⟩:=nmE w4.drew;have hbd:Below w.heap.size w wd:=by rw[<-hwd];exact hb4'.drew
 have had:=HA.out.below hbd;have k0:wd.cell? ⟨q,0,none⟩=some (.pointer (some ⟨g,0,none⟩)):=by rw[cell_of_row wd q 0 _ _ (0,0) ((hbd.block q (aan HO.out)).trans HO.out)];rfl
 have hlq4:q<wd.heap.size:=Nat.lt_of_lt_of_le (aan HO.out) hbd.size;have HBS:=hE0 (ac7 had);have HF4:=hE0 (HFL.out wd c A had);have HBD:=hE0 hbd;have HWD:=hE0 hwd;clear hb4 d0 d1 d2 HB3 hlt3 hb4' had hbd hwd HA HO HFL;go_wp2_with fail
 refine aad wd.heap.size [([0,1,2,3,4,5,6,7,9,11,13,14,15,16],8)] [10,12] [17] (by kernel_rfl) (by kernel_rfl) (by kernel_rfl) (fun _ _ _ _ _ h=>h) ?_;rw[HWD.out];have q0:=tfE k0 hlq4;refine tail_cons (l:= ?seg1) ?hseg1 ?_
 case hseg1=>simp only[pick,lE1,lE2,lE3];rfl
 repeat (go_big_quiet_step (fail))
 refine wpQuiet_nil ?_;clear q0 k0;refine aaf (vs:= #[.pointer (some ⟨g,0,none⟩)]) Tryz.call76 rfl rfl rfl (R:=fun r w'=>r= .int .u64 (base:Int)/\w'=wd) (HBS.out.mono ?_) wd.heap.size (Nat.le_refl _) ?_
 · rintro e w' ⟨rfl,rfl⟩;exact⟨_,rfl,Below.refl _ _,rfl,rfl⟩
 rintro r w5 _ ⟨rfl,rfl⟩;refine aam (l:= ?la2) (t:= ?tl2) ?hla2 ?htl2 ?_
 case hla2=>simp only[pick,lE1,lE2,lE3];rfl
 case htl2=>simp only[pick,lE1,lE2,lE3];rfl
 simp only[Act.put,lE4,lE5,lE6];repeat (go_big_quiet_step (fail))
 refine wpQuiet_nil ?_;clear HBS;go_wp2_with fail
 refine HF4.out.mono ?_;rintro e w6 ⟨rfl,hbe⟩;have HE:=hE0 (hbe.after HBD.out);clear hbe HF4;go_wp2
 go_ret
 exact⟨rfl,HE.out⟩
end
def asT (k:Int):Value:=if k=0 then .nilIface else .iface 90 (.int .i64 k)
def PTurn (g base cap:Nat) (A:Option Addr) (H':Hp) (w w':World):Prop:=∃out,Became 160 g base cap A out w w'/\RtD out H'
def akL (g base cap:Nat) (A:Option Addr) (r:(Nat × Int) × Hp) (w:World) (e:Ending) (w':World):Prop:=
 e= .returned (.tuple #[.int .u64 (r.1.1:Int),asT r.1.2])/\PTurn g base cap A r.2 w w'
section
variable {w w':World} {q g base cap c:Nat} {A:Option Addr} {bs out:List UInt8} {H H':Hp}
theorem PH.stay (h:PH w q g base cap A c bs H) (hb:Below w.heap.size w w'):PTurn g base cap A H w w':=⟨bs,aej h.ar hb,h.rd⟩
theorem PTurn.ph (h:PH w q g base cap A c bs H) (ht:PTurn g base cap A H' w w') (hc:H'.cap=cap):∃A' c' out,PH w' q g base cap A' c' out H'/\Tch (foot g A) w w'/\(A'=A\/∀a,A'=some a->w.heap.size<=a.block):=by
 obtain⟨out,hb,hr⟩:=ht;obtain⟨A',c',h1,h2,h3⟩:=h.became hb hr hc;exact⟨A',c',out,h1,h2,h3⟩
theorem asU{H:Hp}(h:Rt bs H) (hc:H.cap<=16384){y:Bk}(hy:y∈H.blks):abV bs (y.off:Int)=some y:=(h.md hc).ls.st.at_ _ hy
theorem aqG{n:Nat}{x:UInt8}(hs:ab1 n=none):H.get n x=((0,5),H):=by unfold Hp.get;rw[hs]
theorem aqH{n s:Nat}{x:UInt8}(hs:ab1 n=some s) (ht:(H.take s).1=none):H.get n x=((0,5),H):=by unfold Hp.get;rw[hs];dsimp only;rw[ht]
theorem aiH{n s o i:Nat}{x:UInt8}(hs:ab1 n=some s) (ht:(H.take s).1=some o) (hi:atB (o:Int) (H.take s).2.blks=some i):H.get n x=((o+8,0),((H.take s).2.wipe i).fill i x):=by unfold Hp.get;rw[hs];dsimp only;rw[ht];dsimp only;rw[hi]
theorem aqI (h:PH w q g base cap A c bs H) (n:Nat) (hn:n<18446744073709551616) (v:UInt8) (hT:∀s w1,ab1 n=some s->Below w.heap.size w w1->Calls Tryz.prog 148 #[.pointer (some ⟨g,0,none⟩), .int .i64 (s:Int)] w1 fun e w'=>afe g base cap A bs H (H.take s) w1 e w')
 (hG:∀s o out,ab1 n=some s->(H.take s).1=some o->Rt out (H.take s).2->atD H bs (H.take s).2 out->∃i y,atB (o:Int) (H.take s).2.blks=some i/\(H.take s).2.blks[i]?=some y/\y.off=o/\y.used=true/\s<=y.size/\y.off+y.size<=out.length/\RtD (lay out (o+8) (List.replicate (y.size-16) v)) (((H.take s).2.wipe i).fill i v)):
 Calls Tryz.prog 90 #[.pointer (some ⟨q,0,none⟩), .int .u64 (n:Int), .int .u8 (v.toNat:Int)] w fun e w'=>akL g base cap A (H.get n v) w e w':=by
 have hN:=as8 w n hn
 cases hs:ab1 n with
 | none=>
  rw[hs]at hN;dsimp only[ah1]at hN;have HN:=hE0 hN;have HG:=hE0 (aqG (H:=H) (x:=v) hs);have H0:=hE0 h;clear h hN hs hT hG;go_enter Tryz.func90,Tryz.ntmps90
  go_wp2_with fail
  refine HN.out.mono ?_;rintro e w2 ⟨rfl,hb⟩;have HT:=hE0 (H0.out.stay hb);clear hb HN H0;go_wp2
  go_ret2
  rw[HG.out];exact⟨rfl,HT.out⟩
 | some s=>
  have hsz:=agT hs;have hss:=(aae _).1 hsz;rw[hs]at hN;dsimp only[ah1]at hN;have HN:=hE0 hN;have hK:∀w1,Below w.heap.size w w1->Calls Tryz.prog 148 #[.pointer (some ⟨g,0,none⟩), .int .i64 (s:Int)] w1 fun e w'=>afe g base cap A bs H (H.take s) w1 e w':=fun w1 hb=>hT s w1 hs hb;clear hT
  cases ht:(H.take s).1 with
  | none=>
   unfold afe at hK;rw[ht]at hK;dsimp only[abm]at hK;have HK:=hE0 hK;have HG:=hE0 (aqH (H:=H) (x:=v) hs ht);have H0:=hE0 h;have k0:∀w1,Below w.heap.size w w1->w1.cell? ⟨q,0,none⟩=some (.pointer (some ⟨g,0,none⟩)):=fun w1 hb=>(h.below hb).c0;have K0:=hE0 k0;have hlq:=h.lt;clear h hN hs hK ht k0 hsz hG;go_enter Tryz.func90,Tryz.ntmps90
   go_wp2_with fail
   refine HN.out.mono ?_;rintro e w2 ⟨rfl,hb⟩;have k2:=K0.out w2 hb;have hlq2:=Nat.lt_of_lt_of_le hlq hb.size;have HK2:=hE0 (HK.out w2 hb);have HB2:=hE0 hb;clear hb HN HK K0;go_wp2_with fail
   refine HK2.out.mono ?_;rintro e w3 ⟨rfl,hb3⟩;have HT:=hE0 (H0.out.stay (HB2.out.trans (hb3.mono HB2.out.size)));clear hb3 H0 HB2 HK2 k2;go_wp2
   go_ret2
   rw[HG.out];exact⟨rfl,HT.out⟩
  | some o=>
   unfold afe at hK;rw[ht]at hK;dsimp only[abm]at hK;have hcap2:(H.take s).2.cap=cap:=take_cap.trans h.cp;have hGOT:=fun out h1 hh=>hG s o out hs ht h1 hh;have HGS:=hE0 (fun i hi=>aiH (H:=H) (x:=v) (i:=i) hs ht hi);obtain⟨H1,hH1⟩:=nmE ((H.take s).2);rw[hH1]at hK hGOT hcap2 HGS;have HGOT:=hE0 hGOT;have HK:=hE0 hK;have H0:=hE0 h;have k0:∀w1,Below w.heap.size w w1->w1.cell? ⟨q,0,none⟩=some (.pointer (some ⟨g,0,none⟩)):=fun w1 hb=>(h.below hb).c0;have K0:=hE0 k0;have hlq:=h.lt;have HC2:=hE0 hcap2;clear h hN hs hK ht k0 hH1 hGOT hcap2 hsz hG;go_enter Tryz.func90,Tryz.ntmps90
   go_wp2_with fail
   refine HN.out.mono ?_;rintro e w2 ⟨rfl,hb⟩;have k2:=K0.out w2 hb;have hlq2:=Nat.lt_of_lt_of_le hlq hb.size;have HK2:=hE0 (HK.out w2 hb);have HB2:=hE0 hb;clear hb HN HK K0;go_wp2_with fail
   refine HK2.out.mono ?_;rintro e w3 ⟨rfl,out,hbe,hr1,hh1⟩;obtain⟨i,y,hi,hy,hyo,hyu,hys,hyl,hrd⟩:=HGOT.out out hr1 hh1;obtain⟨A3,c3,a3,t3,m3⟩:=hbe.after HB2.out;have ho3:=(t3.block q H0.out.lt H0.out.ap).trans H0.out.obj;have hout:out.length<=16384:=(hr1.bound (by rw[HC2.out];exact H0.out.c16)).1;have hgb:=asU hr1 (by rw[HC2.out];exact H0.out.c16) (List.mem_of_getElem? hy);obtain⟨yo,ys,yu⟩:=y;dsimp only at hyo hyu hys hyl hrd hgb;subst hyo;have hf:=aoM ho3 a3 H0.out.b62 hout yo ys 0 (yo+8) v hgb (by omega) (by omega) (by omega) rfl;rw[Nat.add_zero,Nat.sub_zero,show((0:Nat):Int)=0 from rfl]at hf;have HF:=hE0 hf;have HRD:=hE0 hrd;have HGI:=hE0 (HGS.out i hi);have HTR:=hE0 (fun b4 w4 (k:Became 160 g base cap A3 b4 w3 w4)=>Became.trans a3 t3 m3 k);clear hbe hr1 hh1 hi hy hyu hyl hrd a3 t3 m3 ho3 hgb hf HGOT HGS HK2 HB2 k2 hlq2;go_wp2_with fail
   refine HF.out.mono ?_;rintro e w4 ⟨rfl,hb4⟩;have HT:=hE0 (HTR.out _ _ hb4);clear hb4 HF HTR;go_wp2
   go_ret2
   rw[HGI.out];exact⟨rfl,_,HT.out,HRD.out⟩
theorem amU (n:Nat) (hK:Calls Tryz.prog 90 #[.pointer (some ⟨q,0,none⟩), .int .u64 (n:Int), .int .u8 165] w fun e w'=>akL g base cap A (H.get n 165) w e w'):
 Calls Tryz.prog 36 #[.pointer (some ⟨q,0,none⟩), .int .u64 (n:Int)] w fun e w'=>akL g base cap A (H.get n 165) w e w':=by
 have HK:=hE0 hK;clear hK;go_enter Tryz.func36,Tryz.ntmps36
 go_wp2_with fail
 refine HK.out.mono ?_;rintro e w2 ⟨rfl,ht⟩;have HT:=hE0 ht;clear ht HK;go_wp2
 go_ret2
 exact⟨rfl,HT.out⟩
end
section
end
section
variable {w w':World} {q g base cap c:Nat} {A:Option Addr} {bs out:List UInt8} {H H':Hp}
def Hp.usableP (H:Hp) (p:Nat):Nat × Int:=match H.handleB p with
 | none=>(0,4)
 | some i=>((H.ds.getD i acB).2.length,0)
theorem ajG (h:PH w q g base cap A c bs H) (p:Nat) (hp:p<18446744073709551616):
 Calls Tryz.prog 37 #[.pointer (some ⟨q,0,none⟩), .int .u64 (p:Int)] w fun e w'=>e= .returned (.tuple #[.int .u64 ((H.usableP p).1:Int),asT (H.usableP p).2])/\Below w.heap.size w w':=by
 unfold Hp.usableP;have hF:=aoL h p hp
 cases hh:H.handleB p with
 | none=>
  rw[hh]at hF;dsimp only[bkV,abm,Option.map,Option.isSome]at hF;have HF:=hE0 hF;clear h hF hh;go_enter Tryz.func37,Tryz.ntmps37
  go_wp2_with fail
  refine HF.out.mono ?_;rintro e w2 ⟨rfl,hb⟩;have HT:=hE0 (hb.alloc hb.size (.cells #[.int .i64 0, .int .i64 0, .bool false] 132));clear hb HF;go_wp2
  go_ret2
  exact⟨rfl,HT.out⟩
 | some i=>
  obtain⟨xo,xs,hbk,hpx,h184,h32,hle,hi,hat,hd,h16,hu⟩:=h.blk hh;rw[hh]at hF;dsimp only[Option.map]at hF;rw[hbk]at hF;dsimp only[bkV,Bk.val,abm,Option.isSome]at hF ⊢;have HUS:=hE0 (fun W=>aeL W (xo:Int) xs true (by omega) h16);obtain⟨L,hL⟩:=nmE ((H.ds.getD i acB).2.length);rw[hL]at hd ⊢;have eL:xs-16=L:=by omega
  rw[eL]at HUS;have hL14:L<=16384:=by omega
  have HF:=hE0 hF;clear h hF hh hbk hpx hat hd hu hi hL eL;go_enter Tryz.func37,Tryz.ntmps37
  go_wp2_with fail
  refine HF.out.mono ?_;rintro e w2 ⟨rfl,hb⟩;obtain⟨w3,hw3⟩:=nmE (w2.alloc (.cells #[.int .i64 (xo:Int), .int .i64 (xs:Int), .bool true] 132));have n3:=anE hw3;have HB3:Hid (Below w.heap.size w w3):=(show Below _ _ _ by rw[<-hw3];exact hb.alloc hb.size _);obtain⟨⟨d0,d1,d2⟩,_⟩:=aar n3;have hlt3:=aav n3;have HW3:=hE0 hw3;clear hb HF hw3 n3;go_wp2_with (first | (rw[HW3.out]) | fail)
  refine(HUS.out w3).mono ?_;rintro e w4 ⟨rfl,hb4⟩;have HB4:=hE0 (HB3.out.trans (hb4.mono HB3.out.size));clear hb4 d0 d1 d2 HB3;go_wp2
  go_ret2
  exact⟨rfl,HB4.out⟩
end
section
variable {w:World}
theorem akM (w:World):Calls Tryz.prog 47 #[.nilIface] w fun e w'=>e= .returned (.int .i64 0)/\Below w.heap.size w w':=by
 have HA:=hE0 (fun t W=>asP t W);go_enter Tryz.func47,Tryz.ntmps47
 go_wp2_with fail
 refine(HA.out _ _).mono ?_;rintro e w2 ⟨rfl,rfl⟩;go_wp2
 go_ret
 exact⟨rfl,(Below.refl _ _).alloc (Nat.le_refl _) _⟩
theorem ET.lt (h:ET w):0<w.heap.size:=by
 unfold ET at h;rcases Nat.eq_zero_or_pos w.heap.size with h0 | h1
 · simp[World.cell?,h0]at h
 · exact h1
theorem ET.keep{w':World}(h:ET w) (hb:w'.heap[0]?=w.heap[0]?):ET w':=(World.cell?_of_block (a:=⟨0,0,none⟩) hb).trans h
theorem ET.below{w':World}(h:ET w) (hb:Below w.heap.size w w'):ET w':=h.keep (hb.block 0 h.lt)
theorem akN (h:ET w) (k:Int):Calls Tryz.prog 47 #[.iface 90 (.int .i64 k)] w fun e w'=>e= .returned (.int .i64 k)/\Below w.heap.size w w':=by
 obtain⟨w1,hw1⟩:=nmE (w.alloc (.cells #[.int .i64 0] 90));have hb1:=abE hw1;have n1:=anE hw1;have c1:w1.cell? ⟨w.heap.size,0,none⟩=some (.int .i64 0):=by rw[cell_of_row w1 w.heap.size 0 _ _ (0,0) n1];rfl
 have f1:=frozen_of_row w1 w.heap.size 0 _ _ n1;have HA:=hE0 (asS k ⟨w.heap.size,0,none⟩ (.int .i64 0) w1 (h.below hb1) c1 f1);have HN1:=hE0 n1;have HW1:=hE0 hw1;have HB1:=hE0 hb1;clear h hb1 n1 c1 f1 hw1;go_enter Tryz.func47,Tryz.ntmps47
 go_wp2_with (first | (rw[HW1.out]) | fail)
 refine HA.out.mono ?_;rintro e w2 ⟨rfl,hw2⟩;have hs1:=HB1.out.size;have hlt1:=aan HN1.out;obtain⟨wa,hwa⟩:=nmE (((((w1.alloc (.cells #[.pointer (some ⟨w.heap.size,0,none⟩)] 172)).alloc (.cells #[.pointer (some ⟨1,172,none⟩), .pointer (some ⟨w1.heap.size,0,none⟩), .int .u64 150] 221)).alloc (.cells #[.pointer (some ⟨1,172,none⟩), .pointer (some ⟨w1.heap.size,0,none⟩), .int .u64 150] 221)).alloc (.cells #[.int .i64 k] 90)));have hba:Below w1.heap.size w1 wa:=by
  rw[<-hwa];have b1:=(Below.refl w1.heap.size w1).alloc (Nat.le_refl _) (.cells #[.pointer (some ⟨w.heap.size,0,none⟩)] 172);have b2:=b1.alloc b1.size (.cells #[.pointer (some ⟨1,172,none⟩), .pointer (some ⟨w1.heap.size,0,none⟩), .int .u64 150] 221);have b3:=b2.alloc b2.size (.cells #[.pointer (some ⟨1,172,none⟩), .pointer (some ⟨w1.heap.size,0,none⟩), .int .u64 150] 221);exact b3.alloc b3.size _
 rw[hwa]at hw2;have na:=(hba.block _ hlt1).trans HN1.out;have n2:w2.heap[w.heap.size]?=some (.cells #[.int .i64 k] 90 (0,0)):=by rw[hw2,heap_setCell_same wa w.heap.size 0 _ _ (.int .i64 k) na];rfl
 have c2:w2.cell? ⟨w.heap.size,0,none⟩=some (.int .i64 k):=by rw[cell_of_row w2 w.heap.size 0 _ _ (0,0) n2];rfl
 have HB2:Hid (Below w.heap.size w w2):=(show Below _ _ _ by rw[hw2];exact(HB1.out.trans (hba.mono hs1)).setCell (Nat.le_refl _) _);have hlt2:=aan n2;clear hw2 hwa hba na n2 hs1 hlt1 HA HN1 HW1 HB1;go_wp2
 go_ret
 exact⟨rfl,HB2.out⟩
end
def asV (base cap:Nat) (H:Hp) (w:World) (e:Ending) (w':World):Prop:=
 ∃q g A c bs,e= .returned (.tuple #[.pointer (some ⟨q,0,none⟩), .nilIface])/\PH w' q g base cap A c bs H/\Below w.heap.size w w'/\w.heap.size<=q/\w.heap.size<=g/\∀a,A=some a->w.heap.size<=a.block
section
variable {w w':World} {q g base cap c:Nat} {A:Option Addr} {bs out:List UInt8} {H H':Hp}
theorem aoN (w:World) (z:List UInt8) (hz:List.replicate 184 (0:UInt8)=z) (base cap:Nat) (h1:base%16=0) (h2:base<=4611686018427387904) (h3:1024<=cap) (h4:cap<=16384):
 Calls Tryz.prog 7 #[.int .u64 (base:Int), .int .i64 (cap:Int)] w fun e w'=>∃q g A c,e= .returned (.tuple #[.pointer (some ⟨q,0,none⟩), .nilIface])/\PH w' q g base cap A c z (aaX cap)/\Below w.heap.size w w'/\w.heap.size<=q/\w.heap.size<=g/\∀a,A=some a->w.heap.size<=a.block:=by
 have HZ:=hE0 (aqw hz cap (by omega));have HN:=hE0 (aj2 w base cap h1 h2 h3 h4);have hG:∀W g c A,Ar W 160 g base cap A c []->Calls Tryz.prog 40 #[.pointer (some ⟨g,0,none⟩), .int .i64 184] W fun e w'=>e= .returned .nilIface/\Became 160 g base cap A z W w':=fun W g c A ha=>by
  have:=aj3 ha 184 (by simp) h4 (by simp;omega);rw[List.nil_append,hz]at this;exact this
 have HG:=hE0 hG;clear hG hz;go_enter Tryz.func7,Tryz.ntmps7
 go_wp2_with fail
 refine HN.out.mono ?_;rintro e w2 ⟨rfl,ha,hb⟩;have HG2:=hE0 (HG.out w2 _ _ _ ha);have HB2:=hE0 hb;have HL2:=hE0 ha.lt;clear ha hb HG HN;go_wp2_with fail
 refine HG2.out.mono ?_;rintro e w3 ⟨rfl,A3,c3,a3,t3,m3⟩;have hft:∀k,foot w.heap.size none k->w.heap.size<=k:=fun k hk=>by
  rcases hk with rfl | ⟨a,e,_⟩
  · exact Nat.le_refl _
  · exact absurd e (by nofun)
 have hb3:Below w.heap.size w w3:=HB2.out.trans (t3.below hft HB2.out.size);have hA3:∀a,A3=some a->w.heap.size<=a.block:=fun a e=>by
  rcases m3 with h | h
  · rw[h]at e;cases e
  · exact Nat.le_trans HB2.out.size (h a e)
 obtain⟨w4,hw4⟩:=nmE (w3.alloc (.cells #[.pointer (some ⟨w.heap.size,0,none⟩)] 93));have hb4:=abE hw4;have n4:=anE hw4;have HF:Hid (∃q g A c,Ending.returned (.tuple #[.pointer (some ⟨w3.heap.size,0,none⟩), .nilIface])= .returned (.tuple #[.pointer (some ⟨q,0,none⟩), .nilIface])/\PH w4 q g base cap A c z (aaX cap)/\Below w.heap.size w w4/\w.heap.size<=q/\w.heap.size<=g/\∀a,A=some a->w.heap.size<=a.block):=
  ⟨_,_,A3,c3,rfl,⟨n4,a3.below hb4,HZ.out,rfl,h4,h2⟩,hb3.trans (hb4.mono hb3.size),hb3.size,Nat.le_refl _,hA3⟩
 have HW4:=hE0 hw4;clear a3 t3 m3 hft hb3 hA3 hw4 hb4 n4 HG2 HB2 HL2;go_wp2_with (first | (rw[HW4.out]) | fail)
 go_ret2
 exact HF.out
theorem aqJ (h:Ar w 160 g base cap A c bs) (hb:base<=4611686018427387904) (hc:cap<=16384) (hl:bs.length<=cap) (hk:aci bs=true):
 Calls Tryz.prog 130 #[.pointer (some ⟨g,0,none⟩)] w fun e w'=>∃H bs',asV base cap H w e w'/\RtD bs' H/\bs'=bs/\∃q g A c,e= .returned (.tuple #[.pointer (some ⟨q,0,none⟩), .nilIface])/\PH w' q g base cap A c bs H:=by
 have hC:=aow w g base cap c A bs _ h hb (by omega) hk;dsimp only[abm]at hC;obtain⟨H,hR,hcp⟩:=asN hk hl;have HC:=hE0 hC;have HCL:=hE0 (fun W (hb:Below w.heap.size w W)=>ai1 (h.below hb) (by omega));have HR:=hE0 hR;have HCP:=hE0 hcp;clear hC hR hcp h;go_enter Tryz.func130,Tryz.ntmps130
 go_wp2_with fail
 refine HC.out.mono ?_;rintro e w2 ⟨rfl,hb2⟩;have HC2:=hE0 (HCL.out w2 hb2);have HB2:=hE0 hb2;clear hb2 HC HCL;go_wp2_with fail
 refine HC2.out.mono ?_;rintro e w3 ⟨g3,A3,c3,rfl,a3,hb3,k1,k2⟩;obtain⟨w4,hw4⟩:=nmE (w3.alloc (.cells #[.pointer (some ⟨g3,0,none⟩)] 93));have hb4:=abE hw4;have n4:=anE hw4;have hb03:=HB2.out.trans (hb3.mono HB2.out.size);have hph:PH w4 w3.heap.size g3 base cap A3 c3 bs H:=⟨n4,a3.below hb4,HR.out,HCP.out,hc,hb⟩;have HF:Hid (asV base cap H w (.returned (.tuple #[.pointer (some ⟨w3.heap.size,0,none⟩), .nilIface])) w4):=
  ⟨_,_,A3,c3,bs,rfl,hph,hb03.trans (hb4.mono hb03.size),hb03.size,Nat.le_trans HB2.out.size k1,fun a e=>Nat.le_trans HB2.out.size (k2 a e)⟩
 have HPH:=hE0 hph;have HW4:=hE0 hw4;clear a3 hb3 k1 k2 hw4 hb4 n4 hb03 hph HC2 HB2;go_wp2_with (first | (rw[HW4.out]) | fail)
 go_ret2
 exact⟨H,bs,HF.out,HR.out,rfl,_,_,_,_,rfl,HPH.out⟩
theorem ahN (h:PH w q g base cap A c bs H):
 Calls Tryz.prog 29 #[.pointer (some ⟨q,0,none⟩)] w fun e w'=>aqX base cap bs w e w':=by
 have HC:=hE0 (ai1 h.ar (by have:=h.len;omega));have k0:=h.c0;have hlq:=h.lt;clear h;go_enter Tryz.func29,Tryz.ntmps29
 go_wp2_with fail
 refine HC.out.mono ?_;rintro e w2 ⟨g2,A2,c2,rfl,h2⟩;have HF:=hE0 h2;clear h2 HC k0;go_wp2
 go_ret
 exact⟨g2,A2,c2,rfl,HF.out⟩
end
def atu (r:Rp) (A:Option Addr) (c:Nat):Array Value:= #[.int .i64 r.code, .int .u64 (r.hd:Int), .int .u64 (r.n:Int), .slice A r.b.length c, .int .i64 (r.st.used:Int), .int .i64 (r.st.free:Int), .int .i64 (r.st.bytes:Int), .int .i64 (r.st.len:Int), .int .i64 (r.st.cap:Int)]
def rpV (r:Rp) (A:Option Addr) (c:Nat):Value:= .agg (atu r A c)
def rp0:Array Value:= #[.int .i64 0, .int .u64 0, .int .u64 0, .slice none 0 0, .int .i64 0, .int .i64 0, .int .i64 0, .int .i64 0, .int .i64 0]
def alI (r:Rp) (w:World) (e:Ending) (w':World):Prop:=∃A' c',e= .returned (rpV r A' c')/\w'.ownsRow w.heap.size 5 1 (.slice A' r.b.length c') r.b.length (r.b.map bv)
def ag9 (op:Int) (p n m a:Nat) (B:Option Addr) (bl k:Nat):Value:= .agg #[.int .i64 op, .int .u64 (p:Int), .int .u64 (n:Int), .int .u64 (m:Int), .int .u64 (a:Int), .slice B bl k]
section
variable {w w' w4 w5:World} {q g base cap c:Nat} {A:Option Addr} {bs out:List UInt8} {H H':Hp}
theorem abZ{x0 x1 x2 x3 x4 x5 x6 x7 x8:Value}{g:Nat}{t:TypeId}(h:w.heap[g]?=some (.cells #[x0,x1,x2,x3,x4,x5,x6,x7,x8] t (0,0))):
 (w.cell? ⟨g,0,none⟩=some x0/\w.cell? ⟨g,1,none⟩=some x1/\w.cell? ⟨g,2,none⟩=some x2/\w.cell? ⟨g,3,none⟩=some x3/\w.cell? ⟨g,4,none⟩=some x4/\w.cell? ⟨g,5,none⟩=some x5/\w.cell? ⟨g,6,none⟩=some x6/\w.cell? ⟨g,7,none⟩=some x7/\w.cell? ⟨g,8,none⟩=some x8)/\
 (w.frozen? ⟨g,0,none⟩=false/\w.frozen? ⟨g,1,none⟩=false/\w.frozen? ⟨g,2,none⟩=false/\w.frozen? ⟨g,3,none⟩=false/\w.frozen? ⟨g,4,none⟩=false/\w.frozen? ⟨g,5,none⟩=false/\w.frozen? ⟨g,6,none⟩=false/\w.frozen? ⟨g,7,none⟩=false/\w.frozen? ⟨g,8,none⟩=false):=by
 refine⟨⟨?_,?_,?_,?_,?_,?_,?_,?_,?_⟩,frozen_of_row w g 0 _ _ h,frozen_of_row w g 1 _ _ h,frozen_of_row w g 2 _ _ h,frozen_of_row w g 3 _ _ h,frozen_of_row w g 4 _ _ h,frozen_of_row w g 5 _ _ h,frozen_of_row w g 6 _ _ h,frozen_of_row w g 7 _ _ h,frozen_of_row w g 8 _ _ h⟩
 · rw[cell_of_row w g 0 _ _ (0,0) h];rfl
 · rw[cell_of_row w g 1 _ _ (0,0) h];rfl
 · rw[cell_of_row w g 2 _ _ (0,0) h];rfl
 · rw[cell_of_row w g 3 _ _ (0,0) h];rfl
 · rw[cell_of_row w g 4 _ _ (0,0) h];rfl
 · rw[cell_of_row w g 5 _ _ (0,0) h];rfl
 · rw[cell_of_row w g 6 _ _ (0,0) h];rfl
 · rw[cell_of_row w g 7 _ _ (0,0) h];rfl
 · rw[cell_of_row w g 8 _ _ (0,0) h];rfl
theorem aiI{x0 x1 x2 x3 x4 x5:Value}{g:Nat}{t:TypeId}(h:w.heap[g]?=some (.cells #[x0,x1,x2,x3,x4,x5] t (0,0))):
 w.cell? ⟨g,0,none⟩=some x0/\w.cell? ⟨g,1,none⟩=some x1/\w.cell? ⟨g,2,none⟩=some x2/\w.cell? ⟨g,3,none⟩=some x3/\w.cell? ⟨g,4,none⟩=some x4/\w.cell? ⟨g,5,none⟩=some x5:=by
 refine⟨?_,?_,?_,?_,?_,?_⟩
 · rw[cell_of_row w g 0 _ _ (0,0) h];rfl
 · rw[cell_of_row w g 1 _ _ (0,0) h];rfl
 · rw[cell_of_row w g 2 _ _ (0,0) h];rfl
 · rw[cell_of_row w g 3 _ _ (0,0) h];rfl
 · rw[cell_of_row w g 4 _ _ (0,0) h];rfl
 · rw[cell_of_row w g 5 _ _ (0,0) h];rfl
def asb (w:World) (g:Nat) (x0 x1 x2 x3 x4 x5 x6 x7 x8:Value):World:=((((((((w.setCell ⟨g,0,none⟩ x0).setCell ⟨g,1,none⟩ x1).setCell ⟨g,2,none⟩ x2).setCell ⟨g,3,none⟩ x3).setCell ⟨g,4,none⟩ x4).setCell ⟨g,5,none⟩ x5).setCell ⟨g,6,none⟩ x6).setCell ⟨g,7,none⟩ x7).setCell ⟨g,8,none⟩ x8
theorem aoO{y0 y1 y2 y3 y4 y5 y6 y7 y8:Value}{g:Nat}{t:TypeId}(h:w.heap[g]?=some (.cells #[y0,y1,y2,y3,y4,y5,y6,y7,y8] t (0,0))) (x0 x1 x2 x3 x4 x5 x6 x7 x8:Value):
 (asb w g x0 x1 x2 x3 x4 x5 x6 x7 x8).heap[g]?=some (.cells #[x0,x1,x2,x3,x4,x5,x6,x7,x8] t (0,0)):=by
 unfold asb;have h1:=heap_setCell_same _ g 0 _ _ x0 h;have h1:(_:Option Obj)=some (.cells #[x0,y1,y2,y3,y4,y5,y6,y7,y8] t (0,0)):=h1;have h2:=heap_setCell_same _ g 1 _ _ x1 h1;have h2:(_:Option Obj)=some (.cells #[x0,x1,y2,y3,y4,y5,y6,y7,y8] t (0,0)):=h2;have h3:=heap_setCell_same _ g 2 _ _ x2 h2;have h3:(_:Option Obj)=some (.cells #[x0,x1,x2,y3,y4,y5,y6,y7,y8] t (0,0)):=h3;have h4:=heap_setCell_same _ g 3 _ _ x3 h3;have h4:(_:Option Obj)=some (.cells #[x0,x1,x2,x3,y4,y5,y6,y7,y8] t (0,0)):=h4;have h5:=heap_setCell_same _ g 4 _ _ x4 h4;have h5:(_:Option Obj)=some (.cells #[x0,x1,x2,x3,x4,y5,y6,y7,y8] t (0,0)):=h5;have h6:=heap_setCell_same _ g 5 _ _ x5 h5;have h6:(_:Option Obj)=some (.cells #[x0,x1,x2,x3,x4,x5,y6,y7,y8] t (0,0)):=h6;have h7:=heap_setCell_same _ g 6 _ _ x6 h6;have h7:(_:Option Obj)=some (.cells #[x0,x1,x2,x3,x4,x5,x6,y7,y8] t (0,0)):=h7;have h8:=heap_setCell_same _ g 7 _ _ x7 h7;have h8:(_:Option Obj)=some (.cells #[x0,x1,x2,x3,x4,x5,x6,x7,y8] t (0,0)):=h8;have h9:=heap_setCell_same _ g 8 _ _ x8 h8;have h9:(_:Option Obj)=some (.cells #[x0,x1,x2,x3,x4,x5,x6,x7,x8] t (0,0)):=h9;exact h9
theorem aiJ (w:World) (g:Nat) (x0 x1 x2 x3 x4 x5 x6 x7 x8:Value):Tch (fun k=>k=g) w (asb w g x0 x1 x2 x3 x4 x5 x6 x7 x8):=by
 unfold asb;have t:∀(W:World) (i:Nat) (x:Value),Tch (fun k=>k=g) w W->Tch (fun k=>k=g) w (W.setCell ⟨g,i,none⟩ x):=fun W i x h=>h.trans (Tch.set (S:=fun k=>k=g) W ⟨g,i,none⟩ x rfl) (fun _ _ h=>h);exact t _ _ _ (t _ _ _ (t _ _ _ (t _ _ _ (t _ _ _ (t _ _ _ (t _ _ _ (t _ _ _ (t _ _ _ (Tch.refl _ _)))))))))
theorem akO{fn:Func}{R:Ending->World->Prop}{a:Act}{w:World}{p:Tmp}{g:Nat}{x0 x1 x2 x3 x4 x5 x6 x7 x8:Value}(hres:fn.results= #[.cell p 50]) (hp:a.tmps.getD p undef= .pointer (some ⟨g,0,none⟩)) (hd:a.defers= [])
 (hg:w.heap[g]?=some (.cells #[x0,x1,x2,x3,x4,x5,x6,x7,x8] 50 (0,0))) (hR:R (.returned (.agg #[x0,x1,x2,x3,x4,x5,x6,x7,x8])) w):bodyPost Tryz.prog fn R .ret a w:=by
 refine bodyPost_ret (v:= .agg #[x0,x1,x2,x3,x4,x5,x6,x7,x8]) ?_ hd hR;exact results_cell_row hres _ _ g _ _ _ _ hp hg rfl rfl rfl
theorem aoP (h:Ar w 160 g base cap A c bs){k:Nat}{cs:Array Value}(hk:w.heap[k]?=some (.cells cs 50 (0,0))):¬foot g A k:=by
 rintro(rfl | ⟨a,ea,rfl⟩)
 · have h1:=h.obj;rw[hk]at h1;injection h1 with h1;injection h1 with _ h2 _;exact absurd h2 (by decide)
 · obtain⟨h',e,cur,hg,_⟩:=h.row ea;subst e;rw[hk]at hg;injection hg with hg;injection hg with _ h2 _;exact absurd h2 (by decide)
theorem PTurn.near{S:Nat->Prop}(h:PTurn g base cap A H' w w4) (ht:Tch S w4 w5) (hS:∀k,S k->w.heap.size<=k/\∃cs,w4.heap[k]?=some (.cells cs 50 (0,0))):PTurn g base cap A H' w w5:=by
 obtain⟨out,⟨A4,c4,a4,t4,m4⟩,rd⟩:=h;refine⟨out,⟨A4,c4,a4.tch ht (fun k hk hs=> ?_),t4.trans ht (fun i hi hs=> ?_),m4⟩,rd⟩
 · obtain⟨_,cs,hcs⟩:=hS k hs;exact aoP a4 hcs hk
 · have:=(hS i hs).1;omega
theorem PTurn.after{w1:World}(h:PTurn g base cap A H' w1 w4) (hb:Below w.heap.size w w1):PTurn g base cap A H' w w4:=by
 obtain⟨out,hbe,hr⟩:=h;exact⟨out,hbe.after hb,hr⟩
theorem PTurn.tch (h:PTurn g base cap A H' w w4):Tch (foot g A) w w4:=by
 obtain⟨_,⟨_,_,_,t,_⟩,_⟩:=h;exact t
theorem PTurn.ends{b4 b5:Nat}(h:PTurn g base cap A H' w w4) (m4:w4.heap[b4]?=some (.cells rp0 50 (0,0))) (m5:w4.heap[b5]?=some (.cells rp0 50 (0,0))) (l4:w.heap.size<=b4) (l5:w.heap.size<=b5) (ht:Tch (fun k=>k=b4\/k=b5) w4 w5):PTurn g base cap A H' w w5:=
 h.near ht (by
  rintro k (rfl | rfl)
  · exact⟨l4,_,m4⟩
  · exact⟨l5,_,m5⟩)
structure Do3 (w w3:World) (b3 b4 b5:Nat) (cs:Array Value):Prop where
 bel:Below w.heap.size w w3
 n3:w3.heap[b3]?=some (.cells cs 43 (0,0))
 n4:w3.heap[b4]?=some (.cells rp0 50 (0,0))
 n5:w3.heap[b5]?=some (.cells rp0 50 (0,0))
 l3:w.heap.size<=b3
 l4:w.heap.size<=b4
 l5:w.heap.size<=b5
 ne:b4≠b5
theorem Do3.made (w:World) (cs:Array Value):Do3 w (((w.alloc (.cells cs 43)).alloc (.cells rp0 50)).alloc (.cells rp0 50)) w.heap.size (w.alloc (.cells cs 43)).heap.size ((w.alloc (.cells cs 43)).alloc (.cells rp0 50)).heap.size cs:=by
 obtain⟨w1,hw1⟩:=nmE (w.alloc (.cells cs 43));have b1:=abE hw1;have n1:=anE hw1;rw[hw1];obtain⟨w2,hw2⟩:=nmE (w1.alloc (.cells rp0 50));have b2:=abE hw2;have n2:=anE hw2;rw[hw2];have n12:=(b2.block _ (aan n1)).trans n1;obtain⟨w3,hw3⟩:=nmE (w2.alloc (.cells rp0 50));have b3:=abE hw3;have n3:=anE hw3;rw[hw3];have l12:=aan n2;exact⟨b1.trans ((b2.mono b1.size).trans (b3.mono (Nat.le_trans b1.size b2.size))),(b3.block _ (aan n12)).trans n12,(b3.block _ l12).trans n2,n3,Nat.le_refl _,b1.size,Nat.le_trans b1.size b2.size,by omega⟩
theorem atv (p n m a:Nat) (b:List UInt8):H.doC 0 p n m a b=(Rp.err 1,H):=by
 unfold Hp.doC;rw[if_neg (by decide),if_neg (by decide),if_neg (by decide),if_neg (by decide),if_neg (by decide),if_neg (by decide)]
theorem atw (p n m a:Nat) (b:List UInt8):H.doC 1 p n m a b=ar4 (H.get n 165):=by unfold Hp.doC;rw[if_pos rfl]
end
theorem atQ{w:World}{q g base cap c:Nat}{A:Option Addr}{bs:List UInt8}{H:Hp}(h:PH w q g base cap A c bs H) (hE:ET w) (h0:¬foot g A 0) (p n m a bl k:Nat) (B:Option Addr) (b:List UInt8):
 Calls Tryz.prog 14 #[.pointer (some ⟨q,0,none⟩),ag9 0 p n m a B bl k] w fun e w'=>alI (H.doC 0 p n m a b).1 w e w'/\PTurn g base cap A (H.doC 0 p n m a b).2 w w':=by
 rw[atv];unfold ag9;have hd:=Do3.made w #[.int .i64 0, .int .u64 (p:Int), .int .u64 (n:Int), .int .u64 (m:Int), .int .u64 (a:Int), .slice B bl k];obtain⟨w1,hw1⟩:=nmE (w.alloc (.cells #[.int .i64 0, .int .u64 (p:Int), .int .u64 (n:Int), .int .u64 (m:Int), .int .u64 (a:Int), .slice B bl k] 43));rw[hw1]at hd;obtain⟨w2,hw2⟩:=nmE (w1.alloc (.cells rp0 50));rw[hw2]at hd;obtain⟨w3,hw3⟩:=nmE (w2.alloc (.cells rp0 50));rw[hw3]at hd;unfold rp0 at hw2 hw3;obtain⟨z0,z1,z2,z3,z4,z5⟩:=aiI hd.n3;have hz:=aav hd.n3;have h3:=h.below hd.bel;have hk:∀k,w.heap.size<=k->¬foot g A k:=fun k hk hf=>by have:=h.ar.foot_lt hf;omega
 have HD:=hE0 hd;have HH:=hE0 h;have HK:=hE0 hk;have HW1:=hE0 hw1;have HW2:=hE0 hw2;have HW3:=hE0 hw3;have HE:=hE0 hE;have H00:=hE0 h0;clear h hd h3 hE hk hw1 hw2 hw3 h0;go_enter Tryz.func14,Tryz.ntmps14
 have T4:PTurn g base cap A H w w3:=HH.out.stay HD.out.bel;have E4:ET w3:=HE.out.keep (T4.tch.block 0 HE.out.lt H00.out);have t34:Tch (foot g A) w3 w3:=Tch.refl _ _;have m4:=(t34.block _ (aan HD.out.n4) (HK.out _ HD.out.l4)).trans HD.out.n4;have m5:=(t34.block _ (aan HD.out.n5) (HK.out _ HD.out.l5)).trans HD.out.n5;obtain⟨⟨y0,y1,y2,y3,y4,y5,y6,y7,y8⟩,f0,f1,f2,f3,f4,f5,f6,f7,f8⟩:=abZ m5;have hy:=aav m5;have n5:w3.heap[w2.heap.size]?=some (.cells #[.int .i64 0, .int .u64 0, .int .u64 0, .slice none 0 0, .int .i64 0, .int .i64 0, .int .i64 0, .int .i64 0, .int .i64 0] 50 (0,0)):=m5;have t5:Tch (fun k=>k=w2.heap.size) w3 w3:=Tch.refl _ _;have E5:ET w3:=E4.keep (t5.block 0 E4.lt (fun e=>by
  have e:0=w2.heap.size:=e;have h1:=HD.out.l5;have h2:=HE.out.lt;omega))
 have m5':w3.heap[w1.heap.size]?=some (.cells rp0 50 (0,0)):=(t5.block _ (aan m4) HD.out.ne).trans m4;have HNM:=hE0 (akN E5 1);have HT5:=hE0 t5;have HN5:=hE0 n5;have HM5:=hE0 m5';have HM4:=hE0 m4;have HM45:=hE0 m5;have HT4:=hE0 T4;clear E4 E5 m4 m5 m5' n5 t5 T4;go_wp2_with (first | (rw[HW1.out]) | (rw[HW2.out]) | (rw[HW3.out]) | fail)
 refine HNM.out.mono ?_;rintro e w6 ⟨rfl,hb6⟩;have n6:=(hb6.block _ (aan HN5.out)).trans HN5.out;have m6:=(hb6.block _ (aan HM5.out)).trans HM5.out;obtain⟨w7,hw7⟩:=nmE (w6.setCell ⟨w2.heap.size,0,none⟩ (.int .i64 1));have n7:w7.heap[w2.heap.size]?=some (.cells #[.int .i64 1, .int .u64 0, .int .u64 0, .slice none 0 0, .int .i64 0, .int .i64 0, .int .i64 0, .int .i64 0, .int .i64 0] 50 (0,0)):=by rw[<-hw7];exact heap_setCell_same w6 w2.heap.size 0 _ _ _ n6
 have m7:w7.heap[w1.heap.size]?=some (.cells rp0 50 (0,0)):=by rw[<-hw7];exact(Below.heap_setCell w6 ⟨w2.heap.size,0,none⟩ _ w1.heap.size HD.out.ne).trans m6
 have t7:Tch (fun k=>k=w2.heap.size) w6 w7:=by rw[<-hw7];exact Tch.set (S:=fun k=>k=w2.heap.size) w6 ⟨w2.heap.size,0,none⟩ _ rfl
 have tf:Tch (fun k=>k=w1.heap.size\/k=w2.heap.size) w3 (asb w7 w1.heap.size (.int .i64 1) (.int .u64 0) (.int .u64 0) (.slice none 0 0) (.int .i64 0) (.int .i64 0) (.int .i64 0) (.int .i64 0) (.int .i64 0)):=
  (((((Tch.refl (fun k=>k=w1.heap.size\/k=w2.heap.size) w3).trans HT5.out (fun _ _ e=> .inr e)).trans (Tch.of_below (S:=fun _=>False) hb6) (fun _ _ h=>h.elim)).trans t7 (fun _ _ e=> .inr e)).trans (aiJ w7 w1.heap.size (.int .i64 1) (.int .u64 0) (.int .u64 0) (.slice none 0 0) (.int .i64 0) (.int .i64 0) (.int .i64 0) (.int .i64 0) (.int .i64 0)) (fun _ _ e=> .inl e))
 have TF:=hE0 tf;have MF:=hE0 (aoO m7 (.int .i64 1) (.int .u64 0) (.int .u64 0) (.slice none 0 0) (.int .i64 0) (.int .i64 0) (.int .i64 0) (.int .i64 0) (.int .i64 0));clear y0 y1 y2 y3 y4 y5 y6 y7 y8 f0 f1 f2 f3 f4 f5 f6 f7 f8 hy;obtain⟨⟨y0,y1,y2,y3,y4,y5,y6,y7,y8⟩,f0,f1,f2,f3,f4,f5,f6,f7,f8⟩:=abZ n6;have hy6:=aav n6;have HW7:=hE0 hw7;obtain⟨⟨u0,u1,u2,u3,u4,u5,u6,u7,u8⟩,_⟩:=abZ n7;have hy7:=aav n7;obtain⟨⟨v0,v1,v2,v3,v4,v5,v6,v7,v8⟩,e0,e1,e2,e3,e4,e5,e6,e7,e8⟩:=abZ m7;have hm7:=aav m7;clear hb6 n6 m6 hw7 n7 m7 t7 tf HNM HT5 HN5 HM5;go_wp2_with (first | (rw[HW7.out]) | fail)
 (try simp only[Exit.inBlock,Exit.then])
 refine akO (g:=w1.heap.size) Tryz.results14 ?_ ?_ MF.out ?_
 · rfl
 · rfl
 · exact⟨⟨none,0,rfl,World.ownsRow_nil _ _ _ _⟩,HT4.out.ends HM4.out HM45.out HD.out.l4 HD.out.l5 TF.out⟩
theorem aqK{w:World}{q g base cap c:Nat}{A:Option Addr}{bs:List UInt8}{H:Hp}(h:PH w q g base cap A c bs H) (hE:ET w) (h0:¬foot g A 0) (p n m a bl k:Nat) (B:Option Addr) (b:List UInt8) (hM:∀w3,Below w.heap.size w w3->Calls Tryz.prog 36 #[.pointer (some ⟨q,0,none⟩), .int .u64 (n:Int)] w3 fun e w'=>akL g base cap A (H.get n 165) w3 e w') (hN:∀W,ET W->Calls Tryz.prog 47 #[asT (H.get n 165).1.2] W fun e w'=>e= .returned (.int .i64 (H.get n 165).1.2)/\Below W.heap.size W w'):
 Calls Tryz.prog 14 #[.pointer (some ⟨q,0,none⟩),ag9 1 p n m a B bl k] w fun e w'=>alI (H.doC 1 p n m a b).1 w e w'/\PTurn g base cap A (H.doC 1 p n m a b).2 w w':=by
 rw[atw];unfold ag9;have hd:=Do3.made w #[.int .i64 1, .int .u64 (p:Int), .int .u64 (n:Int), .int .u64 (m:Int), .int .u64 (a:Int), .slice B bl k];obtain⟨w1,hw1⟩:=nmE (w.alloc (.cells #[.int .i64 1, .int .u64 (p:Int), .int .u64 (n:Int), .int .u64 (m:Int), .int .u64 (a:Int), .slice B bl k] 43));rw[hw1]at hd;obtain⟨w2,hw2⟩:=nmE (w1.alloc (.cells rp0 50));rw[hw2]at hd;obtain⟨w3,hw3⟩:=nmE (w2.alloc (.cells rp0 50));rw[hw3]at hd;unfold rp0 at hw2 hw3;obtain⟨z0,z1,z2,z3,z4,z5⟩:=aiI hd.n3;have hz:=aav hd.n3;have hk:∀k,w.heap.size<=k->¬foot g A k:=fun k hk hf=>by have:=h.ar.foot_lt hf;omega
 have hO:=hM w3 hd.bel;obtain⟨r,hr⟩:=nmE (H.get n 165);rw[hr]at hO hN ⊢;obtain⟨⟨rh,rk⟩,H'⟩:=r;dsimp only[akL]at hO;dsimp only[ar4];dsimp only at hN;have HO:=hE0 hO;have HNM:=hE0 hN;have HD:=hE0 hd;have HH:=hE0 h;have HK:=hE0 hk;have HW1:=hE0 hw1;have HW2:=hE0 hw2;have HW3:=hE0 hw3;have HE:=hE0 hE;have H00:=hE0 h0;clear h hd hM hN hE hk hw1 hw2 hw3 h0 hO hr;go_enter Tryz.func14,Tryz.ntmps14
 go_wp2_with (first | (rw[HW1.out]) | (rw[HW2.out]) | (rw[HW3.out]) | fail)
 refine HO.out.mono ?_;rintro e w4 ⟨rfl,ht⟩;have T4:PTurn g base cap A H' w w4:=ht.after HD.out.bel;have E4:ET w4:=HE.out.keep (T4.tch.block 0 HE.out.lt H00.out);have t34:Tch (foot g A) w3 w4:=ht.tch;have m4:=(t34.block _ (aan HD.out.n4) (HK.out _ HD.out.l4)).trans HD.out.n4;have m5:=(t34.block _ (aan HD.out.n5) (HK.out _ HD.out.l5)).trans HD.out.n5;obtain⟨⟨y0,y1,y2,y3,y4,y5,y6,y7,y8⟩,f0,f1,f2,f3,f4,f5,f6,f7,f8⟩:=abZ m5;have hy:=aav m5;clear z0 z1 z2 z3 z4 z5 hz HO t34;obtain⟨w5,hw5⟩:=nmE (w4.setCell ⟨w2.heap.size,1,none⟩ (.int .u64 (rh:Int)));have n5:w5.heap[w2.heap.size]?=some (.cells #[.int .i64 0, .int .u64 (rh:Int), .int .u64 0, .slice none 0 0, .int .i64 0, .int .i64 0, .int .i64 0, .int .i64 0, .int .i64 0] 50 (0,0)):=by rw[<-hw5];exact heap_setCell_same w4 w2.heap.size 1 _ _ _ m5
 have t5:Tch (fun k=>k=w2.heap.size) w4 w5:=by rw[<-hw5];exact Tch.set (S:=fun k=>k=w2.heap.size) w4 ⟨w2.heap.size,1,none⟩ _ rfl
 have HW5:=hE0 hw5;clear hw5;have E5:ET w5:=E4.keep (t5.block 0 E4.lt (fun e=>by
  have e:0=w2.heap.size:=e;have h1:=HD.out.l5;have h2:=HE.out.lt;omega))
 have m5':w5.heap[w1.heap.size]?=some (.cells rp0 50 (0,0)):=(t5.block _ (aan m4) HD.out.ne).trans m4;have HNM:=hE0 (HNM.out _ E5);have HT5:=hE0 t5;have HN5:=hE0 n5;have HM5:=hE0 m5';have HM4:=hE0 m4;have HM45:=hE0 m5;have HT4:=hE0 T4;clear E4 E5 m4 m5 m5' n5 t5 T4;go_wp2_with (first | (rw[HW5.out]) | fail)
 refine HNM.out.mono ?_;rintro e w6 ⟨rfl,hb6⟩;have n6:=(hb6.block _ (aan HN5.out)).trans HN5.out;have m6:=(hb6.block _ (aan HM5.out)).trans HM5.out;obtain⟨w7,hw7⟩:=nmE (w6.setCell ⟨w2.heap.size,0,none⟩ (.int .i64 rk));have n7:w7.heap[w2.heap.size]?=some (.cells #[.int .i64 rk, .int .u64 (rh:Int), .int .u64 0, .slice none 0 0, .int .i64 0, .int .i64 0, .int .i64 0, .int .i64 0, .int .i64 0] 50 (0,0)):=by rw[<-hw7];exact heap_setCell_same w6 w2.heap.size 0 _ _ _ n6
 have m7:w7.heap[w1.heap.size]?=some (.cells rp0 50 (0,0)):=by rw[<-hw7];exact(Below.heap_setCell w6 ⟨w2.heap.size,0,none⟩ _ w1.heap.size HD.out.ne).trans m6
 have t7:Tch (fun k=>k=w2.heap.size) w6 w7:=by rw[<-hw7];exact Tch.set (S:=fun k=>k=w2.heap.size) w6 ⟨w2.heap.size,0,none⟩ _ rfl
 have tf:Tch (fun k=>k=w1.heap.size\/k=w2.heap.size) w4 (asb w7 w1.heap.size (.int .i64 rk) (.int .u64 (rh:Int)) (.int .u64 0) (.slice none 0 0) (.int .i64 0) (.int .i64 0) (.int .i64 0) (.int .i64 0) (.int .i64 0)):=
  (((((Tch.refl (fun k=>k=w1.heap.size\/k=w2.heap.size) w4).trans HT5.out (fun _ _ e=> .inr e)).trans (Tch.of_below (S:=fun _=>False) hb6) (fun _ _ h=>h.elim)).trans t7 (fun _ _ e=> .inr e)).trans (aiJ w7 w1.heap.size (.int .i64 rk) (.int .u64 (rh:Int)) (.int .u64 0) (.slice none 0 0) (.int .i64 0) (.int .i64 0) (.int .i64 0) (.int .i64 0) (.int .i64 0)) (fun _ _ e=> .inl e))
 have TF:=hE0 tf;have MF:=hE0 (aoO m7 (.int .i64 rk) (.int .u64 (rh:Int)) (.int .u64 0) (.slice none 0 0) (.int .i64 0) (.int .i64 0) (.int .i64 0) (.int .i64 0) (.int .i64 0));clear y0 y1 y2 y3 y4 y5 y6 y7 y8 f0 f1 f2 f3 f4 f5 f6 f7 f8 hy;obtain⟨⟨y0,y1,y2,y3,y4,y5,y6,y7,y8⟩,f0,f1,f2,f3,f4,f5,f6,f7,f8⟩:=abZ n6;have hy6:=aav n6;have HW7:=hE0 hw7;obtain⟨⟨u0,u1,u2,u3,u4,u5,u6,u7,u8⟩,_⟩:=abZ n7;have hy7:=aav n7;obtain⟨⟨v0,v1,v2,v3,v4,v5,v6,v7,v8⟩,e0,e1,e2,e3,e4,e5,e6,e7,e8⟩:=abZ m7;have hm7:=aav m7;clear hb6 n6 m6 hw7 n7 m7 t7 tf HNM HT5 HN5 HM5;go_wp2_with (first | (rw[HW7.out]) | fail)
 (try simp only[Exit.inBlock,Exit.then])
 refine akO (g:=w1.heap.size) Tryz.results14 ?_ ?_ MF.out ?_
 · rfl
 · rfl
 · exact⟨⟨none,0,rfl,World.ownsRow_nil _ _ _ _⟩,HT4.out.ends HM4.out HM45.out HD.out.l4 HD.out.l5 TF.out⟩
section
variable {F G:Nat->Prop} {w w':World} {p:Nat} {H:Hp}
theorem Hd.at_i (h:Hd F G w p H) (hok:H.Ok){i:Nat}(hi:i<H.blks.length):∃b2 c2 A c,w.cell? ⟨p,2,none⟩=some (.slice (some ⟨b2,0,none⟩) H.blks.length c2)/\p<w.heap.size/\b2<w.heap.size/\H.blks.length<=c2/\w.cell? ⟨b2,i,none⟩=some (.slice A (H.ds.getD i acB).2.length c)/\
 (H.ds.getD i acB).1= .slice A (H.ds.getD i acB).2.length c/\H.ds.getD i acB∈H.ds/\(A=none->(H.ds.getD i acB).2= []/\c=0)/\(∀x,A=some x->∃b,x=⟨b,0,none⟩/\G b/\b<w.heap.size/\w.ownsRow 0 5 1 (.slice A (H.ds.getD i acB).2.length c) (H.ds.getD i acB).2.length ((H.ds.getD i acB).2.map bv)):=by
 obtain⟨Vb,Vd,gl,cs,hmm⟩:=h.hm;obtain⟨b2,c2,rfl,_,hnc2,_⟩:=agO hmm.od (by rw[hok.dl];omega);have q2:=hmm.c2;have hod:=hmm.od;have hb2l:b2<w.heap.size:=aek hod rfl;have hdl:=hok.dl;obtain⟨dv,k2,k3⟩:=agQ hod (j:=i) (by omega);obtain⟨dd,hdd⟩:=nmE (H.ds.getD i acB);have hddm:dd∈H.ds/\dv=dd.1:=by
  rw[List.getElem?_map]at k3;rw[List.getD_eq_getElem?_getD]at hdd
  cases h':H.ds[i]? with
  | none=>rw[h']at k3;cases k3
  | some y=>
   rw[h']at k3 hdd;injection k3 with k3;have hdd:y=dd:=hdd;subst hdd;exact⟨List.mem_of_getElem? h',k3.symm⟩
 obtain⟨hddm,rfl⟩:=hddm;rw[hdd];have hdat:=h.dat dd hddm;obtain⟨V,D⟩:=dd;dsimp only at hdat k2 ⊢;rw[hdl]at q2 hnc2;rcases hdat with⟨rfl,rfl⟩ | ⟨b,c,rfl,hg,ho⟩
 · exact⟨b2,c2,none,0,q2,hmm.lt,hb2l,hnc2,k2,rfl,hddm,fun _=>⟨rfl,rfl⟩,(fun x hx=>by cases hx)⟩
 · exact⟨b2,c2,some ⟨b,0,none⟩,c,q2,hmm.lt,hb2l,hnc2,k2,rfl,hddm,(fun e=>by cases e),(fun x hx=>⟨b,(Option.some.inj hx).symm,hg,h.gl b hg,ho⟩)⟩
def arc (F G:Nat->Prop) (w:World) (p:Nat) (r:Rp × Hp) (e:Ending) (w':World):Prop:=alI r.1 w e w'/\∃H',Ht F G w p H' w'/\H'.str=r.2.str
end
theorem Ht.ends{F G:Nat->Prop}{w w3 w4 w5:World}{p b4 b5:Nat}{H0 H':Hp}(h0:Hd F G w p H0) (hb:Below w.heap.size w w3) (h:Ht F G w3 p H' w4) (ht:Tch (fun k=>k=b4\/k=b5) w4 w5) (l4:w.heap.size<=b4) (l5:w.heap.size<=b5) (u4:b4<w3.heap.size) (u5:b5<w3.heap.size):Ht F G w p H' w5:=by
 obtain⟨F',G',hd,t,f⟩:=h;have no:∀k,F' k\/G' k->¬(k=b4\/k=b5):=fun k hk e=>by
  have hs:w.heap.size<=k/\k<w3.heap.size:=by
   rcases e with rfl | rfl
   · exact⟨l4,u4⟩
   · exact⟨l5,u5⟩
  rcases f k hk with h' | h'
  · rcases h' with h' | h'
    · have:=h0.fl k h';omega
    · have:=h0.gl k h';omega
  · omega
 refine⟨F',G',hd.tch ht (fun k hk=>no k (.inl hk)) (fun k hk=>no k (.inr hk)),((Tch.of_below (S:=fun k=>F k\/G k) hb).trans t (fun _ _ h=>h)).trans ht (fun k hk e=> ?_),fun k hk=> ?_⟩
 · rcases e with rfl | rfl<;>omega
 · rcases f k hk with h' | h'
   · exact .inl h'
   · exact .inr (Nat.le_trans hb.size h')
theorem atx{F G:Nat->Prop}{w:World}{p:Nat}{H:Hp}(h:Hd F G w p H) (q n m a bl k:Nat) (B:Option Addr) (r:(Nat × Int) × Hp) (hc:∀W,Below w.heap.size w W->Calls Tryz.prog 48 #[.pointer (some ⟨p,0,none⟩), .int .u64 (n:Int), .int .u8 165] W fun e w'=>att F G W p r e w'):
 Calls Tryz.prog 16 #[.pointer (some ⟨p,0,none⟩),ag9 1 q n m a B bl k] w fun e w'=>arc F G w p (ar4 r) e w':=by
 unfold ag9;have hd:=Do3.made w #[.int .i64 1, .int .u64 (q:Int), .int .u64 (n:Int), .int .u64 (m:Int), .int .u64 (a:Int), .slice B bl k];obtain⟨w1,hw1⟩:=nmE (w.alloc (.cells #[.int .i64 1, .int .u64 (q:Int), .int .u64 (n:Int), .int .u64 (m:Int), .int .u64 (a:Int), .slice B bl k] 43));rw[hw1]at hd;obtain⟨w2,hw2⟩:=nmE (w1.alloc (.cells rp0 50));rw[hw2]at hd;obtain⟨w3,hw3⟩:=nmE (w2.alloc (.cells rp0 50));rw[hw3]at hd;unfold rp0 at hw2 hw3;obtain⟨z0,z1,z2,z3,z4,z5⟩:=aiI hd.n3;have hz:=aav hd.n3;have HD:=hE0 hd;have HH:=hE0 h;have HW1:=hE0 hw1;have HW2:=hE0 hw2;have HW3:=hE0 hw3;obtain⟨⟨ph,pc⟩,H2⟩:=r;have HC:=hE0 (hc w3 hd.bel);clear h hd hw1 hw2 hw3 hc;go_enter Tryz.func16,Tryz.ntmps16
 go_wp2_with (first | (rw[HW1.out]) | (rw[HW2.out]) | (rw[HW3.out]) | fail)
 refine HC.out.mono ?_;rintro e w4 ⟨rfl,H',ht,hs⟩;dsimp only at hs ⊢;have no:∀k,w.heap.size<=k->¬(F k\/G k):=fun k hk e=>by
  rcases e with e | e
  · have:=HH.out.fl k e;omega
  · have:=HH.out.gl k e;omega
 obtain⟨F',G',hd4,t4,f4⟩:=ht;have m4:=(t4.block _ (aan HD.out.n4) (no _ HD.out.l4)).trans HD.out.n4;have m5:=(t4.block _ (aan HD.out.n5) (no _ HD.out.l5)).trans HD.out.n5;have HHT:Hid (Ht F G w3 p H' w4):=⟨F',G',hd4,t4,f4⟩;have HS:=hE0 hs;obtain⟨w5,hw5⟩:=nmE (w4.setCell ⟨w2.heap.size,1,none⟩ (.int .u64 (ph:Int)));have n5:w5.heap[w2.heap.size]?=some (.cells #[.int .i64 0, .int .u64 (ph:Int), .int .u64 0, .slice none 0 0, .int .i64 0, .int .i64 0, .int .i64 0, .int .i64 0, .int .i64 0] 50 (0,0)):=by rw[<-hw5];exact heap_setCell_same w4 w2.heap.size 1 _ _ _ m5
 have p5:w5.heap[w1.heap.size]?=some (.cells rp0 50 (0,0)):=by rw[<-hw5];exact(Below.heap_setCell w4 ⟨w2.heap.size,1,none⟩ _ w1.heap.size HD.out.ne).trans m4
 have t5:Tch (fun k=>k=w2.heap.size) w4 w5:=by rw[<-hw5];exact Tch.set (S:=fun k=>k=w2.heap.size) w4 ⟨w2.heap.size,1,none⟩ _ rfl
 obtain⟨w6,hw6⟩:=nmE (w5.setCell ⟨w2.heap.size,0,none⟩ (.int .i64 pc));have n6:w6.heap[w2.heap.size]?=some (.cells #[.int .i64 pc, .int .u64 (ph:Int), .int .u64 0, .slice none 0 0, .int .i64 0, .int .i64 0, .int .i64 0, .int .i64 0, .int .i64 0] 50 (0,0)):=by rw[<-hw6];exact heap_setCell_same w5 w2.heap.size 0 _ _ _ n5
 have p6:w6.heap[w1.heap.size]?=some (.cells rp0 50 (0,0)):=by rw[<-hw6];exact(Below.heap_setCell w5 ⟨w2.heap.size,0,none⟩ _ w1.heap.size HD.out.ne).trans p5
 have t6:Tch (fun k=>k=w2.heap.size) w5 w6:=by rw[<-hw6];exact Tch.set (S:=fun k=>k=w2.heap.size) w5 ⟨w2.heap.size,0,none⟩ _ rfl
 have tf:Tch (fun k=>k=w1.heap.size\/k=w2.heap.size) w4 (asb w6 w1.heap.size (.int .i64 pc) (.int .u64 (ph:Int)) (.int .u64 0) (.slice none 0 0) (.int .i64 0) (.int .i64 0) (.int .i64 0) (.int .i64 0) (.int .i64 0)):=
  (((Tch.refl (fun k=>k=w1.heap.size\/k=w2.heap.size) w4).trans t5 (fun _ _ e=> .inr e)).trans t6 (fun _ _ e=> .inr e)).trans (aiJ w6 w1.heap.size (.int .i64 pc) (.int .u64 (ph:Int)) (.int .u64 0) (.slice none 0 0) (.int .i64 0) (.int .i64 0) (.int .i64 0) (.int .i64 0) (.int .i64 0)) (fun _ _ e=> .inl e)
 have TF:=hE0 tf;have MF:=hE0 (aoO p6 (.int .i64 pc) (.int .u64 (ph:Int)) (.int .u64 0) (.slice none 0 0) (.int .i64 0) (.int .i64 0) (.int .i64 0) (.int .i64 0) (.int .i64 0));obtain⟨⟨y0,y1,y2,y3,y4,y5,y6,y7,y8⟩,f0,f1,f2,f3,f4,f5,f6,f7,f8⟩:=abZ m5;have hy:=aav m5;obtain⟨⟨u0,u1,u2,u3,u4,u5,u6,u7,u8⟩,v0,v1,v2,v3,v4,v5,v6,v7,v8⟩:=abZ n5;have hu:=aav n5;obtain⟨⟨x0,x1,x2,x3,x4,x5,x6,x7,x8⟩,_⟩:=abZ n6;have hx:=aav n6;obtain⟨⟨s0,s1,s2,s3,s4,s5,s6,s7,s8⟩,e0,e1,e2,e3,e4,e5,e6,e7,e8⟩:=abZ p6;have hs6:=aav p6;have HW5:=hE0 hw5;have HW6:=hE0 hw6;clear z0 z1 z2 z3 z4 z5 hs no hd4 t4 f4 HC m4 m5 hw5 n5 p5 t5 hw6 n6 p6 t6 tf;go_wp2_with (first | (rw[HW5.out]) | (rw[HW6.out]) | fail)
 (try simp only[Exit.inBlock,Exit.then])
 refine akO (g:=w1.heap.size) Tryz.results16 ?_ ?_ MF.out ?_
 · rfl
 · rfl
 · exact⟨⟨none,0,rfl,World.ownsRow_nil _ _ _ _⟩,H',HHT.out.ends HH.out HD.out.bel TF.out HD.out.l4 HD.out.l5 (aan HD.out.n4) (aan HD.out.n5),HS.out⟩
structure ImP (B g:Nat) (N:Int) (A1:Option Addr) (c1:Nat) (l:List Rk) (A2:Option Addr) (c2:Nat) (d:List (List UInt8)) (xs:List Value) (w:World):Prop where
 obj:w.heap[g]?=some (.cells #[.int .i64 N, .slice A1 l.length c1, .slice A2 d.length c2] 110 (0,0))
 rl:w.ownsRow B 132 3 (.slice A1 l.length c1) l.length (ac4 l)
 rd:w.ownsRow B 37 1 (.slice A2 d.length c2) d.length xs
 dt:DtO w d xs
 hB:B<=g
 hl:asz l
section
variable {B g n:Nat} {N:Int} {A1 A2:Option Addr} {c1 c2:Nat} {l:List Rk} {d:List (List UInt8)} {xs:List Value} {w w3 w4 w':World}
theorem ImP.stay (h:ImP B g N A1 c1 l A2 c2 d xs w) (hb:Below w.heap.size w w'):ImP B g N A1 c1 l A2 c2 d xs w':=
 ⟨(hb.block _ (aaa h.obj)).trans h.obj,aaO h.rl hb (abl h.rl),aaO h.rd hb (abl h.rd),h.dt.stay hb,h.hB,h.hl⟩
theorem ImP.lt (h:ImP B g N A1 c1 l A2 c2 d xs w):g<w.heap.size:=aaa h.obj
theorem ImP.rkrd (h:ImP B g N A1 c1 l A2 c2 d xs w):RkRd w w.heap.size A1 l:=aef h.rl h.hl
theorem ImP.off (h:ImP B g N A1 c1 l A2 c2 d xs w){k:Nat}{cs:Array Value}{fz:Nat × Nat}{t:TypeId}(hk:w.heap[k]?=some (.cells cs t fz)) (ht:t≠110):g≠k:=fun e=>by
 subst e;have h2:=h.obj;rw[hk]at h2;injection h2 with h2;injection h2 with _ h2 _;exact ht h2
theorem ImP.pushD (h:ImP B g N A1 c1 l A2 c2 d xs w3){y:List UInt8}{A:Option Addr}{k:Nat}{v:Value}(hy:y.length<=100000) (oy:w3.ownsRow 0 5 1 (.slice A y.length k) y.length (y.map bv)) (own:w4.ownsRow B 37 1 v (d.length+1) (xs++ [.slice A y.length k])) (gr:w3.grownBy w4 (Value.slice A2 d.length c2).ownBlock){B0:Nat}{w0:World}(hb:Below B0 w0 w3) (hB0:B0<=B) (hw0:B0<=w3.heap.size):
 ∃A2' c2',v= .slice A2' (d.length+1) c2'/\w4.heap[g]?=w3.heap[g]?/\ImP B g N A1 c1 l A2' c2' (d++ [y]) (xs++ [.slice A y.length k]) (w4.setCell ⟨g,2,none⟩ v)/\Below B0 w0 (w4.setCell ⟨g,2,none⟩ v):=by
 have hrow:=aif h.rd;have hg4:w4.heap[g]?=w3.heap[g]?:=gr.block g h.lt fun e=>by
  obtain⟨cs,fz,hc⟩:=hrow g e.symm;exact h.off hc (by decide) rfl
 have obj4:=hg4.trans h.obj;obtain⟨A',c,rfl,_⟩:=aaU own;have hrl4:w4.ownsRow B 132 3 (.slice A1 l.length c1) l.length (ac4 l):=aa0 h.rl gr fun k hk hrk=>by
  obtain⟨cs,fz,hc⟩:=hrow k hrk;exact abi h.rl hk hc (by decide)
 have hlx:xs.length=d.length:=by have:=h.rd.1;omega
 have hdt4:DtO w4 (d++ [y]) (xs++ [.slice A y.length k]):=(h.dt.grown gr fun k hk=>by
  obtain⟨cs,fz,hc⟩:=hrow k hk;exact⟨cs,_,fz,by decide,hc⟩).snoc hlx hy (aa0 oy gr fun k hk hrk=>by
   obtain⟨cs,fz,hc⟩:=hrow k hrk;exact abi oy hk hc (by decide))
 have gs:=abf w4 g 2 (.slice A' (d.length+1) c);have ge:∀k,(Value.slice A2 d.length c2).ownBlock=some k->B0<=k:=fun k hk=>Nat.le_trans hB0 (abS h.rd k hk);refine⟨A',c,rfl,hg4,⟨?_,?_,?_,?_,h.hB,h.hl⟩,?_⟩
 · rw[List.length_append,List.length_singleton];exact heap_setCell_same w4 g 2 _ _ _ obj4
 · exact aa0 hrl4 gs fun k hk hrk=>by injection hrk with hrk;subst hrk;exact abi hrl4 hk obj4 (by decide)
 · rw[List.length_append,List.length_singleton];exact aa0 own gs fun k hk hrk=>by injection hrk with hrk;subst hrk;exact abi own hk obj4 (by decide)
 · exact hdt4.grown gs fun k hrk=>by injection hrk with hrk;subst hrk;exact⟨_,_,_,by decide,obj4⟩
 · exact(hb.grown gr hw0 ge).setCell (p:=⟨g,2,none⟩) (Nat.le_trans hB0 h.hB) _
end
section
variable {B g:Nat} {N:Int} {A1 A2:Option Addr} {c1 c2:Nat} {l:List Rk} {d:List (List UInt8)} {xs:List Value} {w:World}
theorem ImP.laid (h:ImP B g N A1 c1 l A2 c2 d xs w){g0:Nat}(hg0:g0<B){x0 x1 x2:Value}(hg:w.heap[g0]?=some (.cells #[x0,x1,x2] 110 (0,0))) (y0 y1 y2:Value):
 RkRd (((w.setCell ⟨g0,0,none⟩ y0).setCell ⟨g0,1,none⟩ y1).setCell ⟨g0,2,none⟩ y2) (((w.setCell ⟨g0,0,none⟩ y0).setCell ⟨g0,1,none⟩ y1).setCell ⟨g0,2,none⟩ y2).heap.size A1 l/\DtRd (((w.setCell ⟨g0,0,none⟩ y0).setCell ⟨g0,1,none⟩ y1).setCell ⟨g0,2,none⟩ y2) (((w.setCell ⟨g0,0,none⟩ y0).setCell ⟨g0,1,none⟩ y1).setCell ⟨g0,2,none⟩ y2).heap.size A2 d:=by
 have s0:=abf w g0 0 y0;have k1:=heap_setCell_same w g0 0 _ _ y0 hg;have s1:=abf (w.setCell ⟨g0,0,none⟩ y0) g0 1 y1;have k2:=heap_setCell_same _ g0 1 _ _ y1 k1;have s2:=abf ((w.setCell ⟨g0,0,none⟩ y0).setCell ⟨g0,1,none⟩ y1) g0 2 y2;have hr:∀{w1 w2:World} {t:TypeId} {size n:Nat} {v:Value} {ys:List Value},w1.ownsRow B t size v n ys->w1.grownBy w2 (some g0)->w2.ownsRow B t size v n ys:=fun ho hgr=>aa0 ho hgr fun k hk hrk=>by
  injection hrk with hrk;have:=abS ho k hk;omega
 have r1:=hr (hr (hr h.rl s0) s1) s2;have r2:=hr (hr (hr h.rd s0) s1) s2;have d1:=h.dt.grown s0 fun k hrk=>by injection hrk with hrk;subst hrk;exact⟨_,_,_,by decide,hg⟩
 have d2:=d1.grown s1 fun k hrk=>by injection hrk with hrk;subst hrk;exact⟨_,_,_,by decide,k1⟩
 have d3:=d2.grown s2 fun k hrk=>by injection hrk with hrk;subst hrk;exact⟨_,_,_,by decide,k2⟩
 exact⟨aef r1 h.hl,d3.rd r2⟩
end
def toR (x:Bk):Rk:=⟨(x.off:Int),(x.size:Int),x.used⟩
theorem aiK:∀l:List Bk,aaD l=ac4 (l.map toR)
 | []=>rfl
 | x::r=>by
  rw[List.map_cons,aaD,ac4,<-aiK r];rfl
def ofD (bs:List UInt8):List Bk->List (List UInt8)
 | []=> []
 | x::r=>if x.used then (bs.drop (x.off+8)).take (x.size-16)::ofD bs r else ofD bs r
theorem aqL{bs:List UInt8}{l:List Bk}(h:abJ bs=some l) (hl:bs.length<=16384):asz (l.map toR)/\l.length*32<=bs.length/\∀x∈l,184<=x.off/\x.off+x.size<=bs.length/\aa3 (x.size:Int)=true:=by
 obtain⟨h184,ht,_⟩:=aaC h;have hm:=(aau _ _ _ ht).2;have hn:∀(l:List Bk) (o e:Nat),ach o l e->o+l.length*32<=e:=by
  intro l;induction l with
  | nil=>intro o e h;have:o=e:=h;simp;omega
  | cons x r ih=>
   intro o e ⟨_,h2,h3⟩;have:=ih _ _ h3;have:=(aae _).1 h2;rw[List.length_cons];omega
 have:=hn _ _ _ ht;refine⟨fun x hx=> ?_,by omega,fun x hx=> ?_⟩
 · obtain⟨y,hy,rfl⟩:=List.mem_map.1 hx;obtain⟨h1,h2,h3,_⟩:=hm y hy;unfold toR;dsimp only;omega
 · obtain⟨h1,h2,h3,_⟩:=hm x hx;exact⟨h1,h2,h3⟩
def afl:List Bk->List Dt->List (List UInt8)
 | x::L,d::ds=>if x.used then d.2::afl L ds else afl L ds
 | _,_=> []
theorem aoQ{L:List Bk}{ds:List Dt}{j:Nat}{x:Bk}{d:Dt}(hx:L[j]?=some x) (hd:ds[j]?=some d):afl (L.drop j) (ds.drop j)=if x.used then d.2::afl (L.drop (j+1)) (ds.drop (j+1)) else afl (L.drop (j+1)) (ds.drop (j+1)):=by
 have h1:L.drop j=x::L.drop (j+1):=by
  obtain⟨hj,e⟩:=List.getElem?_eq_some_iff.1 hx;rw[List.drop_eq_getElem_cons hj,e]
 have h2:ds.drop j=d::ds.drop (j+1):=by
  obtain⟨hj,e⟩:=List.getElem?_eq_some_iff.1 hd;rw[List.drop_eq_getElem_cons hj,e]
 rw[h1,h2];rfl
theorem aoR{L:List Bk}{ds:List Dt}{j:Nat}(h:L.length<=j):afl (L.drop j) (ds.drop j)= []:=by
 rw[List.drop_eq_nil_of_le h];rfl
theorem asc{fn:Func}{R:Ending->World->Prop}{a:Act}{w:World}{p:Tmp}{g:Nat}{n:Int}{A1 A2:Option Addr}{a1 b1 a2 b2:Nat}(hres:fn.results= #[.cell p 59]) (hp:a.tmps.getD p undef= .pointer (some ⟨g,0,none⟩)) (hd:a.defers= [])
 (hg:w.heap[g]?=some (.cells #[.int .i64 n, .slice A1 a1 b1, .slice A2 a2 b2] 59 (0,0))) (hR:R (.returned (.agg #[.int .i64 n, .slice A1 a1 b1, .slice A2 a2 b2])) w):bodyPost Tryz.prog fn R .ret a w:=by
 refine bodyPost_ret (v:= .agg #[.int .i64 n, .slice A1 a1 b1, .slice A2 a2 b2]) ?_ hd hR;exact results_cell_row hres _ _ g _ _ _ _ hp hg rfl rfl rfl
theorem adR (ρ:Operand->Value) (o:Oper) (ho:o.op= .alloc 59) (w:World):
 (execOp ρ o).run Tryz.prog w= .ok (.value (.pointer (some ⟨w.heap.size,0,none⟩))) (w.alloc (.cells #[.int .i64 0, .slice none 0 0, .slice none 0 0] 59)):=by
 unfold execOp;simp only[ho];simp[go_sem]
theorem acP{w w':World}{r:Option Nat}{k:Nat}{o:Obj}(hg:w.grownBy w' r) (h:w.heap[k]?=some o) (hne:r≠some k):w'.heap[k]?=some o:=by
 have hk:k<w.heap.size:=by
  rcases Nat.lt_or_ge k w.heap.size with h' | h'
  · exact h'
  · rw[Array.getElem?_eq_none h']at h;cases h
 exact(hg.block k hk (fun e=>hne e.symm)).trans h
theorem acw{w w':World}{base n size k:Nat}{t t':TypeId}{v:Value}{xs:List Value}{cs:Array Value}{fz:Nat × Nat}(h:w.ownsRow base t size v n xs) (hc:w.heap[k]?=some (.cells cs t' fz)) (hne:t≠t') (hk:∀j,j≠k->w'.heap[j]?=w.heap[j]?):w'.ownsRow base t size v n xs:=by
 refine⟨h.1,?_⟩;rcases h.2 with h2 | ⟨g,cap,cur,hv,hb,hh,q⟩
 · exact .inl h2
 · exact .inr ⟨g,cap,cur,hv,hb,(hk g (fun e=>abi h (k:=k) (by rw[hv,<-e];rfl) hc hne)).trans hh,q⟩
section
variable {F G:Nat->Prop} {w:World} {p:Nat} {H:Hp}
theorem aqM (h:Hd F G w p H) (hok:H.Ok) (hD:∀d∈H.ds,d.2.length<=100000):
 Calls Tryz.prog 20 #[.pointer (some ⟨p,0,none⟩)] w fun e w'=>∃A1 A2 c1 c2,e= .returned (.agg #[.int .i64 (acz H.blks:Int), .slice A1 H.blks.length c1, .slice A2 (afl H.blks H.ds).length c2])/\RkRd w' w'.heap.size A1 (H.blks.map toR)/\DtRd w' w'.heap.size A2 (afl H.blks H.ds)/\Below w.heap.size w w':=by
 obtain⟨w1,ha1,n1,b1⟩:=ac0 w 59 (.int .i64 0) (.slice none 0 0) (.slice none 0 0);have h512:=hok.n;have hle:=hok.le;obtain⟨n,hn⟩:=nmE (acz H.blks);have hlen:∀V,Below w.heap.size w V->Calls Tryz.prog 69 #[.pointer (some ⟨p,0,none⟩)] V fun e w'=>e= .returned (.int .i64 (n:Int))/\V=w':=fun V hV=>by
  obtain⟨Vb,Vd,gl,cs,hm⟩:=(h.below hV).hm;have:=aiz hm (by omega) (by omega);rw[hn]at this;exact this
 have HLEN:=hE0 hlen;obtain⟨m,hm5⟩:=nmE H.blks.length;have HM5:Hid (m<=512):=(show _<=_ by omega);obtain⟨wd,hwd⟩:=nmE w1.drew;have hbwd:Below w.heap.size w wd:=b1.out.trans ((by rw[<-hwd];exact(Below.refl _ _).drew:Below w1.heap.size w1 wd).mono b1.out.size);have n1d:=hE0 (((by rw[<-hwd];exact(Below.refl _ _).drew:Below w1.heap.size w1 wd).block _ (aaa n1.out)).trans n1.out);obtain⟨Ab,cb,hc1,hsrc,hblt,hflt⟩:∃Ab cb,wd.cell? ⟨p,1,none⟩=some (.slice Ab m cb)/\Src wd Ab m cb (aaD H.blks)/\(∀a,Ab=some a->a.block<wd.heap.size)/\p<wd.heap.size:=by
  obtain⟨Vb,Vd,gl,cs,hm⟩:=(h.below hbwd).hm;obtain⟨A,c,rfl⟩:=aa4 hm.ob;have hob:=hm.ob;rw[hm5]at hob;refine⟨A,c,by have:=hm.c1;rw[hm5]at this;exact this,?_,fun a e=>aek hob (by rw[e];rfl),hm.lt⟩;rcases A with _ | a
  · rcases hob.2 with⟨h',h0⟩ | ⟨_,_,_,h',_⟩
    · injection h' with _ _ e;exact⟨fun _=>⟨h0,e,by have:=hob.1;rw[h0]at this;simpa using this⟩,fun ad e=>(by cases e)⟩
    · injection h' with e;cases e
  · obtain⟨b,e⟩:∃b,a=⟨b,0,none⟩:=by
     rcases hob.2 with⟨h',_⟩ | ⟨b,_,_,h',_⟩
     · injection h' with e;cases e
     · injection h' with e;injection e with e;exact⟨b,e⟩
    subst e;have:=acL hob 0 m (by omega) ⟨b,0,none⟩ (.inr (by rw[Nat.zero_mul]));rw[Nat.zero_mul,List.drop_zero,List.take_of_length_le (by rw[hob.1];exact Nat.le_refl _)]at this;exact this
 have HFL:Hid ((aaD H.blks).length=m*3):=(show _=_ by rw[ad8,hm5]);have HSRC:=hE0 hsrc;have HBLT:=hE0 hblt;have HBWD:=hE0 hbwd;have HD:=hE0 h;have HOK:=hE0 hok;have HDD:=hE0 hD;have HNN:=hE0 hn;have HMM:=hE0 hm5;have HWD:=hE0 hwd;rw[hm5,hn];clear hlen hsrc hblt hbwd h hok hD hn hm5 hwd h512 hle;go_enter Tryz.func20,Tryz.ntmps20
 go_wp2_with (first | (rw[ha1.out]) | fail)
 go_cut [3] from 5 (fun v wx=>∃gm,v= .pointer (some ⟨gm,0,none⟩)/\∃A7 c7,wx.heap[gm]?=some (.cells #[.int .i64 (n:Int), .slice A7 m c7, .slice none 0 0] 59 (0,0))/\wx.ownsRow wd.heap.size 132 3 (.slice A7 m c7) m (aaD H.blks)/\wd.heap.size<=gm/\Below wd.heap.size wd wx)
 case first=>
  refine aaB wd.heap.size (.three [0,3,4,5,6] 1 (.two [] 2 (.two [] 7 (.one [8] 9 (.fin [])) 9 (.one [] 7 (.fin [8]))) 9 (.one [] 2 (.one [] 7 (.fin [8])))) 2 (.two [] 1 (.two [] 7 (.one [8] 9 (.fin [])) 9 (.one [] 7 (.fin [8]))) 9 (.one [] 1 (.one [] 7 (.fin [8])))) 9 (.two [] 1 (.one [] 2 (.one [] 7 (.fin [8]))) 2 (.one [] 1 (.one [] 7 (.fin [8]))))) [10] (by kernel_rfl) (by kernel_rfl) (by kernel_rfl) (fun _ _ _ _ _ h=>h) ?_;rw[HWD.out];have q1:=tfE hc1 hflt;have bc0:Below wd.heap.size wd wd:=Below.refl _ _;refine ahe (l:= ?sg0) ?hsg0 ?_
  case hsg0=>simp only[pick,lE1,lE2,lE3];rfl
  repeat (go_big_quiet_step (fail))
  refine wpQuiet_nil ?_;clear q1;refine⟨?wa1,?wa2,?wa9⟩
  case wa1=>
   refine aaf (vs:= #[.pointer (some ⟨p,0,none⟩)]) Tryz.call69 rfl rfl rfl (R:=fun r w'=>r= .int .i64 (n:Int)/\wd=w') ((HLEN.out wd (HBWD.out.trans (bc0.mono HBWD.out.size))).mono ?_) wd.heap.size (Nat.le_refl _) ?_
   · rintro e w' ⟨rfl,rfl⟩;exact⟨_,rfl,(Below.refl _ _).mono bc0.size,rfl,rfl⟩
   rintro r w' _ ⟨rfl,rfl⟩;simp only[Act.put,lE4,lE5,lE6];refine aaT (l:= []) rfl (wpQuiet_nil ?_);refine⟨?wa12,?wa19⟩
   case wa12=>
    obtain⟨y1,hx1⟩:∃x,wd.alloc (.cells #[] 132)=x:=⟨_,rfl⟩;have bx1:=abE hx1;have oL:y1.ownsRow wd.heap.size 132 3 (.slice (some ⟨wd.heap.size,0,none⟩) 0 0) 0 []:=by rw[<-hx1];exact aaY (World.ownsRow_lit wd _ 0 (Nat.le_refl _) (by unfold maxLen;omega) rfl) bc0.size
    refine aag (some 7) (w1:=y1) (v:= .slice (some ⟨wd.heap.size,0,none⟩) 0 0) rfl rfl rfl (by rw[<-hx1];exact aah rfl rfl (ab9 wd)) (bx1.mono bc0.size) ⟨wd.heap.size,Nat.le_refl _,?_⟩;have bc1:Below wd.heap.size wd y1:=bc0.trans (bx1.mono bc0.size);simp only[Act.put,lE4,lE5,lE6];refine aaT (l:= []) rfl (wpQuiet_nil ?_);refine⟨?wa127,?wa129⟩
    case wa127=>
     have sr:=HSRC.out.below bc1 (fun a e=>HBLT.out a e);refine abc (some 12) (.tmp 7) (.tmp 11) 56 132 rfl rfl rfl rfl Tryz.underlying56 (.agg #[.int .i64 0, .int .i64 0, .bool false]) 3 24 ado rfl (by decide) wd.heap.size (.slice (some ⟨wd.heap.size,0,none⟩) 0 0) 0 [] rfl oL (Nat.le_refl _) bc1.size Ab m cb (aaD H.blks) rfl HFL.out sr (abx H.blks) (by have:=HM5.out;omega) (by omega) ?_;intro v7 y2 oY bx2 gr;rw[Nat.zero_add,List.nil_append]at oY;have bc2:Below wd.heap.size wd y2:=bc1.trans bx2;refine⟨wd.heap.size,Nat.le_refl _,?_⟩;obtain⟨A7,c7,rfl⟩:=aa4 oY;simp only[Act.put,lE4,lE5,lE6];refine aal (l:= ?s8a127) ?h8a127 ?_
     case h8a127=>simp only[pick,lE1,lE2,lE3];rfl
     repeat (go_big_quiet_step (fail))
     refine wpQuiet_nil ?_;obtain⟨y3,hx3⟩:∃x,y2.alloc (.cells #[.int .i64 0, .slice none 0 0, .slice none 0 0] 59)=x:=⟨_,rfl⟩;have bx3:=abE hx3;have nM:=anE hx3;have hlm:=aaa nM;refine aag (some 3) (w1:=y3) (v:= .pointer (some ⟨y2.heap.size,0,none⟩)) rfl rfl rfl (by rw[<-hx3];exact adR _ _ rfl y2) (bx3.mono bc2.size) ⟨wd.heap.size,Nat.le_refl _,?_⟩;have bc3:Below wd.heap.size wd y3:=bc2.trans (bx3.mono bc2.size);have hgm:wd.heap.size<=y2.heap.size:=bc2.size;have oY:=aaO oY bx3 (abl oY);simp only[Act.put,lE4,lE5,lE6];refine aaF (l:= ?fl1) (t:= ?ft1) ?hfl1 ?hft1 ?_
     case hfl1=>rfl
     case hft1=>simp only[pick,lE1,lE2,lE3];rfl
     repeat (go_big_quiet_step (fail))
     refine wpQuiet_nil ?_;obtain⟨wz,hz,nz,bz,⟨z0,z1,z2⟩,⟨e0,e1,e2⟩,hle⟩:=afj (hE0 nM) (.int .i64 (n:Int)) (.slice A7 m c7) (.slice none 0 0);have HFIN:Hid (∃A7 c7,wz.heap[y2.heap.size]?=some (.cells #[.int .i64 (n:Int), .slice A7 m c7, .slice none 0 0] 59 (0,0))/\wz.ownsRow wd.heap.size 132 3 (.slice A7 m c7) m (aaD H.blks)/\wd.heap.size<=y2.heap.size/\Below wd.heap.size wd wz):=(show ∃_,_ from
      ⟨A7,c7,nz.out,acw oY nM (by decide) (fun k hk=>by rw[<-hz.out,heap_setCell_other _ _ _ _ hk,heap_setCell_other _ _ _ _ hk,heap_setCell_other _ _ _ _ hk]),hgm,bz.out _ _ hgm bc3⟩)
     go_wp2_with (first | (rw[hz.out]) | fail)
     go_meet
     case rel=>exact⟨_,rfl,HFIN.out⟩
    case wa129=>
     obtain⟨y2,hx2⟩:∃x,y1.alloc (.cells #[.int .i64 0, .slice none 0 0, .slice none 0 0] 59)=x:=⟨_,rfl⟩;have bx2:=abE hx2;have nM:=anE hx2;have hlm:=aaa nM;refine aag (some 3) (w1:=y2) (v:= .pointer (some ⟨y1.heap.size,0,none⟩)) rfl rfl rfl (by rw[<-hx2];exact adR _ _ rfl y1) (bx2.mono bc1.size) ⟨wd.heap.size,Nat.le_refl _,?_⟩;have bc2:Below wd.heap.size wd y2:=bc1.trans (bx2.mono bc1.size);have hgm:wd.heap.size<=y1.heap.size:=bc1.size;have hll:wd.heap.size<y1.heap.size:=(oL.lt _ rfl).2;have oL:=aaO oL bx2 (abl oL);simp only[Act.put,lE4,lE5,lE6];refine aal (l:= []) rfl (wpQuiet_nil ?_);have sr:=HSRC.out.below bc2 (fun a e=>HBLT.out a e);refine abc (some 12) (.tmp 7) (.tmp 11) 56 132 rfl rfl rfl rfl Tryz.underlying56 (.agg #[.int .i64 0, .int .i64 0, .bool false]) 3 24 ado rfl (by decide) wd.heap.size (.slice (some ⟨wd.heap.size,0,none⟩) 0 0) 0 [] rfl oL (Nat.le_refl _) bc2.size Ab m cb (aaD H.blks) rfl HFL.out sr (abx H.blks) (by have:=HM5.out;omega) (by omega) ?_;intro v7 y3 oY bx3 gr;rw[Nat.zero_add,List.nil_append]at oY;have bc3:Below wd.heap.size wd y3:=bc2.trans bx3;refine⟨wd.heap.size,Nat.le_refl _,?_⟩;obtain⟨A7,c7,rfl⟩:=aa4 oY;have nM:=acP gr nM (fun e=>by injection e with e;have e:wd.heap.size=y1.heap.size:=e;omega);have hlm:=aaa nM;simp only[Act.put,lE4,lE5,lE6];refine aaF (l:= ?fl2) (t:= ?ft2) ?hfl2 ?hft2 ?_
     case hfl2=>simp only[pick,lE1,lE2,lE3];rfl
     case hft2=>simp only[pick,lE1,lE2,lE3];rfl
     repeat (go_big_quiet_step (fail))
     refine wpQuiet_nil ?_;obtain⟨wz,hz,nz,bz,⟨z0,z1,z2⟩,⟨e0,e1,e2⟩,hle⟩:=afj (hE0 nM) (.int .i64 (n:Int)) (.slice A7 m c7) (.slice none 0 0);have HFIN:Hid (∃A7 c7,wz.heap[y1.heap.size]?=some (.cells #[.int .i64 (n:Int), .slice A7 m c7, .slice none 0 0] 59 (0,0))/\wz.ownsRow wd.heap.size 132 3 (.slice A7 m c7) m (aaD H.blks)/\wd.heap.size<=y1.heap.size/\Below wd.heap.size wd wz):=(show ∃_,_ from
      ⟨A7,c7,nz.out,acw oY nM (by decide) (fun k hk=>by rw[<-hz.out,heap_setCell_other _ _ _ _ hk,heap_setCell_other _ _ _ _ hk,heap_setCell_other _ _ _ _ hk]),hgm,bz.out _ _ hgm bc3⟩)
     go_wp2_with (first | (rw[hz.out]) | fail)
     go_meet
     case rel=>exact⟨_,rfl,HFIN.out⟩
   case wa19=>
    obtain⟨y1,hx1⟩:∃x,wd.alloc (.cells #[.int .i64 0, .slice none 0 0, .slice none 0 0] 59)=x:=⟨_,rfl⟩;have bx1:=abE hx1;have nM:=anE hx1;have hlm:=aaa nM;refine aag (some 3) (w1:=y1) (v:= .pointer (some ⟨wd.heap.size,0,none⟩)) rfl rfl rfl (by rw[<-hx1];exact adR _ _ rfl wd) (bx1.mono bc0.size) ⟨wd.heap.size,Nat.le_refl _,?_⟩;have bc1:Below wd.heap.size wd y1:=bc0.trans (bx1.mono bc0.size);have hgm:wd.heap.size<=wd.heap.size:=bc0.size;simp only[Act.put,lE4,lE5,lE6];refine aal (l:= []) rfl (wpQuiet_nil ?_);obtain⟨y2,hx2⟩:∃x,y1.alloc (.cells #[] 132)=x:=⟨_,rfl⟩;have bx2:=abE hx2;have oL:y2.ownsRow wd.heap.size 132 3 (.slice (some ⟨y1.heap.size,0,none⟩) 0 0) 0 []:=by rw[<-hx2];exact aaY (World.ownsRow_lit y1 _ 0 (Nat.le_refl _) (by unfold maxLen;omega) rfl) bc1.size
    refine aag (some 7) (w1:=y2) (v:= .slice (some ⟨y1.heap.size,0,none⟩) 0 0) rfl rfl rfl (by rw[<-hx2];exact aah rfl rfl (ab9 y1)) (bx2.mono bc1.size) ⟨wd.heap.size,Nat.le_refl _,?_⟩;have bc2:Below wd.heap.size wd y2:=bc1.trans (bx2.mono bc1.size);have nM:=(bx2.block _ (aaa nM)).trans nM;have hlm:=Nat.lt_of_lt_of_le hlm bx2.size;simp only[Act.put,lE4,lE5,lE6];refine aal (l:= []) rfl (wpQuiet_nil ?_);have sr:=HSRC.out.below bc2 (fun a e=>HBLT.out a e);refine abc (some 12) (.tmp 7) (.tmp 11) 56 132 rfl rfl rfl rfl Tryz.underlying56 (.agg #[.int .i64 0, .int .i64 0, .bool false]) 3 24 ado rfl (by decide) wd.heap.size (.slice (some ⟨y1.heap.size,0,none⟩) 0 0) 0 [] rfl oL (Nat.le_refl _) bc2.size Ab m cb (aaD H.blks) rfl HFL.out sr (abx H.blks) (by have:=HM5.out;omega) (by omega) ?_;intro v7 y3 oY bx3 gr;rw[Nat.zero_add,List.nil_append]at oY;have bc3:Below wd.heap.size wd y3:=bc2.trans bx3;refine⟨wd.heap.size,Nat.le_refl _,?_⟩;obtain⟨A7,c7,rfl⟩:=aa4 oY;have nM:=acP gr nM (fun e=>by injection e with e;have e:y1.heap.size=wd.heap.size:=e;omega);have hlm:=aaa nM;simp only[Act.put,lE4,lE5,lE6];refine aaF (l:= ?fl3) (t:= ?ft3) ?hfl3 ?hft3 ?_
    case hfl3=>simp only[pick,lE1,lE2,lE3];rfl
    case hft3=>simp only[pick,lE1,lE2,lE3];rfl
    repeat (go_big_quiet_step (fail))
    refine wpQuiet_nil ?_;obtain⟨wz,hz,nz,bz,⟨z0,z1,z2⟩,⟨e0,e1,e2⟩,hle⟩:=afj (hE0 nM) (.int .i64 (n:Int)) (.slice A7 m c7) (.slice none 0 0);have HFIN:Hid (∃A7 c7,wz.heap[wd.heap.size]?=some (.cells #[.int .i64 (n:Int), .slice A7 m c7, .slice none 0 0] 59 (0,0))/\wz.ownsRow wd.heap.size 132 3 (.slice A7 m c7) m (aaD H.blks)/\wd.heap.size<=wd.heap.size/\Below wd.heap.size wd wz):=(show ∃_,_ from
     ⟨A7,c7,nz.out,acw oY nM (by decide) (fun k hk=>by rw[<-hz.out,heap_setCell_other _ _ _ _ hk,heap_setCell_other _ _ _ _ hk,heap_setCell_other _ _ _ _ hk]),hgm,bz.out _ _ hgm bc3⟩)
    go_wp2_with (first | (rw[hz.out]) | fail)
    go_meet
    case rel=>exact⟨_,rfl,HFIN.out⟩
  case wa2=>
   obtain⟨y1,hx1⟩:∃x,wd.alloc (.cells #[] 132)=x:=⟨_,rfl⟩;have bx1:=abE hx1;have oL:y1.ownsRow wd.heap.size 132 3 (.slice (some ⟨wd.heap.size,0,none⟩) 0 0) 0 []:=by rw[<-hx1];exact aaY (World.ownsRow_lit wd _ 0 (Nat.le_refl _) (by unfold maxLen;omega) rfl) bc0.size
   refine aag (some 7) (w1:=y1) (v:= .slice (some ⟨wd.heap.size,0,none⟩) 0 0) rfl rfl rfl (by rw[<-hx1];exact aah rfl rfl (ab9 wd)) (bx1.mono bc0.size) ⟨wd.heap.size,Nat.le_refl _,?_⟩;have bc1:Below wd.heap.size wd y1:=bc0.trans (bx1.mono bc0.size);simp only[Act.put,lE4,lE5,lE6];refine aaT (l:= []) rfl (wpQuiet_nil ?_);refine⟨?wa21,?wa29⟩
   case wa21=>
    refine aaf (vs:= #[.pointer (some ⟨p,0,none⟩)]) Tryz.call69 rfl rfl rfl (R:=fun r w'=>r= .int .i64 (n:Int)/\y1=w') ((HLEN.out y1 (HBWD.out.trans (bc1.mono HBWD.out.size))).mono ?_) wd.heap.size (Nat.le_refl _) ?_
    · rintro e w' ⟨rfl,rfl⟩;exact⟨_,rfl,(Below.refl _ _).mono bc1.size,rfl,rfl⟩
    rintro r w' _ ⟨rfl,rfl⟩;simp only[Act.put,lE4,lE5,lE6];refine aaT (l:= []) rfl (wpQuiet_nil ?_);refine⟨?wa217,?wa219⟩
    case wa217=>
     have sr:=HSRC.out.below bc1 (fun a e=>HBLT.out a e);refine abc (some 12) (.tmp 7) (.tmp 11) 56 132 rfl rfl rfl rfl Tryz.underlying56 (.agg #[.int .i64 0, .int .i64 0, .bool false]) 3 24 ado rfl (by decide) wd.heap.size (.slice (some ⟨wd.heap.size,0,none⟩) 0 0) 0 [] rfl oL (Nat.le_refl _) bc1.size Ab m cb (aaD H.blks) rfl HFL.out sr (abx H.blks) (by have:=HM5.out;omega) (by omega) ?_;intro v7 y2 oY bx2 gr;rw[Nat.zero_add,List.nil_append]at oY;have bc2:Below wd.heap.size wd y2:=bc1.trans bx2;refine⟨wd.heap.size,Nat.le_refl _,?_⟩;obtain⟨A7,c7,rfl⟩:=aa4 oY;simp only[Act.put,lE4,lE5,lE6];refine aal (l:= ?s8a217) ?h8a217 ?_
     case h8a217=>simp only[pick,lE1,lE2,lE3];rfl
     repeat (go_big_quiet_step (fail))
     refine wpQuiet_nil ?_;obtain⟨y3,hx3⟩:∃x,y2.alloc (.cells #[.int .i64 0, .slice none 0 0, .slice none 0 0] 59)=x:=⟨_,rfl⟩;have bx3:=abE hx3;have nM:=anE hx3;have hlm:=aaa nM;refine aag (some 3) (w1:=y3) (v:= .pointer (some ⟨y2.heap.size,0,none⟩)) rfl rfl rfl (by rw[<-hx3];exact adR _ _ rfl y2) (bx3.mono bc2.size) ⟨wd.heap.size,Nat.le_refl _,?_⟩;have bc3:Below wd.heap.size wd y3:=bc2.trans (bx3.mono bc2.size);have hgm:wd.heap.size<=y2.heap.size:=bc2.size;have oY:=aaO oY bx3 (abl oY);simp only[Act.put,lE4,lE5,lE6];refine aaF (l:= ?fl4) (t:= ?ft4) ?hfl4 ?hft4 ?_
     case hfl4=>rfl
     case hft4=>simp only[pick,lE1,lE2,lE3];rfl
     repeat (go_big_quiet_step (fail))
     refine wpQuiet_nil ?_;obtain⟨wz,hz,nz,bz,⟨z0,z1,z2⟩,⟨e0,e1,e2⟩,hle⟩:=afj (hE0 nM) (.int .i64 (n:Int)) (.slice A7 m c7) (.slice none 0 0);have HFIN:Hid (∃A7 c7,wz.heap[y2.heap.size]?=some (.cells #[.int .i64 (n:Int), .slice A7 m c7, .slice none 0 0] 59 (0,0))/\wz.ownsRow wd.heap.size 132 3 (.slice A7 m c7) m (aaD H.blks)/\wd.heap.size<=y2.heap.size/\Below wd.heap.size wd wz):=(show ∃_,_ from
      ⟨A7,c7,nz.out,acw oY nM (by decide) (fun k hk=>by rw[<-hz.out,heap_setCell_other _ _ _ _ hk,heap_setCell_other _ _ _ _ hk,heap_setCell_other _ _ _ _ hk]),hgm,bz.out _ _ hgm bc3⟩)
     go_wp2_with (first | (rw[hz.out]) | fail)
     go_meet
     case rel=>exact⟨_,rfl,HFIN.out⟩
    case wa219=>
     obtain⟨y2,hx2⟩:∃x,y1.alloc (.cells #[.int .i64 0, .slice none 0 0, .slice none 0 0] 59)=x:=⟨_,rfl⟩;have bx2:=abE hx2;have nM:=anE hx2;have hlm:=aaa nM;refine aag (some 3) (w1:=y2) (v:= .pointer (some ⟨y1.heap.size,0,none⟩)) rfl rfl rfl (by rw[<-hx2];exact adR _ _ rfl y1) (bx2.mono bc1.size) ⟨wd.heap.size,Nat.le_refl _,?_⟩;have bc2:Below wd.heap.size wd y2:=bc1.trans (bx2.mono bc1.size);have hgm:wd.heap.size<=y1.heap.size:=bc1.size;have hll:wd.heap.size<y1.heap.size:=(oL.lt _ rfl).2;have oL:=aaO oL bx2 (abl oL);simp only[Act.put,lE4,lE5,lE6];refine aal (l:= []) rfl (wpQuiet_nil ?_);have sr:=HSRC.out.below bc2 (fun a e=>HBLT.out a e);refine abc (some 12) (.tmp 7) (.tmp 11) 56 132 rfl rfl rfl rfl Tryz.underlying56 (.agg #[.int .i64 0, .int .i64 0, .bool false]) 3 24 ado rfl (by decide) wd.heap.size (.slice (some ⟨wd.heap.size,0,none⟩) 0 0) 0 [] rfl oL (Nat.le_refl _) bc2.size Ab m cb (aaD H.blks) rfl HFL.out sr (abx H.blks) (by have:=HM5.out;omega) (by omega) ?_;intro v7 y3 oY bx3 gr;rw[Nat.zero_add,List.nil_append]at oY;have bc3:Below wd.heap.size wd y3:=bc2.trans bx3;refine⟨wd.heap.size,Nat.le_refl _,?_⟩;obtain⟨A7,c7,rfl⟩:=aa4 oY;have nM:=acP gr nM (fun e=>by injection e with e;have e:wd.heap.size=y1.heap.size:=e;omega);have hlm:=aaa nM;simp only[Act.put,lE4,lE5,lE6];refine aaF (l:= ?fl5) (t:= ?ft5) ?hfl5 ?hft5 ?_
     case hfl5=>simp only[pick,lE1,lE2,lE3];rfl
     case hft5=>simp only[pick,lE1,lE2,lE3];rfl
     repeat (go_big_quiet_step (fail))
     refine wpQuiet_nil ?_;obtain⟨wz,hz,nz,bz,⟨z0,z1,z2⟩,⟨e0,e1,e2⟩,hle⟩:=afj (hE0 nM) (.int .i64 (n:Int)) (.slice A7 m c7) (.slice none 0 0);have HFIN:Hid (∃A7 c7,wz.heap[y1.heap.size]?=some (.cells #[.int .i64 (n:Int), .slice A7 m c7, .slice none 0 0] 59 (0,0))/\wz.ownsRow wd.heap.size 132 3 (.slice A7 m c7) m (aaD H.blks)/\wd.heap.size<=y1.heap.size/\Below wd.heap.size wd wz):=(show ∃_,_ from
      ⟨A7,c7,nz.out,acw oY nM (by decide) (fun k hk=>by rw[<-hz.out,heap_setCell_other _ _ _ _ hk,heap_setCell_other _ _ _ _ hk,heap_setCell_other _ _ _ _ hk]),hgm,bz.out _ _ hgm bc3⟩)
     go_wp2_with (first | (rw[hz.out]) | fail)
     go_meet
     case rel=>exact⟨_,rfl,HFIN.out⟩
   case wa29=>
    obtain⟨y2,hx2⟩:∃x,y1.alloc (.cells #[.int .i64 0, .slice none 0 0, .slice none 0 0] 59)=x:=⟨_,rfl⟩;have bx2:=abE hx2;have nM:=anE hx2;have hlm:=aaa nM;refine aag (some 3) (w1:=y2) (v:= .pointer (some ⟨y1.heap.size,0,none⟩)) rfl rfl rfl (by rw[<-hx2];exact adR _ _ rfl y1) (bx2.mono bc1.size) ⟨wd.heap.size,Nat.le_refl _,?_⟩;have bc2:Below wd.heap.size wd y2:=bc1.trans (bx2.mono bc1.size);have hgm:wd.heap.size<=y1.heap.size:=bc1.size;have hll:wd.heap.size<y1.heap.size:=(oL.lt _ rfl).2;have oL:=aaO oL bx2 (abl oL);simp only[Act.put,lE4,lE5,lE6];refine aal (l:= []) rfl (wpQuiet_nil ?_);refine aaf (vs:= #[.pointer (some ⟨p,0,none⟩)]) Tryz.call69 rfl rfl rfl (R:=fun r w'=>r= .int .i64 (n:Int)/\y2=w') ((HLEN.out y2 (HBWD.out.trans (bc2.mono HBWD.out.size))).mono ?_) wd.heap.size (Nat.le_refl _) ?_
    · rintro e w' ⟨rfl,rfl⟩;exact⟨_,rfl,(Below.refl _ _).mono bc2.size,rfl,rfl⟩
    rintro r w' _ ⟨rfl,rfl⟩;simp only[Act.put,lE4,lE5,lE6];refine aal (l:= []) rfl (wpQuiet_nil ?_);have sr:=HSRC.out.below bc2 (fun a e=>HBLT.out a e);refine abc (some 12) (.tmp 7) (.tmp 11) 56 132 rfl rfl rfl rfl Tryz.underlying56 (.agg #[.int .i64 0, .int .i64 0, .bool false]) 3 24 ado rfl (by decide) wd.heap.size (.slice (some ⟨wd.heap.size,0,none⟩) 0 0) 0 [] rfl oL (Nat.le_refl _) bc2.size Ab m cb (aaD H.blks) rfl HFL.out sr (abx H.blks) (by have:=HM5.out;omega) (by omega) ?_;intro v7 y3 oY bx3 gr;rw[Nat.zero_add,List.nil_append]at oY;have bc3:Below wd.heap.size wd y3:=bc2.trans bx3;refine⟨wd.heap.size,Nat.le_refl _,?_⟩;obtain⟨A7,c7,rfl⟩:=aa4 oY;have nM:=acP gr nM (fun e=>by injection e with e;have e:wd.heap.size=y1.heap.size:=e;omega);have hlm:=aaa nM;simp only[Act.put,lE4,lE5,lE6];refine aaF (l:= ?fl6) (t:= ?ft6) ?hfl6 ?hft6 ?_
    case hfl6=>simp only[pick,lE1,lE2,lE3];rfl
    case hft6=>simp only[pick,lE1,lE2,lE3];rfl
    repeat (go_big_quiet_step (fail))
    refine wpQuiet_nil ?_;obtain⟨wz,hz,nz,bz,⟨z0,z1,z2⟩,⟨e0,e1,e2⟩,hle⟩:=afj (hE0 nM) (.int .i64 (n:Int)) (.slice A7 m c7) (.slice none 0 0);have HFIN:Hid (∃A7 c7,wz.heap[y1.heap.size]?=some (.cells #[.int .i64 (n:Int), .slice A7 m c7, .slice none 0 0] 59 (0,0))/\wz.ownsRow wd.heap.size 132 3 (.slice A7 m c7) m (aaD H.blks)/\wd.heap.size<=y1.heap.size/\Below wd.heap.size wd wz):=(show ∃_,_ from
     ⟨A7,c7,nz.out,acw oY nM (by decide) (fun k hk=>by rw[<-hz.out,heap_setCell_other _ _ _ _ hk,heap_setCell_other _ _ _ _ hk,heap_setCell_other _ _ _ _ hk]),hgm,bz.out _ _ hgm bc3⟩)
    go_wp2_with (first | (rw[hz.out]) | fail)
    go_meet
    case rel=>exact⟨_,rfl,HFIN.out⟩
  case wa9=>
   obtain⟨y1,hx1⟩:∃x,wd.alloc (.cells #[.int .i64 0, .slice none 0 0, .slice none 0 0] 59)=x:=⟨_,rfl⟩;have bx1:=abE hx1;have nM:=anE hx1;have hlm:=aaa nM;refine aag (some 3) (w1:=y1) (v:= .pointer (some ⟨wd.heap.size,0,none⟩)) rfl rfl rfl (by rw[<-hx1];exact adR _ _ rfl wd) (bx1.mono bc0.size) ⟨wd.heap.size,Nat.le_refl _,?_⟩;have bc1:Below wd.heap.size wd y1:=bc0.trans (bx1.mono bc0.size);have hgm:wd.heap.size<=wd.heap.size:=bc0.size;simp only[Act.put,lE4,lE5,lE6];refine aaT (l:= []) rfl (wpQuiet_nil ?_);refine⟨?wa91,?wa92⟩
   case wa91=>
    refine aaf (vs:= #[.pointer (some ⟨p,0,none⟩)]) Tryz.call69 rfl rfl rfl (R:=fun r w'=>r= .int .i64 (n:Int)/\y1=w') ((HLEN.out y1 (HBWD.out.trans (bc1.mono HBWD.out.size))).mono ?_) wd.heap.size (Nat.le_refl _) ?_
    · rintro e w' ⟨rfl,rfl⟩;exact⟨_,rfl,(Below.refl _ _).mono bc1.size,rfl,rfl⟩
    rintro r w' _ ⟨rfl,rfl⟩;simp only[Act.put,lE4,lE5,lE6];refine aal (l:= []) rfl (wpQuiet_nil ?_);obtain⟨y2,hx2⟩:∃x,y1.alloc (.cells #[] 132)=x:=⟨_,rfl⟩;have bx2:=abE hx2;have oL:y2.ownsRow wd.heap.size 132 3 (.slice (some ⟨y1.heap.size,0,none⟩) 0 0) 0 []:=by rw[<-hx2];exact aaY (World.ownsRow_lit y1 _ 0 (Nat.le_refl _) (by unfold maxLen;omega) rfl) bc1.size
    refine aag (some 7) (w1:=y2) (v:= .slice (some ⟨y1.heap.size,0,none⟩) 0 0) rfl rfl rfl (by rw[<-hx2];exact aah rfl rfl (ab9 y1)) (bx2.mono bc1.size) ⟨wd.heap.size,Nat.le_refl _,?_⟩;have bc2:Below wd.heap.size wd y2:=bc1.trans (bx2.mono bc1.size);have nM:=(bx2.block _ (aaa nM)).trans nM;have hlm:=Nat.lt_of_lt_of_le hlm bx2.size;simp only[Act.put,lE4,lE5,lE6];refine aal (l:= []) rfl (wpQuiet_nil ?_);have sr:=HSRC.out.below bc2 (fun a e=>HBLT.out a e);refine abc (some 12) (.tmp 7) (.tmp 11) 56 132 rfl rfl rfl rfl Tryz.underlying56 (.agg #[.int .i64 0, .int .i64 0, .bool false]) 3 24 ado rfl (by decide) wd.heap.size (.slice (some ⟨y1.heap.size,0,none⟩) 0 0) 0 [] rfl oL (Nat.le_refl _) bc2.size Ab m cb (aaD H.blks) rfl HFL.out sr (abx H.blks) (by have:=HM5.out;omega) (by omega) ?_;intro v7 y3 oY bx3 gr;rw[Nat.zero_add,List.nil_append]at oY;have bc3:Below wd.heap.size wd y3:=bc2.trans bx3;refine⟨wd.heap.size,Nat.le_refl _,?_⟩;obtain⟨A7,c7,rfl⟩:=aa4 oY;have nM:=acP gr nM (fun e=>by injection e with e;have e:y1.heap.size=wd.heap.size:=e;omega);have hlm:=aaa nM;simp only[Act.put,lE4,lE5,lE6];refine aaF (l:= ?fl7) (t:= ?ft7) ?hfl7 ?hft7 ?_
    case hfl7=>simp only[pick,lE1,lE2,lE3];rfl
    case hft7=>simp only[pick,lE1,lE2,lE3];rfl
    repeat (go_big_quiet_step (fail))
    refine wpQuiet_nil ?_;obtain⟨wz,hz,nz,bz,⟨z0,z1,z2⟩,⟨e0,e1,e2⟩,hle⟩:=afj (hE0 nM) (.int .i64 (n:Int)) (.slice A7 m c7) (.slice none 0 0);have HFIN:Hid (∃A7 c7,wz.heap[wd.heap.size]?=some (.cells #[.int .i64 (n:Int), .slice A7 m c7, .slice none 0 0] 59 (0,0))/\wz.ownsRow wd.heap.size 132 3 (.slice A7 m c7) m (aaD H.blks)/\wd.heap.size<=wd.heap.size/\Below wd.heap.size wd wz):=(show ∃_,_ from
     ⟨A7,c7,nz.out,acw oY nM (by decide) (fun k hk=>by rw[<-hz.out,heap_setCell_other _ _ _ _ hk,heap_setCell_other _ _ _ _ hk,heap_setCell_other _ _ _ _ hk]),hgm,bz.out _ _ hgm bc3⟩)
    go_wp2_with (first | (rw[hz.out]) | fail)
    go_meet
    case rel=>exact⟨_,rfl,HFIN.out⟩
   case wa92=>
    obtain⟨y2,hx2⟩:∃x,y1.alloc (.cells #[] 132)=x:=⟨_,rfl⟩;have bx2:=abE hx2;have oL:y2.ownsRow wd.heap.size 132 3 (.slice (some ⟨y1.heap.size,0,none⟩) 0 0) 0 []:=by rw[<-hx2];exact aaY (World.ownsRow_lit y1 _ 0 (Nat.le_refl _) (by unfold maxLen;omega) rfl) bc1.size
    refine aag (some 7) (w1:=y2) (v:= .slice (some ⟨y1.heap.size,0,none⟩) 0 0) rfl rfl rfl (by rw[<-hx2];exact aah rfl rfl (ab9 y1)) (bx2.mono bc1.size) ⟨wd.heap.size,Nat.le_refl _,?_⟩;have bc2:Below wd.heap.size wd y2:=bc1.trans (bx2.mono bc1.size);have nM:=(bx2.block _ (aaa nM)).trans nM;have hlm:=Nat.lt_of_lt_of_le hlm bx2.size;simp only[Act.put,lE4,lE5,lE6];refine aal (l:= []) rfl (wpQuiet_nil ?_);refine aaf (vs:= #[.pointer (some ⟨p,0,none⟩)]) Tryz.call69 rfl rfl rfl (R:=fun r w'=>r= .int .i64 (n:Int)/\y2=w') ((HLEN.out y2 (HBWD.out.trans (bc2.mono HBWD.out.size))).mono ?_) wd.heap.size (Nat.le_refl _) ?_
    · rintro e w' ⟨rfl,rfl⟩;exact⟨_,rfl,(Below.refl _ _).mono bc2.size,rfl,rfl⟩
    rintro r w' _ ⟨rfl,rfl⟩;simp only[Act.put,lE4,lE5,lE6];refine aal (l:= []) rfl (wpQuiet_nil ?_);have sr:=HSRC.out.below bc2 (fun a e=>HBLT.out a e);refine abc (some 12) (.tmp 7) (.tmp 11) 56 132 rfl rfl rfl rfl Tryz.underlying56 (.agg #[.int .i64 0, .int .i64 0, .bool false]) 3 24 ado rfl (by decide) wd.heap.size (.slice (some ⟨y1.heap.size,0,none⟩) 0 0) 0 [] rfl oL (Nat.le_refl _) bc2.size Ab m cb (aaD H.blks) rfl HFL.out sr (abx H.blks) (by have:=HM5.out;omega) (by omega) ?_;intro v7 y3 oY bx3 gr;rw[Nat.zero_add,List.nil_append]at oY;have bc3:Below wd.heap.size wd y3:=bc2.trans bx3;refine⟨wd.heap.size,Nat.le_refl _,?_⟩;obtain⟨A7,c7,rfl⟩:=aa4 oY;have nM:=acP gr nM (fun e=>by injection e with e;have e:y1.heap.size=wd.heap.size:=e;omega);have hlm:=aaa nM;simp only[Act.put,lE4,lE5,lE6];refine aaF (l:= ?fl8) (t:= ?ft8) ?hfl8 ?hft8 ?_
    case hfl8=>simp only[pick,lE1,lE2,lE3];rfl
    case hft8=>simp only[pick,lE1,lE2,lE3];rfl
    repeat (go_big_quiet_step (fail))
    refine wpQuiet_nil ?_;obtain⟨wz,hz,nz,bz,⟨z0,z1,z2⟩,⟨e0,e1,e2⟩,hle⟩:=afj (hE0 nM) (.int .i64 (n:Int)) (.slice A7 m c7) (.slice none 0 0);have HFIN:Hid (∃A7 c7,wz.heap[wd.heap.size]?=some (.cells #[.int .i64 (n:Int), .slice A7 m c7, .slice none 0 0] 59 (0,0))/\wz.ownsRow wd.heap.size 132 3 (.slice A7 m c7) m (aaD H.blks)/\wd.heap.size<=wd.heap.size/\Below wd.heap.size wd wz):=(show ∃_,_ from
     ⟨A7,c7,nz.out,acw oY nM (by decide) (fun k hk=>by rw[<-hz.out,heap_setCell_other _ _ _ _ hk,heap_setCell_other _ _ _ _ hk,heap_setCell_other _ _ _ _ hk]),hgm,bz.out _ _ hgm bc3⟩)
    go_wp2_with (first | (rw[hz.out]) | fail)
    go_meet
    case rel=>exact⟨_,rfl,HFIN.out⟩
 case rest=>
  obtain⟨gm,rfl,A7,c7,nM,oY,hgm,hbc⟩:=hcut;have hmap:(H.blks.map toR).length=m:=by rw[List.length_map];exact HMM.out
  have HLL:=hE0 hmap;have hin:asz (H.blks.map toR):=fun x hx=>by
   obtain⟨y,hy,rfl⟩:=List.mem_map.1 hx;obtain⟨h1,h2,h3⟩:=(aau _ _ _ HOK.out.tl).2 y hy;have:=HOK.out.le;unfold toR;dsimp only;omega
  have HIM3:Hid (ImB wd.heap.size gm (n:Int) A7 c7 (H.blks.map toR) none 0 [] [] wc):=⟨by rw[hmap];exact nM,by rw[hmap,<-aiK];exact oY,World.ownsRow_nil _ _ _ _,fun i y h=>by simp at h,hgm,hin⟩;have HB3:=hE0 hbc;obtain⟨FF,hFF⟩:=nmE (afl H.blks H.ds);have HFF:=hE0 hFF;clear hmap hin nM oY hgm hbc hFF hc1 hflt;go_wp2_with fail
  obtain⟨j0,ji,jz0,jz1,jz2⟩:=info_parts ajh;go_loopw [4] (fun t W=>∃(j:Nat) (A2:Option Addr) (c2:Nat) (d:List (List UInt8)) (xs:List Value),t= .int .i64 (j:Int)/\j<=m/\ImB wd.heap.size gm (n:Int) A7 c7 (H.blks.map toR) A2 c2 d xs W/\d++afl (H.blks.drop j) (H.ds.drop j)=FF/\d.length<=j/\Below wd.heap.size wd W) (fun t _=>m-(intOf t).toNat)
  case atStart=>exact⟨0,none,0,[],[],rfl,Nat.zero_le _,HIM3.out,HFF.out,Nat.le_refl _,HB3.out⟩
  case round=>
   obtain⟨j,A2,c2,d,xs,rfl,hj,him,hdf,hdl,hb⟩:=hrel;have hbw:=HBWD.out.trans (hb.mono HBWD.out.size);have hdr:=HD.out.below hbw;obtain⟨Vb,Vd,gl,cs,hm⟩:=hdr.hm;obtain⟨Ah,ch,rfl⟩:=aa4 hm.ob;have c1:=hm.c1;have hlp:=hm.lt;rw[HMM.out]at c1;by_cases hlt:j<m
   · have hm512:=HM5.out;obtain⟨x,hx⟩:∃x,H.blks[j]?=some x:=⟨H.blks[j]'(by rw[HMM.out];exact hlt),List.getElem?_eq_getElem _⟩;have hrk:RkRd wr wr.heap.size Ah (H.blks.map toR):=aef (by
      have:=hm.ob;rw[aiK]at this;rw[List.length_map];exact this) him.hl
     obtain⟨b2,o,rfl,hbb,hcl⟩:=hrk (by rw[HLL.out];omega);obtain⟨_,_,r2,_,_⟩:=hcl j (toR x) (by rw[List.getElem?_map,hx];rfl);obtain⟨bD,cD,AD,kD,q2,_,hbD,hmD,qj,_,hmem,hnil,hown⟩:=hdr.at_i HOK.out (i:=j) (by rw[HMM.out];exact hlt);rw[HMM.out]at q2 hmD;obtain⟨dd,hdd⟩:=nmE (H.ds.getD j acB);rw[hdd]at qj hmem hnil hown;have hds:H.ds[j]?=some dd:=by
      have h1:j<H.ds.length:=by rw[HOK.out.dl,HMM.out];exact hlt
      rw[List.getD_eq_getElem?_getD,List.getElem?_eq_getElem h1]at hdd;rw[List.getElem?_eq_getElem h1];exact congrArg some hdd
     rw[aoQ hx hds]at hdf;have hyb:=HDD.out dd hmem;obtain⟨y,hy⟩:=nmE dd.2;rw[hy]at qj hnil hown hdf hyb;obtain⟨q,hyl⟩:=nmE y.length;rw[hyl]at qj hown hyb;obtain⟨xo,xz,xu⟩:=x;dsimp only[toR]at r2 hdf;have ho:=him.obj;rw[HLL.out]at ho;obtain⟨d0,d1,d2⟩:=aac ho;have hlm:=aaa ho;have hlD:(j:Int)<(m:Int):=by omega
     have HDF:=hE0 hdf;have HIM:=hE0 him;have HB:=hE0 hb;have hsrcD:Src wr AD q kD (y.map bv):=by
      rcases AD with _ | ad
      · obtain⟨e1,e2⟩:=hnil rfl;refine⟨fun _=>⟨by rw[<-hyl,e1];rfl,e2,by rw[e1];rfl⟩,fun ad e=>(by cases e)⟩
      · refine⟨fun e=>(by cases e),fun ad' e k u hu=> ?_⟩;injection e with e;subst e;obtain⟨b,rfl,_,_,ho⟩:=hown ad rfl;rw[aq9,Nat.zero_add];have hk:k<q*1:=by
         rcases Nat.lt_or_ge k (q*1)with h' | h'
         · exact h'
         · rw[List.getElem?_eq_none (by rw[List.length_map,hyl];omega)]at hu;cases hu
        rw[ho.cellAt k hk];exact hu
     have hADlt:∀a,AD=some a->a.block<wr.heap.size:=fun a e=>by
      obtain⟨b,rfl,_,hlt',_⟩:=hown a e;exact hlt'
     have HSD:=hE0 hsrcD;have HAD:=hE0 hADlt;have HYL:=hE0 hyl;clear hx hcl hdf him hb ho hrk hdr hm hmem hnil hown hds hdd hy hyl hsrcD hADlt hbw
     cases xu with
     | false=>
      have HF2:Hid (d++afl (H.blks.drop (j+1)) (H.ds.drop (j+1))=FF):=(show _=_ by simpa using HDF.out);go_wp2_with fail
      go_roundw
      case rel=>exact⟨j+1,A2,c2,d,xs,by go_num,by omega,HIM.out,HF2.out,by omega,HB.out⟩
      case measure=>simp only[intOf];omega
     | true=>
      have HF2:Hid ((d++ [y])++afl (H.blks.drop (j+1)) (H.ds.drop (j+1))=FF):=(show _=_ by
       have:=HDF.out;rw[if_pos rfl]at this;rw[List.append_assoc];exact this)
      obtain⟨wD,hwD⟩:=nmE wr.drew;have hbD':Below wr.heap.size wr wD:=by rw[<-hwD];exact(Below.refl _ _).drew
      have himD:=HIM.out.stay hbD';have hBD:=HB.out.trans (hbD'.mono HB.out.size);have hoD:=himD.obj;rw[HLL.out]at hoD;obtain⟨f0,f1,f2⟩:=aac hoD;have hlDD:=aaa hoD;have s2:=(hbD'.cell (p:=⟨p,2,none⟩) hlp).trans q2;have sj:=(hbD'.cell (p:=⟨bD,j,none⟩) hbD).trans qj;have hlp2:=Nat.lt_of_lt_of_le hlp hbD'.size;have hbD2:=Nat.lt_of_lt_of_le hbD hbD'.size;have HWDD:=hE0 hwD;obtain⟨wE,hwE⟩:=nmE (wD.alloc (.cells #[] 5));have hro:=afB wD;rw[hwE]at hro;have hbE:=abE hwE;have owE:wE.ownsRow wD.heap.size 5 1 (.slice (some ⟨wD.heap.size,0,none⟩) 0 0) 0 (([]:List UInt8).map bv):=by rw[<-hwE];exact World.ownsRow_lit wD _ 0 (Nat.le_refl _) (by unfold maxLen;omega) rfl
      have HIMD:=hE0 himD;have HBDD:=hE0 hBD;have HOWE:=hE0 owE;have HSE:=hE0 ((HSD.out.below hbD' HAD.out).below (hbE.mono hbD'.size) HAD.out);clear hwD hbD' himD hBD hoD hwE owE;go_wp2_with fail
      refine aad wD.heap.size [([0,1,3,4,5,6,7,8,9],2),([],10),([],11)] [] [12,13,14] (by kernel_rfl) (by kernel_rfl) (by kernel_rfl) (fun _ _ _ _ _ h=>h) ?_;rw[HWDD.out];have t2:=tfE f2 hlDD;have t3:=tfE s2 hlp2;have t4:=tfE sj hbD2;refine tail_cons (l:= ?segA) ?hsegA ?_
      case hsegA=>simp only[pick,lE1,lE2,lE3];rfl
      repeat (go_big_quiet_step (fail))
      refine wpQuiet_nil ?_;clear t2 t3 t4;refine aag (some 33) (w1:=wE) (v:= .slice (some ⟨wD.heap.size,0,none⟩) 0 0) rfl rfl rfl ?rv3 hbE ⟨wD.heap.size,Nat.le_refl _,?_⟩
      case rv3=>exact aah rfl rfl hro
      simp only[Act.put,lE4,lE5,lE6];refine tail_cons (l:= []) rfl (wpQuiet_nil ?_);refine abc (some 41) (.tmp 33) (.tmp 40) 37 5 rfl rfl rfl rfl Tryz.underlying37 (.int .u8 0) 1 1 aca rfl (by decide) wD.heap.size (.slice (some ⟨wD.heap.size,0,none⟩) 0 0) 0 (([]:List UInt8).map bv) rfl HOWE.out (Nat.le_refl _) hbE.size AD q kD (y.map bv) rfl (by rw[List.length_map,HYL.out,Nat.mul_one]) HSE.out (adX y) (by omega) (by omega) ?_;intro x8 w6 own8 hb8 _;rw[List.map_nil,List.nil_append,Nat.zero_add]at own8;obtain⟨A6,k6,rfl,_⟩:=aaU own8;have ho6:=own8;have hb6:=hbE.trans hb8;have him6:=HIMD.out.stay hb6;have hB6:=HBDD.out.trans (hb6.mono HBDD.out.size);refine⟨w6.heap.size,hb6.size,?_⟩;simp only[Act.put,lE4,lE5,lE6];refine tail_cons (l:= []) rfl (wpQuiet_nil ?_);obtain⟨w7,hw7⟩:=nmE (w6.alloc (.cells #[.slice A6 q k6] 37));have hro7:=ad9 w6 A6 q k6;rw[hw7]at hro7;have hb7:=abE hw7;have n7:=anE hw7;have HIM7:=hE0 (him6.stay hb7);have HB7:=hE0 (hB6.trans (hb7.mono hB6.size));have ho7:=aaY (aaO ho6 hb7 (abl ho6)) (Nat.zero_le _);rw[<-HYL.out]at ho7;have Ho7:=hE0 ho7;have hB7s:wd.heap.size<=w7.heap.size:=HB7.out.size;have hnew:∀j u,[Value.slice A6 q k6][j]?=some u->w7.cell? ((⟨w6.heap.size,0,none⟩:Addr).add j)=some u:=fun j u hu=>by
       have e:(⟨w6.heap.size,0,none⟩:Addr).add j=⟨w6.heap.size,j,none⟩:=by unfold Addr.add;split<;>simp_all
       rw[e,cell_of_row w7 _ j _ _ (0,0) n7];simpa using hu
      have hone:∀u∈ [Value.slice A6 q k6],u.oneCell'=true:=fun u hu=>by
       simp at hu;subst hu;rfl
      have hdb:d.length<=2000:=by have:=HM5.out;omega
      refine aag (some 42) (w1:=w7) (v:= .slice (some ⟨w6.heap.size,0,none⟩) 1 1) rfl rfl rfl ?rv4 hb7 ⟨w7.heap.size,hb7.size,?_⟩
      case rv4=>exact aah rfl rfl hro7
      simp only[Act.put,lE4,lE5,lE6];refine aam (l:= ?lastA) (t:= ?tailA) ?hlastA ?htailA ?_
      case hlastA=>rfl
      case htailA=>simp only[pick,lE1,lE2,lE3];rfl
      refine wpQuiet_nil ?_;refine wpList_append_own _ rfl (.tmp 32) (.tmp 42) 57 rfl wd.heap.size 37 j0 _ 1 24 Tryz.underlying57 ji jz0 jz1 jz2 rfl (by decide) (.slice A2 d.length c2) d.length xs rfl HIM7.out.rd ⟨w6.heap.size,0,none⟩ 1 1 [.slice A6 q k6] rfl rfl hnew hone (by unfold maxLen;omega) (by omega) hB7s ?_;intro x9 wG own9 gr9 _;obtain⟨A2',c2',rfl,hg8,him8,hb8'⟩:=HIM7.out.pushD (y:=y) (by rw[HYL.out];exact hyb) Ho7.out (by rw[HYL.out];exact own9) gr9 HB7.out (Nat.le_refl _) hB7s;have e8:=hg8.trans HIM7.out.obj;rw[HLL.out]at e8;obtain⟨c80,c81,c82⟩:=aac e8;obtain⟨t80,t81,t82⟩:=aay e8;have hl8:=aaa e8;have HIM8:=hE0 him8;have HB8x:=hE0 hb8';clear own8 hb8 ho6 hb6 him6 hB6 hw7 hro7 hb7 n7 ho7 hnew hone own9 gr9 hg8 him8 hb8' e8 hro hbE f0 f1 f2 hlDD d0 d1 d2 hlm s2 sj hlp2 hbD2 r2 q2 qj hbb;go_wp2
      go_roundw
      case rel=>exact⟨j+1,A2',c2',d++ [y],_,by go_num,by omega,HIM8.out,HF2.out,by rw[List.length_append,List.length_singleton];omega,HB8x.out⟩
      case measure=>simp only[intOf];omega
   · rw[aoR (by rw[HMM.out];omega),List.append_nil]at hdf;subst hdf;have hN9:=(hb.block _ (aaa n1d.out)).trans n1d.out;have hB9:=HBWD.out.trans (hb.mono HBWD.out.size);have hl9:=aaa hN9;obtain⟨t0,t1,t2⟩:=aay hN9;obtain⟨z0,z1,z2⟩:=aac hN9;obtain⟨dl,hdl2⟩:=nmE d.length;have ho:=him.obj;rw[HLL.out,hdl2]at ho;obtain⟨d0,d1,d2⟩:=aac ho;have hlm:=aaa ho;have HM:=hE0 (aa5 hN9 (.int .i64 (n:Int)) (.slice A7 m c7) (.slice A2 dl c2));have HF:=hE0 (((hB9.setCell (p:=⟨w.heap.size,0,none⟩) (Nat.le_refl _) (.int .i64 (n:Int))).setCell (p:=⟨w.heap.size,1,none⟩) (Nat.le_refl _) (.slice A7 m c7)).setCell (p:=⟨w.heap.size,2,none⟩) (Nat.le_refl _) (.slice A2 dl c2));have HLAID:=hE0 (him.laid (aaa n1d.out) hN9 (.int .i64 (n:Int)) (.slice A7 m c7) (.slice A2 dl c2));have HDL:=hE0 hdl2;clear hN9 hB9 him hb ho hdl2 hdr hm hbw;go_wp2
     (try simp only[Exit.inBlock,Exit.then])
     refine asc (g:=w.heap.size) Tryz.results20 ?_ ?_ HM.out ?_
     · rfl
     · rfl
     · rw[HFF.out];exact⟨A7,A2,c7,c2,by rw[HDL.out],HLAID.out.1,HLAID.out.2,HF.out⟩
end
theorem ahO (cap s:Nat):∀k c,(aaX cap).findC s k c=none
 | 0,_=>rfl
 | k+1,c=>by
  unfold Hp.findC;exact ahO cap s k (c+1)
theorem agU (cap s:Nat):(aaX cap).find s=none:=ahO cap s _ _
theorem acx{cap s:Nat}(hr:184+s<=cap):(aaX cap).take s=(some 184,⟨cap,[⟨184,s,true⟩],[acB],fun _=> []⟩):=by
 unfold Hp.take;rw[agU];dsimp only;rw[if_neg (by show ¬cap<184+0+s-0;omega),if_neg (by show ¬0<0;omega)];rfl
theorem aoS{cap:Nat}:(aaX cap).Ok:=⟨by unfold ach;rfl,by unfold aaX acz;simp[adx],rfl⟩
theorem aqN{cap:Nat}:(aaX cap).Few 0:=by
 unfold Hp.Few aaX;simp
theorem akP{cap:Nat}:(aaX cap).Listed:=fun _ _ _ ho=>by cases ho
theorem asW{cap s:Nat}(hs:aa3 (s:Int)=true) (hr:184+s<=cap) (hc:cap<=16384){b:List UInt8}(hb:List.replicate 184 (0:UInt8)++List.replicate s 0=b) (x:Bk) (hx:x=⟨184,s,true⟩):
 setB b ((184:Nat):Int) (s:Int) true=some (ac6 b x)/\b.length=184+s/\Rt (ac6 b x) ⟨cap,[x],[acB],fun _=> []⟩:=by
 have o1:x.off=184:=by rw[hx]
 have z1:x.size=s:=by rw[hx]
 have u1:x.used=true:=by rw[hx]
 have ss:=(aae _).1 hs;have hl:b.length=184+s:=by rw[<-hb,List.length_append,List.length_replicate,List.length_replicate]
 have hsx:aa3 (x.size:Int)=true:=by rw[z1];exact hs
 have hle:x.off+x.size<=b.length:=by omega
 have hlen:(ac6 b x).length=b.length:=adD hsx hle;have hat:abV (ac6 b x) (x.off:Int)=some x:=ans (by omega) (by omega) hle hsx;have hw:∀p,p+8<=184->aai (ac6 b x) p=0:=fun p hp=>by
  rw[acW hsx hle p (.inl (by omega)),<-hb];exact acm _ 184 p hp
 have hst:Stands (ac6 b x) [x]:=⟨fun y hy=>by rw[List.mem_singleton.1 hy];exact hat,fun y hy z hz=> .inl (by rw[List.mem_singleton.1 hy,List.mem_singleton.1 hz])⟩;have hwk:abJ (ac6 b x)=some [x]:=adn (by rw[hlen,hl];exact⟨o1,hsx,by show 184+x.size=_;omega⟩) hst.at_;have hli:Lists (ac6 b x) [x] (fun _=> []):=aes (by omega) (by omega) hst fun p hp _=>hw p hp;have e1:=aoj b x (by omega) (by omega) hle hsx;rw[o1,z1,u1]at e1;refine⟨e1,hl,hwk,fun c hc=>hli.all hc (Nat.zero_le _),?_,by show _<=cap;omega⟩;have e:abL [x]=fun _=> []:=by funext c;unfold abL;simp[u1]
 rw[ad6 hwk (by rw[e];exact hli) (by rw[hw 0 (by omega)];omega)];rfl
section
variable {w:World} {p q g base cap c:Nat} {A:Option Addr} {z:List UInt8} {F G:Nat->Prop}
theorem amV (h:Ar w 160 g base cap A c z) (hz:List.replicate 184 (0:UInt8)=z) (hb:base<=4611686018427387904) (hcap:cap<=16384) (s:Nat) (hs:aa3 (s:Int)=true) (hr:184+s<=cap):
 Calls Tryz.prog 148 #[.pointer (some ⟨g,0,none⟩), .int .i64 (s:Int)] w fun e w'=>afe g base cap A z (aaX cap) ((aaX cap).take s) w e w':=by
 have ss:=(aae _).1 hs;have hzl:z.length=184:=by rw[<-hz];exact List.length_replicate
 have hF:=findC w g base cap c A z (s:Int) h hb (by omega) ⟨by omega,by omega⟩;unfold amD at hF;have hfi:=(aoD hz cap (by omega)).finds hs;rw[if_pos hs,hfi,show(⟨cap,[],[],fun _=> []⟩:Hp).find s=none from agU cap s]at hF;dsimp only[Option.getD,Option.map,Option.isSome,abm]at hF;have HF:=hE0 hF;obtain⟨b,hbz⟩:=nmE (List.replicate 184 (0:UInt8)++List.replicate s 0);obtain⟨x,hx⟩:∃x:Bk,x=⟨184,s,true⟩:=⟨_,rfl⟩;obtain⟨e2,hbl,hrt⟩:=asW hs hr hcap hbz x hx;have hbz2:z++List.replicate (s-0) 0=b:=by rw[<-hbz,<-hz];rfl
 have hw0:word? z ((z.length:Int)-8)=some 0:=by
  unfold word?;rw[hzl,if_pos ⟨by omega,by omega⟩];have:=acm [] 184 (((184:Nat):Int)-8).toNat (by omega);rw[List.append_nil,hz]at this;rw[this]
 have hE:=fun w2 (hB:Below w.heap.size w w2)=>ajD (h.below hB) hb hcap (by omega) s 0 184 (Nat.zero_le _) (by omega) (by omega) (by omega) b (ac6 b x) (by omega) e2
  ((ajA (w:=w2) (z.length:Int) fun w1 hb1=>arU ((h.below hB).below hb1) hb (by omega) (z.length:Int) (by omega) 0 (by omega) hw0 rfl).mono (fun e w' h'=>by rw[hzl]at h';exact h'))
  (fun w3 hB3=>(ajB ((184:Nat):Int)).mono fun e w4 h'=>⟨h'.1,adg (by rw[hbz2]at hB3;exact hB3) h'.2,Loc.below h'.2⟩)
 dsimp only[abm]at hE;have HE:=hE0 hE;have HR:=hE0 hrt;have BC:=hE0 (show Became 160 g base cap A z w w from⟨A,c,h,Tch.refl _ _, .inl rfl⟩);have HT:=hE0 (acx hr);have HX:=hE0 hx;clear hF hfi h hrt hE e2 hbz hbz2 hw0 hz hx ss;go_enter Tryz.func148,Tryz.ntmps148
 go_wp2_with fail
 with_reducible refine HF.out.mono ?_
 rintro e w2 ⟨rfl,hb2⟩;have HE2:=hE0 (HE.out w2 hb2);have HB2:=hE0 hb2;clear hb2 HF HE BC;go_wp2_with fail
 refine HE2.out.mono ?_;rintro e w4 ⟨rfl,hb4⟩;have HB4:=hE0 (hb4.after HB2.out);clear hb4 HE2 HB2;go_wp2
 go_ret2
 rw[HT.out];refine⟨rfl,_,HB4.out,?_,fun y hy=>by cases hy⟩;rw[<-HX.out];exact HR.out
theorem aoT (hcap:cap<=16384) (s o:Nat) (out:List UInt8) (hs:aa3 (s:Int)=true) (hr:184+s<=cap) (ho:((aaX cap).take s).1=some o) (h1:Rt out ((aaX cap).take s).2) (v:UInt8):
 ∃i y,atB (o:Int) ((aaX cap).take s).2.blks=some i/\((aaX cap).take s).2.blks[i]?=some y/\y.off=o/\y.used=true/\s<=y.size/\y.off+y.size<=out.length/\RtD (lay out (o+8) (List.replicate (y.size-16) v)) ((((aaX cap).take s).2.wipe i).fill i v):=by
 rw[acx hr]at ho h1 ⊢;injection ho with ho;subst ho;have ss:=(aae _).1 hs;have hl:=h1.lenE;have hl2:out.length=184+s:=by rw[<-hl];unfold acz;simp[adx]
 refine⟨0,⟨184,s,true⟩,rfl,rfl,rfl,rfl,Nat.le_refl _,by show 184+s<=_;omega,?_⟩;have hll:(List.replicate (s-16) v).length=s-16:=List.length_replicate;have eL:agS [] (s-16) v=List.replicate (s-16) v:=by unfold agS;simp
 show RtD (lay out (184+8) (List.replicate (s-16) v)) ((⟨cap,[⟨184,s,true⟩],[acB],fun _=> []⟩:Hp).dset 0 (.slice none 0 0,agS [] (s-16) v));refine RtD.fills (y:=⟨184,s,true⟩) h1 rfl rfl rfl (.slice none 0 0) (by rw[eL,hll];show s-16+16=s;omega) (ajz (x:=⟨184,s,true⟩) _ _ (Nat.le_refl _) (by rw[hll];show 184+8+(s-16)+8<=184+s;omega) (by show 184+s<=_;omega)) (fun k hk=> ?_) (fun j x d ha _ hne=> ?_)
 · rw[eL]at hk ⊢;exact ara out (184+8) _ (by omega) k hk
 · have h2:=ha.1
   cases j with
   | zero=>exact absurd rfl hne
   | succ j=>cases h2
theorem afS (h:PH w q g base cap A c z (aaX cap)) (hz:List.replicate 184 (0:UInt8)=z) (n s:Nat) (hn:n<18446744073709551616) (hs:ab1 n=some s) (hr:184+s<=cap):
 Calls Tryz.prog 36 #[.pointer (some ⟨q,0,none⟩), .int .u64 (n:Int)] w fun e w'=>akL g base cap A ((aaX cap).get n 165) w e w':=
 amU n (aqI h n hn 165 (fun s' w1 hs' hb1=>by
  obtain rfl:s=s':=by rw[hs]at hs';injection hs'
  exact amV (h.ar.below hb1) hz h.b62 h.c16 s (agT hs) hr) fun s' o out hs' ho h1 _=>by
  obtain rfl:s=s':=by rw[hs]at hs';injection hs'
  exact aoT h.c16 s o out (agT hs) hr ho h1 165)
theorem alJ (n s:Nat) (hs:ab1 n=some s) (hr:184+s<=cap) (x:UInt8):((aaX cap).get n x).1=(192,0):=by
 rw[aiH (i:=0) hs (congrArg Prod.fst (acx hr)) (by rw[acx hr];rfl)]
theorem aqO (h:PH w q g base cap A c z (aaX cap)) (hz:List.replicate 184 (0:UInt8)=z) (hE:ET w) (h0:¬foot g A 0) (p n s m a bl k:Nat) (B:Option Addr) (b:List UInt8) (hn:n<18446744073709551616) (hs:ab1 n=some s) (hr:184+s<=cap):
 Calls Tryz.prog 14 #[.pointer (some ⟨q,0,none⟩),ag9 1 p n m a B bl k] w fun e w'=>alI ((aaX cap).doC 1 p n m a b).1 w e w'/\PTurn g base cap A ((aaX cap).doC 1 p n m a b).2 w w':=
 aqK h hE h0 p n m a bl k B b (fun _ hb=>afS (h.below hb) hz n s hn hs hr) fun W _=>by
  rw[alJ n s hs hr 165];exact akM W
theorem aoU (h:Hd F G w p (aaX cap)) (hc:cap<=16384) (n s:Nat) (hn:n<18446744073709551616) (hs:ab1 n=some s) (hr:184+s<=cap) (x:UInt8):
 Calls Tryz.prog 48 #[.pointer (some ⟨p,0,none⟩), .int .u64 (n:Int), .int .u8 (x.toNat:Int)] w fun e w'=>att F G w p ((aaX cap).get n x) e w':=
 asa h aoS hc n hn x (fun s' hs'=>by
  obtain rfl:s=s':=by rw[hs]at hs';injection hs'
  obtain⟨_,_,_,_,hmm⟩:=h.hm;exact aqm hmm aoS 0 aqN (by omega) akP s (agT hs) (by show cap<=_;omega) (agU cap s) rfl (by show ¬cap<184+0+s-0;omega)) (fun s' o hs' ho=>by
  obtain rfl:s=s':=by rw[hs]at hs';injection hs'
  rw[acx hr]at ho ⊢;injection ho with ho;subst ho;exact⟨0,rfl⟩)
theorem aoV (h:Hd F G w p (aaX cap)) (hc:cap<=16384) (q n s m a bl k:Nat) (B:Option Addr) (hn:n<18446744073709551616) (hs:ab1 n=some s) (hr:184+s<=cap):
 Calls Tryz.prog 16 #[.pointer (some ⟨p,0,none⟩),ag9 1 q n m a B bl k] w fun e w'=>arc F G w p (ar4 ((aaX cap).get n 165)) e w':=
 atx h q n m a bl k B _ fun _ hb=>aoU (h.below hb) hc n s hn hs hr 165
end
end Go.Proofs.YthnfclimjmmckaaGreatDoor
