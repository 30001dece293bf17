/-
  The library's slices.SortFunc at this program: each body is compared by the kernel.
-/
import Derived.Test.YtnjdckoljmgcjaaGreatDoorW25
import Derived.RangeFuncBox
import Derived.RangeFuncWrites
import Derived.Sort.MapsRangeIn
import Derived.RegionIn
import Derived.Shelf.SlSortCmp.WholeK
import Derived.Test.YtnjdckoljmgcjaaGreatDoorProg
import Derived.Sort.Grow
import Derived.Laws.OwnMore
set_option maxRecDepth 100000
set_option maxHeartbeats 4000000
namespace Go.Proofs.YtnjdckoljmgcjaaGreatDoor
open Go.ChangeShapes Go.WideShapes Go.ChangeAt Go.RowKit Go.Maps Go.WideMaps
set_option linter.unusedVariables false
set_option linter.unusedSimpArgs false
theorem ztY (r s:Int):(Tryz.prog.info? 55).map (·.size)=some (#[Value.int .i64 r,Value.int .i64 s]:Array Value).size:=by kernel_rfl
def Gt (w W:World) (k:Nat) (r s:Int) (base v g:Nat) (cur gen:Int) (m x mi:Nat) (l:List J) (nl:List Nt):Prop :=
 VAt W base v g cur gen m x mi l nl∧Blk W k 55 #[.int .i64 r,.int .i64 s]∧Blk W (k+1) 66 (rowJ zau)∧Below k w W∧w.heap.size=k∧(v<k∧m<k∧x<k∧mi<k)
section
variable {w W W':World} {k:Nat} {r s:Int} {base v g:Nat} {cur gen:Int} {m x mi:Nat} {l:List J} {nl:List Nt}
theorem Gt.on (h:Gt w W k r s base v g cur gen m x mi l nl) (hb:Below W.heap.size W W'):Gt w W' k r s base v g cur gen m x mi l nl :=
 ⟨h.1.on hb,h.2.1.below hb h.2.1.lt,h.2.2.1.below hb h.2.2.1.lt,h.2.2.2.1.trans (hb.mono (Nat.le_of_lt h.2.1.lt)),h.2.2.2.2⟩
theorem Gt.drew (h:Gt w W k r s base v g cur gen m x mi l nl):Gt w W.drew k r s base v g cur gen m x mi l nl:=h.on (zag (Below.refl _ _))
theorem Gt.other {q:Nat} (h:Gt w W k r s base v g cur gen m x mi l nl) (hq:k+1<q) (cs:Array Value):Gt w (W.setRow q cs) k r s base v g cur gen m x mi l nl:=by
 have t:=zaN W q cs
 obtain ⟨l1,l2,l3,l4⟩:=h.2.2.2.2.2
 exact ⟨h.1.stay t (by omega),h.2.1.turns t (by omega),h.2.2.1.turns t (by omega),zak h.2.2.2.1 (by omega),h.2.2.2.2⟩
end
theorem zje (base v g:Nat) (cur gen:Int) (m x mi:Nat) (l:List J) (nl:List Nt) (r s:Int) (w:World) (h:VAt w base v g cur gen m x mi l nl) (hr:zbl r) (hs:zbl s) (hall:∀z∈l,zbv z) :
  Calls Tryz.prog 36 #[.pointer (some ⟨v,0,none⟩),nm r s] w fun e w'=>e=.returned (.agg (rowJ (getV l r s)))∧Below w.heap.size w w':=by
 have HV:=hid h
 have HI:=hid (And.intro hr hs)
 have HOw:=hid (fun w (hh:hasV l r s=true)=>zmF (zhx l r s) w (by
  rw [zd2 hh]
  unfold hasV at hh
  obtain ⟨z,hz⟩:=Option.isSome_iff_exists.1 hh
  rw [zcN hz]
  have:=(hall z (zdD hz).1).sizes.1
  omega) (by
  rw [zd2 hh]
  unfold hasV at hh
  obtain ⟨z,hz⟩:=Option.isSome_iff_exists.1 hh
  rw [zcN hz]
  have:=(hall z (zdD hz).1).sizes.2
  omega))
 have HGs:Hid (hasV l r s=true→getV l r s=zhx l r s):=hid (fun hh=>(zd2 hh).symm)
 have HGn:Hid (hasV l r s=false→getV l r s=newJ r s):=hid (fun hh=>zek (by unfold hasV at hh;simpa using hh))
 clear h hr hs hall
 obtain ⟨lk,hlk⟩:∃z,zhx l r s=z:=⟨_,rfl⟩
 obtain ⟨gv,hgv⟩:∃z,getV l r s=z:=⟨_,rfl⟩
 obtain ⟨hb,hhb⟩:∃b,hasV l r s=b:=⟨_,rfl⟩
 rw [hlk,hhb] at HOw
 rw [hlk,hhb,hgv] at HGs
 rw [hhb,hgv] at HGn
 rw [hgv]
 have HLk:=hid (And.intro hlk hhb)
 clear hlk hhb hgv
 have L2:=hid (zaE lk)
 have L3:=hid (zaS lk)
 have LS:=hid (zaW zau lk)
 have LM:=hid (ztY r s)
 go_enter Tryz.func36,Tryz.ntmps36
 go_upto_region 1 with fail
 obtain ⟨W,hW⟩:∃W,(w.alloc (.cells #[.int .i64 r,.int .i64 s] 55)).alloc (.cells zrow 66)=W:=⟨_,rfl⟩
 rw [hW]
 obtain ⟨K0,K1,KB⟩:=zcE hW
 clear hW
 obtain ⟨k,hk⟩:∃k,w.heap.size=k:=⟨_,rfl⟩
 have A0:Hid (Gt w W k r s base v g cur gen m x mi l nl):=hid ⟨HV.out.on KB.out,by rw [←hk];exact K0.out,by rw [←hk];exact K1.out,by rw [←hk];exact KB.out,hk,by rw [←hk];exact HV.out.lts⟩
 rw [hk]
 clear hk K0 K1 KB HV
 obtain ⟨lo,hi,hbv⟩:=A0.out.drew.1.blk
 have HB:=hid hbv
 clear hbv
 obtain ⟨MB,hMB⟩:∃B,W.heap[m]?=B:=⟨_,rfl⟩
 have HMB:=hid hMB
 have HLook:Hid (∀w',w'.heap[m]?=MB→(Instr.lookup 92 (.map (some m)) (.agg #[.int .i64 r,.int .i64 s]) true).run Tryz.prog w'=.ok (.tuple #[.agg (rowJ lk),.bool hb]) w'):=hid (fun w' e=>by
  rw [←HLk.out.1,←HLk.out.2]
  exact (A0.out.1.st.same (e.trans HMB.out.symm)).look HI.out.1 HI.out.2)
 clear hMB
 refine wp_region_held_drew (S:=fun w'=>Blk w' v 97 (vaC g cur gen m x lo hi)∧Blk w' k 55 #[.int .i64 r,.int .i64 s]∧w'.heap[m]?=MB) (by kernel_rfl) (by exact ⟨HB.out,A0.out.drew.2.1,HMB.out⟩) (fun hHeld=>?_)
 refine ta 0 rfl hHeld ?_
 refine ta 1 rfl hHeld ?_
 refine ta 2 rfl hHeld ?_
 try simp only [Act.put,g1,g2,g3,g4,g5,g6]
 refine tl 3 ?_ rfl ?_ hHeld ?_
 rotate_left 1
 focus (intro w' hSw;(try dsimp only at hSw);(have q0:w'.cell? ⟨v,3,none⟩=some (.map (some m)):=((And.left hSw).cell 3).trans rfl);go_simp;try with_reducible rfl)
 try simp only [Act.put,g1,g2,g3,g4,g5,g6]
 refine tk 4 (.agg (#[.int .i64 r,.int .i64 s])) rfl (fun _ _ _ h=>h) (za4 (by kernel_rfl) 55 (.tmp 3) rfl k rfl 55 (#[.int .i64 r,.int .i64 s]) (0,0) _ (fun _ h=>Blk.heap (And.left (And.right h))) Tryz.underlying55 rfl LM.out) hHeld ?_
 try simp only [Act.put,g1,g2,g3,g4,g5,g6]
 refine tl 5 ?_ rfl ?_ hHeld ?_
 rotate_left 1
 focus (intro w' hSw;(try dsimp only at hSw);(have q0:=HLook.out w' (And.right (And.right hSw)));go_simp;try with_reducible rfl)
 try simp only [Act.put,g1,g2,g3,g4,g5,g6]
 refine ta 6 rfl hHeld ?_
 refine ta 7 rfl hHeld ?_
 refine ta 8 rfl hHeld ?_
 try simp only [Act.put,g1,g2,g3,g4,g5,g6]
 refine wpAnyH_ready (rs:=[9]) (by kernel_rfl) (by simp) ?_
 refine AllReadyH.cons (o:=_) rfl (fun K hK=>?_) AllReadyH.nil
 go_simp
 have KB:Hid (Below W.drew.heap.size W.drew (W.drew.alloc (.cells zrow 66))):=hid ((Below.refl _ _).alloc (Nat.le_refl _) _)
 have A3:=hid (A0.out.drew.on KB.out)
 have HB3:=hid (HB.out.alloc (.cells zrow 66))
 have HM3:Hid ((W.drew.alloc (.cells zrow 66)).heap[m]?=MB):=hid ((KB.out.block m A0.out.1.lts.2.1).trans HMB.out)
 refine hK.out _ _ (by exact ⟨HB3.out,A3.out.2.1,HM3.out⟩) (fun hHeld=>?_)
 clear hK K
 try simp only [Act.put,g1,g2,g3,g4,g5,g6]
 have hkw:k+1<W.heap.size:=A0.out.2.2.1.lt
 have E0:Hid (Blk ((W.alloc (.cells zrow 66)).drew) W.heap.size 66 (rowJ zau)):=hid (Blk.new W 66 zrow)
 have A3:Hid (Gt w ((W.alloc (.cells zrow 66)).drew) k r s base v g cur gen m x mi l nl):=A3
 have HB3:Hid (Blk ((W.alloc (.cells zrow 66)).drew) v 97 (vaC g cur gen m x lo hi)):=HB3
 have HM3:Hid (((W.alloc (.cells zrow 66)).drew).heap[m]?=MB):=HM3
 obtain ⟨WA,hWA⟩:∃WA,(W.alloc (.cells zrow 66)).drew=WA:=⟨_,rfl⟩
 obtain ⟨q,hq⟩:∃q,W.heap.size=q:=⟨_,rfl⟩
 have hlm:m<q:=by rw [←hq];exact A0.out.1.lts.2.1
 rw [hWA] at E0 A3 HB3 HM3
 rw [hq] at E0 hkw
 rw [hWA,hq]
 clear hWA hq hHeld HLook HMB A0 HB KB
 have TR:=hid (zaN WA q (rowJ lk))
 have A4:=hid (A3.out.other hkw (rowJ lk))
 have HB4:=hid (HB3.out.turns TR.out (by have:=A3.out.2.2.2.2.2;omega))
 have HM4:Hid ((WA.setRow q (rowJ lk)).heap[m]?=MB):=hid ((TR.out.block m (A3.out.1.lts.2.1) (by omega)).trans HM3.out)
 have E1:Hid (Blk (WA.setRow q (rowJ lk)) q 66 (rowJ lk)):=hid (Blk.rowAt E0.out)
 refine wpAnyH_ready (rs:=[10]) (by kernel_rfl) (by simp) ?_
 refine AllReadyH.cons (o:=_) rfl (fun K hK=>?_) AllReadyH.nil
 refine zbk (by kernel_rfl) 66 (.tmp 5) (.tmp 14) rfl q (rowJ lk) rfl rfl 66 (rowJ zau) E0.out.heap L2.out LS.out L3.out ?_
 refine hK.out _ _ (by exact ⟨HB4.out,A4.out.2.1,HM4.out⟩) (fun hHeld=>?_)
 clear hK K
 try simp only [Act.put,g1,g2,g3,g4,g5,g6]
 refine ta 11 rfl hHeld ?_
 try simp only [Act.put,g1,g2,g3,g4,g5,g6]
 refine wpAnyH_done (by kernel_rfl) ?_ _
 clear hHeld
 obtain ⟨wB,hwB⟩:∃wB,WA.setRow q (rowJ lk)=wB:=⟨_,rfl⟩
 rw [hwB] at A4 E1
 rw [hwB]
 clear hwB TR HB4 HM4 HB3 HM3 A3 E0
 cases hb
 ·have HE:Hid (gv=newJ r s):=hid (HGn.out rfl)
  clear E1 HOw HGs HGn
  go_upto_region 3 with fail
  have HN:=hid (fun w=>ziQ r s w)
  have K9:=hid A4.out.2.1
  have L5:=hid (zaE (newJ r s))
  have L6:=hid (zaS (newJ r s))
  have L7:=hid (zaW zau (newJ r s))
  go_wp2_with (first
   | (with_reducible refine wpList_load_row (o:=⟨some 18,_,_,_,_,_⟩) rfl 55 (.tmp 3) rfl k rfl 55 #[.int .i64 r,.int .i64 s] (0,0) _ K9.out.heap Tryz.underlying55 rfl LM.out ?_)
   | (go_at_call 70;(with_reducible refine (HN.out _).mono ?_);rintro e w5 ⟨rfl,hb5⟩;have A5:=hid (A4.out.on hb5);clear hb5;have hst:=zbL A5.out.2.2.1 (rowJ (newJ r s)) rfl (zaS (newJ r s))))
  (try simp only [Exit.inBlock,Exit.then]);refine bodyPost_ret (v:=.agg (rowJ (newJ r s))) (results_cell_row (p:=4) (ty:=66) (by kernel_rfl) _ _ (k+1) 66 (rowJ (newJ r s)) (0,0) _ rfl (setRow_heap _ (k+1) _ _ _ _ A5.out.2.2.1.heap) Tryz.underlying66 rfl L5.out) rfl ⟨by rw [HE.out],(by rw [A5.out.2.2.2.2.1];exact zak A5.out.2.2.2.1 (by omega))⟩
 ·have HE:Hid (gv=lk):=hid (HGs.out rfl)
  clear HGs HGn
  go_upto_region 4 with fail
  have L5:=hid (zaE (lk))
  have L6:=hid (zaS (lk))
  have L7:=hid (zaW zau (lk))
  go_wp2_with (first
   | (with_reducible refine wpList_load_row (o:=⟨some 20,_,_,_,_,_⟩) rfl 66 (.tmp 5) rfl q rfl 66 (rowJ lk) (0,0) _ E1.out.heap Tryz.underlying66 rfl L2.out ?_)
   | (go_at_call 67;(with_reducible refine (HOw.out _ rfl).mono ?_);rintro e w5 ⟨rfl,hb5⟩;have A5:=hid (A4.out.on hb5);clear hb5;have hst:=zbL A5.out.2.2.1 (rowJ lk) rfl (zaS lk)))
  (try simp only [Exit.inBlock,Exit.then]);refine bodyPost_ret (v:=.agg (rowJ (lk))) (results_cell_row (p:=4) (ty:=66) (by kernel_rfl) _ _ (k+1) 66 (rowJ (lk)) (0,0) _ rfl (setRow_heap _ (k+1) _ _ _ _ A5.out.2.2.1.heap) Tryz.underlying66 rfl L5.out) rfl ⟨by rw [HE.out],(by rw [A5.out.2.2.2.2.1];exact zak A5.out.2.2.2.1 (by omega))⟩
end Go.Proofs.YtnjdckoljmgcjaaGreatDoor
namespace Go.Proofs.YtnjdckoljmgcjaaGreatDoor
open Go.ChangeShapes Go.WideShapes Go.ChangeAt Go.RowKit Go.Maps Go.WideMaps Go.Sort Go.Shelf
set_option linter.unusedVariables false
attribute [local go_sem] Oper.semAt_some
theorem zs0:∀key kl,keyOf Tryz.prog 55 key=some kl→∃x:IdT,key=nm x.1 x.2:=fun key kl h=>by
 obtain ⟨r,s,rfl,_⟩:=zeB h
 exact ⟨(r,s),rfl⟩
theorem zqT:∀v y,idR v=some y→∃c:Value,v=c:=fun v _ _=>⟨v,rfl⟩
def zft (l:List J) (left:Lit→Bool) (ks:List IdT):Prop:=ks.Nodup∧(∀y∈ks,hasV l y.1 y.2=true∧left (ilit y.1 y.2)=false)∧∀y:IdT,hasV l y.1 y.2=true→left (ilit y.1 y.2)=false→y∈ks
theorem zk0 {l:List J} (hl:zfR l) {y:IdT} (h:hasV l y.1 y.2=true):zbl y.1∧zbl y.2:=by
 obtain ⟨x,hx,h1,h2⟩:=zms.1 h
 rw [←h1,←h2]
 exact hl x hx
theorem zft.start {l:List J} {D:DataW Value} (hl:zfR l) (h:∀r s,zbl r→zbl s→Maps.has D (ilit r s)=hasV l r s):zft l (Maps.has D) [] :=
 ⟨List.nodup_nil,fun y hy=>by simp at hy,fun y hy h0=>by
  obtain ⟨a,b⟩:=zk0 hl hy
  rw [h _ _ a b,hy] at h0
  cases h0⟩
theorem zft.step {l:List J} {left:Lit→Bool} {ks:List IdT} (h:zft l left ks) (hl:zfR l) {r s:Int} (hr:zbl r) (hs:zbl s) (ht:hasV l r s=true) (hlk:left (ilit r s)=true) :
  zft l (fun z=>left z && !z.sameKey (ilit r s)) (ks ++ [((r,s):IdT)]):=by
 obtain ⟨h1,h2,h3⟩:=h
 have hself:(ilit r s).sameKey (ilit r s)=true:=WideAt.sameKey_self (zfD.key (zeR hr hs))
 refine ⟨?_,?_,?_⟩
 ·rw [List.nodup_append]
  refine ⟨h1,by simp,fun a ha b hb=>?_⟩
  rintro rfl
  simp at hb
  subst hb
  have:=(h2 _ ha).2
  rw [hlk] at this
  cases this
 ·intro y hy
  rcases List.mem_append.1 hy with hy | hy
  ·exact ⟨(h2 y hy).1,by simp only;rw [(h2 y hy).2];rfl⟩
  ·simp at hy
   subst hy
   exact ⟨ht,by simp only;rw [hself];simp⟩
 ·intro y hy hq
  simp only [Bool.and_eq_false_iff] at hq
  rcases hq with hq | hq
  ·exact List.mem_append_left _ (h3 y hy hq)
  ·have hs2:(ilit y.1 y.2).sameKey (ilit r s)=true:=by simpa using hq
   obtain ⟨a,b⟩:=zk0 hl hy
   obtain ⟨k1,k2⟩:=zme a b hr hs (WideAt.sameKey_eq hs2)
   exact List.mem_append_right _ (by simp;exact Prod.ext k1 k2)
def zlD (l:List J) (ks:List IdT):Prop:=ks.Nodup∧∀y:IdT,y∈ks ↔ hasV l y.1 y.2=true
theorem zle (n:Nat) (hn:1≤n) (Bm m nn:Nat) (l:List J) (w:World) (hBm:Bm<w.heap.size) (hm:w.cell? ⟨Bm,0,none⟩=some (.map (some m))) (h:StM w m nn l) (hl:zfR l) :
  SeqStopsK Fence.wide n Tryz.prog 76 #[.pointer (some ⟨Bm,0,none⟩)] (fun y:IdT=>#[nm y.1 y.2]) KeepsWalks (zlD l) (fun _=>True) nn w:=fun lp J Jx W hW hJ _ hY h0=>by
 obtain ⟨D,hown,h2,h3⟩:=h.same (w':=W) (hW.block m h.lt)
 have hm':=(hW.cell (p:=⟨Bm,0,none⟩) hBm).trans hm
 have H2:=hid h2
 have H3:=hid h3
 have HJ:=hid hJ
 have HY:=hid hY
 have HL:=hid hl
 have HSz:Hid (Maps.size D≤nn):=hid hown.size_le
 clear h2 h3 hJ hY hm h
 refine callsIn_of_wp Tryz.func76 rfl trivial ?_ rfl
 simp only [Tryz.ntmps76,List.size_toArray,List.length_cons,List.length_nil,Nat.reduceAdd,Nat.reduceSub,Array.replicate_succ,Array.replicate_zero,List.push_toArray,List.append_toArray,List.nil_append,List.cons_append]
 gi_wp2_with (first
  | (gi_at_range;refine wpListIn_range_own _ rfl _ 92 rfl 55 66 zfD Tryz.underlying92 _ m nn _ rfl hown ?_;intro w0 hrg0 hg0 hs0)
  | gi_in)
 try go_frame
 gi_loopw [3] (fun _ wr=>∃(left:Lit→Bool) (cnt:Nat) (ks:List IdT),wr.ranges Tryz.prog 55 idR m W.heap.size nn D left cnt∧ks.length+cnt≤Maps.size D∧(∀kl,left kl=true→Maps.has D kl=true)∧zft l left ks∧J ks wr)
  (fun _ wr=>wr.rangeLeft m W.heap.size)
 case atStart =>
  exact ⟨_,_,[],hrg0,by simp,fun _ h=>h,zft.start HL.out (fun r s a b=>(H2.out r s a b).1),HJ.out [] W w0 none h0 hg0 (fun r e=>by cases e)⟩
 case round =>
  obtain ⟨left,cnt,ks,hrg,hcs,hlh,hC,hJs⟩:=hrel
  have HLH:=hid hlh
  have HC:=hid hC
  clear hlh hC
  gi_wp2_with (first
   | (gi_at_next;refine wpListIn_next_ranges _ rfl _ rfl 55 zfD idR (fun x:IdT=>(nm x.1 x.2:Value)) id zs0 zqT m W.heap.size nn _ _ _ rfl hrg ?_ ?_)
   | gi_in)
  ·intro hc0 hl0
   gi_wp2
   go_end0
   exact ⟨⟨_,rfl⟩,.inl ⟨ks,⟨HC.out.1,fun y=>⟨fun hy=>(HC.out.2.1 y hy).1,fun hy=>HC.out.2.2 y hy (hl0 _)⟩⟩,hJs⟩⟩
  ·intro r s c kl yd yp w2 cnt2 hkey hlk hv hat hrg2 hlt hg2 hs2 hen
   obtain ⟨r',s',ex,hr,hs,rfl⟩:=zeB hkey
   obtain ⟨rfl,rfl⟩:r=r'∧s=s':=by simpa [nm] using ex
   have hhas:=HLH.out _ hlk
   rw [(H2.out r s hr hs).1] at hhas
   have HC2:=hid (HC.out.step HL.out hr hs hhas hlk)
   have HLH2:Hid (∀kl,(left kl && !kl.sameKey (ilit r s))=true→Maps.has D kl=true):=hid (fun kl h=>HLH.out kl (by simp at h;exact h.1))
   have hJ2:J ks w2:=HJ.out ks wr w2 (some W.heap.size) hJs hg2 (fun r e=>by cases e;exact ⟨Nat.le_refl _,hrg.iter_walk⟩)
   have hJ3:J ks (w2.alloc (.cells #[.int .i64 r,.int .i64 s] 55)):=HJ.out ks w2 _ none hJ2 (World.grownBy_alloc w2 _ none) (fun r e=>by cases e)
   obtain ⟨fn,tmps,assign,body,hy,hR⟩:=HY.out ks (r,s) _ hJ3 (by have:=HSz.out;omega)
   have KW:=hid (KeepsWalks.alloc w2 (.cells #[.int .i64 r,.int .i64 s] 55))
   clear hs2 hJ2 hJ3 hhas ex hkey hv hat
   gi_wp2
   refine hR.mono ?_
   rintro e W3 (⟨rfl,hJ3,hk3⟩ | ⟨rfl,hJx3⟩)
   ·gi_wp2
    have hrg3:=hrg2.of_walks (KW.out.trans hk3)
    go_roundw
    case rel=>exact ⟨_,cnt2,ks ++ [((r,s):IdT)],hrg3,by simp;omega,HLH2.out,HC2.out,hJ3⟩
    case measure=>rw [hrg3.left_eq,hrg.left_eq];exact hlt
   ·gi_wp2
    refine bodyPost_ret (results_none rfl _ _ _) rfl ?_
    exact ⟨⟨_,rfl⟩,.inr ⟨ks ++ [((r,s):IdT)],trivial,hJx3⟩⟩
theorem zoA (m:Nat) (w:World) :
  Calls Tryz.prog 44 #[.map (some m)] w fun e w'=>e=.returned (.func (.func 76) #[] #[.pointer (some ⟨w.heap.size,0,none⟩)])∧w'=w.alloc (.cells #[.map (some m)] 92):=by
 go_enter Tryz.func44,Tryz.ntmps44
 go_wp2
 go_ret
 exact ⟨rfl,rfl⟩
def idC (y:IdT):List Value:=[.int .i64 y.1,.int .i64 y.2]
def ze8 (ks:List IdT):List Value:=ks.flatMap idC
theorem zkF:∀l:List IdT,(ze8 l).length=l.length * 2
 | []=>rfl
 | n :: l=>by
  have:=zkF l
  simp only [ze8,List.flatMap_cons,List.length_append,List.length_cons] at *
  rw [this]
  show 2+_=_
  omega
theorem znU (l:List IdT) (n:IdT):ze8 (l ++ [n])=ze8 l ++ idC n:=by simp [ze8]
theorem zhq:∀{l:List IdT} {j i:Nat} (hj:j<l.length),i<2→(ze8 l)[j * 2+i]?=(idC l[j])[i]?
 | n :: l,0,i,_,hi=>by
  simp only [ze8,List.flatMap_cons,Nat.zero_mul,Nat.zero_add,List.getElem_cons_zero]
  rw [List.getElem?_append_left (by simpa [idC] using hi)]
 | n :: l,j+1,i,hj,hi=>by
  have ih:=zhq (l:=l) (j:=j) (i:=i) (by simpa using hj) hi
  simp only [ze8,List.flatMap_cons,List.getElem_cons_succ] at *
  rw [List.getElem?_append_right (by simp [idC];omega),←ih]
  congr 1
  simp [idC]
  omega
theorem zpm (y:IdT):∀u∈idC y,u.oneCell'=true:=by
 intro u hu
 simp [idC] at hu
 rcases hu with rfl | rfl <;> rfl
theorem zuW (W:World) (r s:Int) (T:TypeId):∀j u,(idC (r,s))[j]?=some u→(W.alloc (.cells #[.int .i64 r,.int .i64 s] T)).cell? ((⟨W.heap.size,0,none⟩:Addr).add j)=some u:=by
 intro j x hj
 rw [Addr.add_mid,Nat.zero_add,(Blk.new W T _).cell j]
 exact (List.getElem?_toArray ..).trans hj
theorem zrc:(Tryz.prog.info? 55).map (fun i=>(i.zero,i.size,i.bytes))=some (some (.agg #[.int .i64 0,.int .i64 0]),2,16):=by kernel_rfl
def zpC (l:List J) (nn:Nat) (w:World) (e:Ending) (w':World):Prop :=
 ∃(v:Value) (ks:List IdT),e=.returned v∧w'.ownsRow w.heap.size 55 2 v ks.length (ze8 ks)∧zlD l ks∧ks.length≤nn∧Below w.heap.size w w'
theorem zuN {W W':World} (h:KeepsOthers W W'):KeepsWalks W W':=⟨h.size,fun k o hk hw=>h.same k o hk (Obj.not_cells_of_walk hw)⟩
def zss (w:World) (nn:Nat) (pre:List IdT) (W:World):Prop :=
 (∃v,Go.Boxed W w.heap.size 119 v∧W.ownsRow w.heap.size 55 2 v pre.length (ze8 pre)∧pre.length≤nn)∧Below w.heap.size w W
theorem zss.own {w w0:World} (nn:Nat) (h:w.heap.size<w0.heap.size):OwnFrom w0.heap.size (zss w nn) :=
 OwnFrom.and (Own.from (holdsRow_own w.heap.size w.heap.size 119 55 2 (fun pre=>pre.length) (fun pre=>ze8 pre) (fun pre _=>pre.length≤nn)) _) (ownFrom_below (Nat.le_refl _) (Nat.le_of_lt h))
theorem zhP (m nn:Nat) (l:List J) (g:Nat) (w:World) (hg:g<w.heap.size) (hc:w.cell? ⟨g,0,none⟩=some (.map (some m))) (h:StM w m nn l) (hl:zfR l) (hnn:nn≤1000) :
  Calls Tryz.prog 109 #[.slice none 0 0,.func (.func 76) #[] #[.pointer (some ⟨g,0,none⟩)]] w (zpC l nn w):=by
 obtain ⟨i0,hi,hz0,hz1,hz2⟩:=info_parts zrc
 refine (callsIn_wide (n:=9)).1 ?_
 refine callsIn_of_wp_marks Tryz.func109 rfl trivial ?_ rfl
 simp only [Tryz.ntmps109,List.size_toArray,List.length_cons,List.length_nil,Nat.reduceAdd,Nat.reduceSub,Array.replicate_succ,Array.replicate_zero,List.push_toArray,List.append_toArray,List.nil_append,List.cons_append]
 gi_wp2
 have bO:=Go.Boxed.new w 119 (.slice none 0 0)
 have hB0:Below w.heap.size w (w.alloc (.cells #[.slice none 0 0] 119)):=(Below.refl _ w).alloc (Nat.le_refl _) _
 have hlt0:w.heap.size<(w.alloc (.cells #[.slice none 0 0] 119)).heap.size:=by simp
 have HOwn:=hid (zss.own (w:=w) nn hlt0)
 refine wpIn_rangeFunc_ownH rfl (by omega) (gf:=76) (lb:=#[.pointer (some ⟨g,0,none⟩)]) rfl trivial (enters_of Tryz.func76 (by kernel_rfl) rfl)
  (zle _ (by omega) g m nn l (w.alloc (.cells #[.slice none 0 0] 119)) (by simp;omega) ((hB0.cell (p:=⟨g,0,none⟩) hg).trans hc) (h.same (hB0.block m h.lt)) hl) (fun h k=>KeepsWalks.trans h k) walksK_b (Below.refl _ _) (fun _=>rfl)
  (zss w nn) (fun _ _ _=>False) HOwn.out (fun _ _ _ _ _ hs _ _=>hs)
  ⟨⟨_,bO,World.ownsRow_nil _ _ _ _,Nat.zero_le _⟩,hB0⟩
  (fun x a' W=>∃q,a'={ tmps:=#[.slice none 0 0,.func (.func 76) #[] #[.pointer (some ⟨g,0,none⟩)],.pointer (some ⟨w.heap.size,0,none⟩),undef,.slice none 0 0,.pointer (some ⟨q,0,none⟩),.func (.func 76) #[] #[.pointer (some ⟨g,0,none⟩)],nm x.1 x.2,undef,undef,undef,undef,undef],defers:=[] }∧Blk W q 55 #[.int .i64 x.1,.int .i64 x.2])
  (fun x a' _ X Y row hs hg hr=>by
   obtain ⟨q,h1,h2⟩:=hs
   exact ⟨q,h1,h2.own hg (B:=(w.alloc (.cells #[.slice none 0 0] 119)).heap.size) hr⟩) ?assign ?body ?done ?stop
 case assign =>
  intro lp pre x W K hI hK
  have HI:=hid hI
  have HK:=hid hK
  clear hI hK
  gi_wp2
  exact HK.out _ _ ((KeepsOthers.alloc W _).from _) (KeepsWalks.alloc W _) (HOwn.out.alloc _ HI.out) ⟨W.heap.size,rfl,Blk.new _ _ _⟩
 case body =>
  rintro lp pre x a' W hlp ⟨rr,hrr⟩ ⟨⟨v,hv,hrow,hpl⟩,hB⟩ ⟨q,rfl,hq⟩ hlen
  clear hrr
  have hc:=hv.cell
  obtain ⟨⟨c0,c1⟩,_,_⟩:=blkn hq
  have HOn:=hid hv
  gi_wp2_with (gi_at_builtin;refine wpListIn_append_own _ rfl _ _ 119 rfl w.heap.size 55 i0 (.agg #[.int .i64 0,.int .i64 0]) 2 16 Tryz.underlying119 hi hz0 hz1 hz2 rfl (by decide) _ _ _ rfl (hrow.alloc _) ⟨W.heap.size,0,none⟩ 1 1 (idC (x.1,x.2)) rfl rfl (zuW _ _ _ _) (zpm _) (by unfold maxLen;omega) (by omega) (by have:=hB.size;simp;omega) ?_;intro v' w1 hown' hgrow _;obtain ⟨g',cap',rfl⟩:=ownsRow_succ hown';obtain ⟨hv1,hv2,hr2,hk2,hb2⟩:=hv.appended (by decide) hrow hB.size (Nat.le_refl _) hown' hgrow;have hc1:=hv1.cell;have hf1:=hv1.frozen)
  exact ⟨hk2.from _,zuN hk2,⟨_,hv2,by rw [List.length_append,znU];exact hr2,by simp;omega⟩,hB.trans hb2⟩
 case done =>
  rintro D ys W hD hys ⟨⟨v,hv,hrow,hpl⟩,hB⟩ hK
  have hc:=hv.cell
  have HY:=hid hys
  clear hys
  gi_wp2
  refine ⟨by simp,.inl ⟨_,_,rfl,run_takeDeferred hK,?_⟩⟩
  exact ⟨_,results_tmp rfl _ _ _,v,ys,rfl,ownsRow_putObj hrow _ hK rfl,HY.out,hpl,hB.trans (belowK_b (w:=w) (Nat.le_refl _) W D _ _ (by simp at hD;omega) hK rfl rfl)⟩
 case stop =>
  rintro D c pre W _ _ h _
  exact h.elim
theorem zj6 (m nn:Nat) (l:List J) (g:Nat) (w:World) (hg:g<w.heap.size) (hc:w.cell? ⟨g,0,none⟩=some (.map (some m))) (h:StM w m nn l) (hl:zfR l) (hnn:nn≤1000) :
  Calls Tryz.prog 74 #[.func (.func 76) #[] #[.pointer (some ⟨g,0,none⟩)]] w (zpC l nn w):=by
 have HC:=hid (zhP m nn l g w hg hc h hl hnn)
 clear hc h hl
 go_enter Tryz.func74,Tryz.ntmps74
 go_wp2_with fail
 refine HC.out.mono ?_
 rintro e w1 ⟨v,ks,rfl,h1,h2,h3,h4⟩
 have H1:=hid h1
 have H2:=hid h2
 have H4:=hid h4
 clear h1 h2 h4
 go_wp2
 go_ret
 exact ⟨v,ks,rfl,H1.out,H2.out,h3,H4.out⟩
end Go.Proofs.YtnjdckoljmgcjaaGreatDoor
namespace Go.Proofs
open Go.Shelf
def Tryz.sortI_ren:Go.Shelf.Ren:=⟨fun | 6=>75 | 15=>111 | 14=>110 | 28=>155 | 29=>156 | 20=>147 | 21=>148 | 22=>149 | 23=>150 | 24=>151 | 25=>152 | 26=>153 | 27=>154 | 46=>184 | 47=>185 | 48=>186 | 49=>187 | 50=>188 | 57=>203 | n=>n,fun | 22=>119 | 24=>55 | 25=>124 | 3=>3 | 39=>186 | 0=>0 | 53=>56 | 55=>51 | 4=>4 | 46=>215 | 45=>214 | 50=>219 | 5=>5 | 9=>9 | 66=>239 | 70=>242 | 76=>260 | 77=>261 | n=>n,fun | n=>n⟩
theorem Tryz.sortI:Go.Proofs.SlLaysF0.n6 Tryz.prog Tryz.sortI_ren:={
 mixed:=by kernel_rfl
 f6:=⟨Tryz.f75.name,by decide,Tryz.func75.trans (congrArg some (by kernel_rfl))⟩
 f14:=⟨Tryz.f110.name,by decide,Tryz.func110.trans (congrArg some (by kernel_rfl))⟩
 f15:=Tryz.func111.trans (congrArg some (by kernel_rfl))
 f20:=⟨Tryz.f147.name,by decide,Tryz.func147.trans (congrArg some (by kernel_rfl))⟩
 f21:=⟨Tryz.f148.name,by decide,Tryz.func148.trans (congrArg some (by kernel_rfl))⟩
 f22:=⟨Tryz.f149.name,by decide,Tryz.func149.trans (congrArg some (by kernel_rfl))⟩
 f23:=⟨Tryz.f150.name,by decide,Tryz.func150.trans (congrArg some (by kernel_rfl))⟩
 f24:=⟨Tryz.f151.name,by decide,Tryz.func151.trans (congrArg some (by kernel_rfl))⟩
 f25:=⟨Tryz.f152.name,by decide,Tryz.func152.trans (congrArg some (by kernel_rfl))⟩
 f26:=⟨Tryz.f153.name,by decide,Tryz.func153.trans (congrArg some (by kernel_rfl))⟩
 f27:=⟨Tryz.f154.name,by decide,Tryz.func154.trans (congrArg some (by kernel_rfl))⟩
 f28:=Tryz.func155.trans (congrArg some (by kernel_rfl))
 f29:=Tryz.func156.trans (congrArg some (by kernel_rfl))
 f46:=⟨Tryz.f184.name,by decide,Tryz.func184.trans (congrArg some (by kernel_rfl))⟩
 f47:=Tryz.func185.trans (congrArg some (by kernel_rfl))
 f48:=Tryz.func186.trans (congrArg some (by kernel_rfl))
 f49:=⟨Tryz.f187.name,by decide,Tryz.func187.trans (congrArg some (by kernel_rfl))⟩
 f50:=⟨Tryz.f188.name,by decide,Tryz.func188.trans (congrArg some (by kernel_rfl))⟩
 f57:=⟨Tryz.f203.name,by decide,Tryz.func203.trans (congrArg some (by kernel_rfl))⟩
 t0:=Tryz.underlying0
 a0:=Tryz.isAgg0
 z0:=Tryz.sizeOf0
 v0:=Tryz.zeroValue0
 t3:=Tryz.underlying3
 a3:=Tryz.isAgg3
 z3:=Tryz.sizeOf3
 v3:=Tryz.zeroValue3
 t4:=Tryz.underlying4
 a4:=Tryz.isAgg4
 z4:=Tryz.sizeOf4
 v4:=Tryz.zeroValue4
 t5:=Tryz.underlying5
 a5:=Tryz.isAgg5
 z5:=Tryz.sizeOf5
 v5:=Tryz.zeroValue5
 t9:=Tryz.underlying9
 a9:=Tryz.isAgg9
 z9:=Tryz.sizeOf9
 v9:=Tryz.zeroValue9
 t22:=Tryz.underlying119
 a22:=Tryz.isAgg119
 z22:=Tryz.sizeOf119
 v22:=Tryz.zeroValue119
 t25:=Tryz.underlying124
 a25:=Tryz.isAgg124
 z25:=Tryz.sizeOf124
 v25:=Tryz.zeroValue124
 t39:=Tryz.underlying186
 a39:=Tryz.isAgg186
 z39:=Tryz.sizeOf186
 v39:=Tryz.zeroValue186
 t45:=Tryz.underlying214
 a45:=Tryz.isAgg214
 z45:=Tryz.sizeOf214
 v45:=Tryz.zeroValue214
 t46:=Tryz.underlying215
 a46:=Tryz.isAgg215
 z46:=Tryz.sizeOf215
 v46:=Tryz.zeroValue215
 t50:=Tryz.underlying219
 a50:=Tryz.isAgg219
 z50:=Tryz.sizeOf219
 v50:=Tryz.zeroValue219
 t53:=Tryz.underlying56
 a53:=Tryz.isAgg56
 z53:=Tryz.sizeOf56
 v53:=Tryz.zeroValue56
 t55:=Tryz.underlying51
 a55:=Tryz.isAgg51
 z55:=Tryz.sizeOf51
 v55:=Tryz.zeroValue51
 t66:=Tryz.underlying239
 a66:=Tryz.isAgg239
 z66:=Tryz.sizeOf239
 v66:=Tryz.zeroValue239
 t70:=Tryz.underlying242
 a70:=Tryz.isAgg242
 z70:=Tryz.sizeOf242
 v70:=Tryz.zeroValue242
 t76:=Tryz.underlying260
 a76:=Tryz.isAgg260
 z76:=Tryz.sizeOf260
 v76:=Tryz.zeroValue260
 t77:=Tryz.underlying261
 a77:=Tryz.isAgg261
 z77:=Tryz.sizeOf261
 v77:=Tryz.zeroValue261 }
end Go.Proofs
namespace Go.Proofs.YtnjdckoljmgcjaaGreatDoor
open Go.ChangeShapes Go.WideShapes Go.ChangeAt Go.RowKit Go.Maps Go.WideMaps Go.Shelf Go.Sort
set_option linter.unusedVariables false
set_option linter.unusedSimpArgs false
theorem zfY (u:Int) (w:World):Calls Tryz.prog 183 #[.int .u64 u] w fun e w'=>e=.returned (.bool false)∧w=w':=by
 go_enter Tryz.func183,Tryz.ntmps183
 go_wp2
 go_ret
 exact ⟨rfl,rfl⟩
theorem zsU (u v:Int) (w:World):Calls Tryz.prog 146 #[.int .u64 u,.int .u64 v] w fun e w'=>e=.returned (.int .i64 (Lib.compareInt u v))∧w=w':=by
 rcases (show u<v∨v<u∨u=v by omega) with h | h | h
 ·have hr:Hid (Lib.compareInt u v=-1):=hid (by unfold Lib.compareInt;rw [if_pos h])
  go_enter Tryz.func146,Tryz.ntmps146
  go_wp2_with (go_at_call 183;refine (zfY _ _).mono ?_;rintro e w' ⟨rfl,rfl⟩)
  go_ret
  exact ⟨zba hr.out.symm,rfl⟩
 ·have hr:Hid (Lib.compareInt u v=1):=hid (by unfold Lib.compareInt;rw [if_neg (by omega),if_pos h])
  have h2:¬u<v:=by omega
  go_enter Tryz.func146,Tryz.ntmps146
  go_wp2_with (go_at_call 183;refine (zfY _ _).mono ?_;rintro e w' ⟨rfl,rfl⟩)
  go_ret
  exact ⟨zba hr.out.symm,rfl⟩
 ·subst h
  have hr:Hid (Lib.compareInt u u=0):=hid (by unfold Lib.compareInt;rw [if_neg (by omega),if_neg (by omega)])
  go_enter Tryz.func146,Tryz.ntmps146
  go_wp2_with (go_at_call 183;refine (zfY _ _).mono ?_;rintro e w' ⟨rfl,rfl⟩)
  go_ret
  exact ⟨zba hr.out.symm,rfl⟩
def orK (p q:Int):Int:=if p=0 then q else p
theorem zut (b cap:Nat) (p q:Int) (w:World) (h0:w.cell? ⟨b,0,none⟩=some (.int .i64 p)) (h1:w.cell? ⟨b,1,none⟩=some (.int .i64 q)) :
  Calls Tryz.prog 144 #[.slice (some ⟨b,0,none⟩) 2 cap] w fun e w'=>e=.returned (.int .i64 (orK p q))∧w=w':=by
 have HK:Hid (∀x,orK p q=x ↔ (p=0∧q=x)∨(p≠0∧p=x)):=hid (fun x=>by unfold orK;split <;> simp_all)
 go_enter Tryz.func144,Tryz.ntmps144
 go_wp2_with fail
 go_loop [8] (fun iv=>∃j:Nat,j≤2∧iv=.int .i64 j∧(0<j→p=0)∧(1<j→q=0)) (fun iv=>2 - (intOf iv).toNat)
 case atStart=>exact ⟨0,by omega,rfl,by omega,by omega⟩
 case round =>
  obtain ⟨j,hj,rfl,hp,hq⟩:=hrel
  rcases (show j=0∨j=1∨j=2 by omega) with rfl | rfl | rfl
  ·by_cases hp0:p=0
   ·subst hp0
    go_wp2
    go_round
    case rel=>exact ⟨1,by omega,rfl,by simp,by omega⟩
    case measure=>simp [intOf]
   ·have H:Hid (orK p q=p):=hid (by unfold orK;rw [if_neg hp0])
    go_wp2
    go_ret
    exact ⟨zba H.out.symm,rfl⟩
  ·have hp0:=hp (by omega)
   subst hp0
   by_cases hq0:q=0
   ·subst hq0
    go_wp2
    go_round
    case rel=>exact ⟨2,by omega,rfl,by simp,by simp⟩
    case measure=>simp [intOf]
   ·have H:Hid (orK 0 q=q):=hid (by unfold orK;rw [if_pos rfl])
    go_wp2
    go_ret
    exact ⟨zba H.out.symm,rfl⟩
  ·have hp0:=hp (by omega)
   have hq0:=hq (by omega)
   subst hp0 hq0
   have H:Hid (orK 0 0=0):=hid (by unfold orK;rw [if_pos rfl])
   go_wp2
   go_ret
   exact ⟨zba H.out.symm,rfl⟩
def cmpK (f:ByteArray) (u:Int) (g:ByteArray) (v:Int):Int:=orK (Lib.compareBytes f.data.toList g.data.toList) (Lib.compareInt u v)
theorem znR (w:World) (A B C:Obj):(((w.alloc A).alloc B).alloc C).drew=grow (w.drewN 1) #[A,B,C]:=by rw [alloc_eq_grow,alloc_eq_grow,alloc_eq_grow,grow_grow,grow_grow];rfl
theorem zi0 (f:ByteArray) (u:Int) (a:Nat→Int) (g:ByteArray) (v:Int) (b:Nat→Int) (w:World) :
  Calls Tryz.prog 106 #[.agg #[.string f,.int .u64 u,.int .i64 (a 0),.int .i64 (a 1),.int .i64 (a 2),.int .i64 (a 3),.int .i64 (a 4),.int .i64 (a 5),.int .i64 (a 6),.int .i64 (a 7)],.agg #[.string g,.int .u64 v,.int .i64 (b 0),.int .i64 (b 1),.int .i64 (b 2),.int .i64 (b 3),.int .i64 (b 4),.int .i64 (b 5),.int .i64 (b 6),.int .i64 (b 7)]] w fun e w'=>e=.returned (.int .i64 (cmpK f u g v))∧∃q os',w'=grow (w.drewN q) os':=by
 have HC:=hid (fun w=>Tryz.strings_Compare f g w)
 have HU:=hid (fun w=>zsU u v w)
 obtain ⟨p,hp⟩:∃p,Lib.compareBytes f.data.toList g.data.toList=p:=⟨_,rfl⟩
 obtain ⟨q,hq⟩:∃q,Lib.compareInt u v=q:=⟨_,rfl⟩
 have HR:Hid (cmpK f u g v=orK p q):=hid (by unfold cmpK;rw [hp,hq])
 rw [hp] at HC
 rw [hq] at HU
 clear hp hq
 go_enter Tryz.func106,Tryz.ntmps106
 go_upto_region 1 with fail
 obtain ⟨W,hW⟩:∃W,(w.alloc (.cells (#[.string f,.int .u64 u,.int .i64 (a 0),.int .i64 (a 1),.int .i64 (a 2),.int .i64 (a 3),.int .i64 (a 4),.int .i64 (a 5),.int .i64 (a 6),.int .i64 (a 7)]) 114)).alloc (.cells (#[.string g,.int .u64 v,.int .i64 (b 0),.int .i64 (b 1),.int .i64 (b 2),.int .i64 (b 3),.int .i64 (b 4),.int .i64 (b 5),.int .i64 (b 6),.int .i64 (b 7)]) 114)=W:=⟨_,rfl⟩
 rw [hW]
 obtain ⟨K0,K1,KB⟩:=zcE hW
 have HW:=hid hW
 clear hW
 obtain ⟨k,hk⟩:∃k,w.heap.size=k:=⟨_,rfl⟩
 rw [hk] at K0 K1 KB
 rw [hk]
 clear hk
 have L0:=hid (fun o=>K0.out.below ((Below.refl _ W).alloc (Nat.le_refl _) o) K0.out.lt)
 have L1:=hid (fun o=>K1.out.below ((Below.refl _ W).alloc (Nat.le_refl _) o) K1.out.lt)
 go_region_held3 (fun w'=>(w'.cell? ⟨k,0,none⟩=some (.string f)∧w'.cell? ⟨k,1,none⟩=some (.int .u64 u))∧w'.cell? ⟨k+1,0,none⟩=some (.string g)∧w'.cell? ⟨k+1,1,none⟩=some (.int .u64 v))
  (first | exact ⟨⟨((K0.out).cell 0).trans rfl,((K0.out).cell 1).trans rfl⟩,((K1.out).cell 0).trans rfl,((K1.out).cell 1).trans rfl⟩ | exact ⟨⟨((K0.out.drew).cell 0).trans rfl,((K0.out.drew).cell 1).trans rfl⟩,((K1.out.drew).cell 0).trans rfl,((K1.out.drew).cell 1).trans rfl⟩ | exact ⟨⟨(((L0.out _).drew).cell 0).trans rfl,(((L0.out _).drew).cell 1).trans rfl⟩,(((L1.out _).drew).cell 0).trans rfl,(((L1.out _).drew).cell 1).trans rfl⟩)
  (first
   | (go_at_call 145;(with_reducible refine (HC.out _).mono ?_);rintro e1 w1 ⟨rfl,rfl⟩)
   | (go_at_call 146;(with_reducible refine (HU.out _).mono ?_);rintro e1 w2 ⟨rfl,rfl⟩)
   | (go_at_call 144;(with_reducible refine (zut _ _ p q _ (by simp) (by simp)).mono ?_);rintro e1 w3 ⟨rfl,rfl⟩))
 rename_i hHeld
 clear hHeld
 go_wp2
 go_ret
 exact ⟨zba HR.out.symm,1,#[.cells (#[.string f,.int .u64 u,.int .i64 (a 0),.int .i64 (a 1),.int .i64 (a 2),.int .i64 (a 3),.int .i64 (a 4),.int .i64 (a 5),.int .i64 (a 6),.int .i64 (a 7)]) 114,.cells (#[.string g,.int .u64 v,.int .i64 (b 0),.int .i64 (b 1),.int .i64 (b 2),.int .i64 (b 3),.int .i64 (b 4),.int .i64 (b 5),.int .i64 (b 6),.int .i64 (b 7)]) 114,.cells #[.int .i64 p,.int .i64 q] 3],by rw [←HW.out];exact znR _ _ _ _⟩
end Go.Proofs.YtnjdckoljmgcjaaGreatDoor
namespace Go.Proofs.YtnjdckoljmgcjaaGreatDoor
open Go.RowKit
section
variable {P:Program} {w:World} {ops:Array Oper} {rest:List Oper} {o:Oper} {a:Act} {Q:Exit→Act→World→Prop}
theorem zfI (hgd:o.guard=none) (s x:Operand) (t:TypeId) (ho:o.op=.call { callee:=.builtin .append,args:=#[s,x],argTypes:=#[t,t] })
  (base base2:Nat) (e:TypeId) (i:TypeInfo) (z:Value) (size bytes:Nat) (ht:P.underlying t=some (.slice e)) (hi:P.info? e=some i) (hz:i.zero=some z)
  (hsize:i.size=size) (hby:i.bytes=bytes) (hzs:z.cells.size=size) (hsz:0<size) (v:Value) (n:Nat) (xs:List Value) (hs:a.eval s=v) (hown:w.ownsRow base e size v n xs)
  (u:Value) (m:Nat) (ys:List Value) (hx:a.eval x=u) (hu:w.ownsRow base2 e size u m ys) (h1:∀y∈ys,y.oneCell'=true)
  (h63:n+m≤maxLen) (hbytes:(n+m) * bytes≤140737488355328) (hbase:base≤w.heap.size)
  (h:∀v' w',w'.ownsRow base e size v' (n+m) (xs ++ ys)→w.grownBy w' v.ownBlock→wpList P ops Q rest (a.put o.dst v') w'):wpList P ops Q (o :: rest) a w:=by
 obtain ⟨hl,hc⟩:=hu
 rcases hc with ⟨hn,h0⟩ | ⟨g,cap,cur,hv,hb,hg,k1,k2,k3,k4⟩
 ·subst h0
  have hy:ys=[]:=List.eq_nil_of_length_eq_zero (by rw [hl];simp)
  subst hy
  exact wpList_append_own_none hgd s x t ho base e i size ht hi v n xs hs hown (hx.trans hn) (h v w (by simpa using hown) (World.grownBy.refl _ _))
 ·have hu2:w.ownsRow base2 e size u m ys:=⟨hl,Or.inr ⟨g,cap,cur,hv,hb,hg,k1,k2,k3,k4⟩⟩
  exact wpList_append_own w hgd s x t ho base e i z size bytes ht hi hz hsize hby hzs hsz v n xs hs hown ⟨g,0,none⟩ m cap ys (hx.trans hv) hl (hu2.cells (by rw [hv];rfl)) h1 h63 hbytes hbase fun v' w' a1 a2 _=>h v' w' a1 a2
end
section
variable {P:Program} {w:World} {ops:Array Oper} {o:Oper} {a:Act} {K:Act→World→Prop} {Q:Exit→Act→World→Prop} {E:Prop}
theorem zel (hgd:o.guard=none) (s x:Operand) (t:TypeId) (ho:o.op=Op.call { callee:=Callee.builtin Builtin.append,args:=#[s,x],argTypes:=#[t,t] })
  (base:Nat) (e:TypeId) (i:TypeInfo) (z:Value) (size bytes:Nat) (ht:P.underlying t=some (.slice e)) (hi:P.info? e=some i) (hz:i.zero=some z)
  (hsize:i.size=size) (hby:i.bytes=bytes) (hzs:z.cells.size=size) (hsz:0<size) (v:Value) (n:Nat) (xs:List Value) (hs:a.eval s=v) (hown:w.ownsRow base e size v n xs)
  (ad:Addr) (m c:Nat) (news:List Value) (hx:a.eval x=.slice (some ad) m c) (hl:news.length=m * size) (hnews:∀j u,news[j]?=some u→w.cell? (ad.add j)=some u) (h1:∀u∈news,u.oneCell'=true)
  (h63:n+m≤maxLen) (hbytes:(n+m) * bytes≤140737488355328) (hbase:base≤w.heap.size)
  (h:∀v' w',w'.ownsRow base e size v' (n+m) (xs ++ news)→w.grownBy w' v.ownBlock→K (a.put o.dst v') w'):if Region.wanted o (yielded ops a.tmps)=true then Oper.wp P o a w K Q else E:=by
 have hw:Region.wanted o (yielded ops a.tmps)=true:=by simp [Region.wanted,hgd]
 rw [if_pos hw]
 exact wp_append_own w s x t ho base e i z size bytes ht hi hz hsize hby hzs hsz v n xs hs hown ad m c news hx hl hnews h1 h63 hbytes hbase fun v' w' h2 h3 _=>h v' w' h2 h3
end
def ntC (n:Nt):List Value:=[.string n.foot,.int .u64 n.num,.int .i64 (n.att 0),.int .i64 (n.att 1),.int .i64 (n.att 2),.int .i64 (n.att 3),.int .i64 (n.att 4),.int .i64 (n.att 5),.int .i64 (n.att 6),.int .i64 (n.att 7)]
def zaC (l:List Nt):List Value:=l.flatMap ntC
theorem zaX:∀l:List Nt,(zaC l).length=l.length * 10
 | []=>rfl
 | n :: l=>by
  have:=zaX l
  simp only [zaC,List.flatMap_cons,List.length_append,List.length_cons] at *
  rw [this]
  simp [ntC]
  omega
theorem zh4 (l:List Nt) (n:Nt):zaC (l ++ [n])=zaC l ++ ntC n:=by simp [zaC]
theorem zbW (l m:List Nt):zaC (l ++ m)=zaC l ++ zaC m:=by simp [zaC]
theorem zdH (n:Nt):∀y∈ntC n,y.oneCell'=true:=by
 intro y hy
 simp [ntC] at hy
 rcases hy with rfl | rfl | rfl | rfl | rfl | rfl | rfl | rfl | rfl | rfl <;> rfl
theorem zb0 (l:List Nt):∀y∈zaC l,y.oneCell'=true:=by
 intro y hy
 obtain ⟨n,_,hn⟩:=List.mem_flatMap.1 hy
 exact zdH n y hn
theorem zcH:∀{l:List Nt} {j i:Nat} (hj:j<l.length),i<10→(zaC l)[j * 10+i]?=(ntC l[j])[i]?
 | n :: l,0,i,_,hi=>by
  simp only [zaC,List.flatMap_cons,Nat.zero_mul,Nat.zero_add,List.getElem_cons_zero]
  rw [List.getElem?_append_left (by simpa [ntC] using hi)]
 | n :: l,j+1,i,hj,hi=>by
  have ih:=zcH (l:=l) (j:=j) (i:=i) (by simpa using hj) hi
  simp only [zaC,List.flatMap_cons,List.getElem_cons_succ] at *
  rw [List.getElem?_append_right (by simp [ntC];omega),←ih]
  congr 1
  simp [ntC]
  omega
end Go.Proofs.YtnjdckoljmgcjaaGreatDoor
namespace Go.Proofs.YtnjdckoljmgcjaaGreatDoor
open Go.ChangeShapes Go.WideShapes Go.ChangeAt Go.RowKit Go.Maps Go.WideMaps Go.Shelf Go.Sort
set_option linter.unusedVariables false
abbrev KeyT:Type:=ByteArray × Int
instance:Inhabited KeyT:=⟨(⟨#[]⟩,0)⟩
def cmpP (x y:KeyT):Int:=cmpK x.1 x.2 y.1 y.2
theorem intC:zll Lib.compareInt:=by
 constructor
 ·intro a b;unfold Lib.compareInt;split
  ·exact Or.inl rfl
  ·split
   ·exact Or.inr (Or.inr rfl)
   ·exact Or.inr (Or.inl rfl)
 ·intro a b;unfold Lib.compareInt;split <;> split <;> (try split) <;> omega
 ·intro a b;unfold Lib.compareInt;split
  ·constructor <;> intro h <;> omega
  ·split <;> constructor <;> intro h <;> omega
 ·intro a b c;unfold Lib.compareInt;intro h1 h2;split at h1 <;> split at h2 <;> (try split at h1) <;> (try split at h2) <;> split <;> (try split) <;> omega
theorem zvl (p q:Int):orK p q≤0 ↔ p<0∨(p=0∧q≤0):=by unfold orK;split <;> constructor <;> intro h <;> omega
theorem zbU:zll cmpP:=by
 have hb:∀a b:ByteArray,Lib.compareBytes a.data.toList b.data.toList=ziF a.data.toList b.data.toList:=fun a b=>zc9 _ _
 have ext:∀a b:ByteArray,a.data.toList=b.data.toList→a=b:=fun a b h=>by
  cases a;cases b;simp at h;rw [h]
 constructor
 ·intro x y
  unfold cmpP cmpK
  rw [hb]
  unfold orK
  split
  ·exact intC.three _ _
  ·exact zbD.three _ _
 ·intro x y
  unfold cmpP cmpK
  rw [hb,hb,zbD.swap x.1.data.toList,intC.swap x.2]
  unfold orK
  by_cases h:ziF x.1.data.toList y.1.data.toList=0
  ·rw [if_pos (by omega),if_pos h]
  ·rw [if_neg (by omega),if_neg h]
 ·intro x y
  unfold cmpP cmpK
  rw [hb]
  constructor
  ·intro h
   unfold orK at h
   split at h
   ·next h0 =>
    have h1:=ext _ _ ((zbD.same _ _).1 h0)
    have h2:=(intC.same _ _).1 h
    exact Prod.ext h1 h2
   ·next h0=>exact absurd h h0
  ·rintro rfl
   unfold orK
   rw [if_pos ((zbD.same _ _).2 rfl)]
   exact (intC.same _ _).2 rfl
 ·intro x y z h1 h2
  unfold cmpP cmpK at *
  rw [hb] at *
  rw [zvl] at *
  have sw:=zbD.swap x.1.data.toList y.1.data.toList
  have sw2:=zbD.swap y.1.data.toList z.1.data.toList
  have t:=zbD.trans x.1.data.toList y.1.data.toList z.1.data.toList
  have same1:=zbD.same x.1.data.toList z.1.data.toList
  have same2:=zbD.same x.1.data.toList y.1.data.toList
  have same3:=zbD.same y.1.data.toList z.1.data.toList
  have t2:=intC.trans x.2 y.2 z.2
  rcases h1 with h1 | ⟨h1,h1b⟩
  ·left
   have h3:ziF x.1.data.toList z.1.data.toList≤0:=t (by omega) (by omega)
   rcases Int.lt_or_eq_of_le h3 with h4 | h4
   ·exact h4
   ·have h5:=same1.1 h4
    rw [←h5] at h2 sw2
    omega
  ·rcases h2 with h2 | ⟨h2,h2b⟩
   ·left
    have h5:=same2.1 h1
    rw [h5];exact h2
   ·right
    have h5:=same2.1 h1
    rw [h5]
    exact ⟨h2,t2 h1b h2b⟩
theorem zo0 {x y z:KeyT} (h1:cmpP x y<0) (h2:cmpP y z<0):cmpP x z<0:=by
 have h3:=zbU.trans x y z (by omega) (by omega)
 rcases Int.lt_or_eq_of_le h3 with h4 | h4
 ·exact h4
 ·have h5:=(zbU.same x z).1 h4
  subst h5
  have:=zbU.swap x y
  omega
theorem zde (x:KeyT):cmpP x x=0:=(zbU.same x x).2 rfl
def zea (l:List KeyT):Prop:=l.Pairwise fun a b=>cmpP a b<0
theorem zkH:∀{a b:List KeyT},zea a→zea b→(∀x,x∈a ↔ x∈b)→a=b
 | [],[],_,_,_=>rfl
 | [],y :: b,_,_,h=>absurd ((h y).2 (by simp)) (by simp)
 | x :: a,[],_,_,h=>absurd ((h x).1 (by simp)) (by simp)
 | x :: a,y :: b,ha,hb,h=>by
  unfold zea at ha hb
  rw [List.pairwise_cons] at ha hb
  have e:x=y:=by
   rcases List.mem_cons.1 ((h x).1 (by simp)) with h1 | h1
   ·exact h1
   ·rcases List.mem_cons.1 ((h y).2 (by simp)) with h2 | h2
    ·exact h2.symm
    ·have h3:=ha.1 y h2
     have h4:=hb.1 x h1
     have:=zbU.swap x y
     omega
  subst e
  rw [zkH ha.2 hb.2 fun z=>?_]
  constructor
  ·intro hz
   rcases List.mem_cons.1 ((h z).1 (by simp [hz])) with h1 | h1
   ·subst h1
    have:=ha.1 z hz
    rw [zde] at this
    omega
   ·exact h1
  ·intro hz
   rcases List.mem_cons.1 ((h z).2 (by simp [hz])) with h1 | h1
   ·subst h1
    have:=hb.1 z hz
    rw [zde] at this
    omega
   ·exact h1
def mkE (l:List Nt) (y:KeyT):Nt:=⟨y.1,y.2,zbq l y.1 y.2⟩
def encE (l:List Nt) (y:KeyT):List Value:=ntC (mkE l y)
theorem zjA (x y:KeyT):ltOf cmpP x y=decide (cmpP x y<0):=rfl
theorem swoK:SWO (ltOf cmpP) where
 irrefl x:=by rw [zjA,zde];rfl
 trans x y z h1 h2:=by
  rw [zjA,decide_eq_true_iff] at *
  exact zo0 h1 h2
 ntrans x y z h1 h2:=by
  rw [zjA,decide_eq_false_iff_not] at *
  have a:=zbU.swap x y
  have b:=zbU.swap y z
  have c:=zbU.swap x z
  have d:=zbU.trans z y x (by omega) (by omega)
  omega
theorem zes {es:List KeyT} (hn:es.Nodup) {d:Array KeyT} (h1:PermIn 0 es.toArray.size es.toArray d) (h2:SortedIn (ltOf cmpP) 0 es.toArray.size d):zea d.toList∧∀x,x∈d.toList ↔ x∈es:=by
 obtain ⟨hs,_,hp⟩:=h1
 have hs':d.size=es.length:=by simpa using hs
 have hp2:d.toList.Perm es:=by
  have e1:(d.extract 0 es.toArray.size).toList=d.toList:=by simp [←hs']
  have e2:(es.toArray.extract 0 es.toArray.size).toList=es:=by simp
  rw [e1,e2] at hp
  exact hp
 refine ⟨?_,fun x=>hp2.mem_iff⟩
 have hnd:d.toList.Nodup:=hp2.nodup_iff.2 hn
 unfold zea
 rw [List.pairwise_iff_getElem]
 intro i j hi hj hij
 have h3:=h2 i j (Nat.zero_le _) hij (by simpa [hs'] using hj)
 have ei:d[i]! = d.toList[i]:=by simp at hi;rw [getElem!_pos d i hi];rfl
 have ej:d[j]! = d.toList[j]:=by simp at hj;rw [getElem!_pos d j hj];rfl
 rw [ei,ej,zjA,decide_eq_false_iff_not] at h3
 have h4:d.toList[i]≠d.toList[j]:=(List.pairwise_iff_getElem.1 hnd) i j hi hj hij
 have h5:=zbU.swap d.toList[i] d.toList[j]
 have h6:=zbU.same d.toList[i] d.toList[j]
 have h7:=zbU.three d.toList[i] d.toList[j]
 have h8:cmpP d.toList[i] d.toList[j]≠0:=fun e=>h4 (h6.1 e)
 omega
end Go.Proofs.YtnjdckoljmgcjaaGreatDoor
namespace Go.Proofs
open Go.Shelf
def Tryz.sortE_ren:Go.Shelf.Ren:=⟨fun | 6=>105 | 15=>111 | 14=>143 | 28=>155 | 29=>156 | 20=>174 | 21=>175 | 22=>176 | 23=>177 | 24=>178 | 25=>179 | 26=>180 | 27=>181 | 46=>199 | 47=>185 | 48=>186 | 49=>200 | 50=>201 | 57=>209 | n=>n,fun | 22=>106 | 24=>114 | 25=>180 | 3=>3 | 39=>186 | 0=>0 | 53=>56 | 55=>51 | 4=>4 | 46=>215 | 45=>214 | 50=>219 | 5=>5 | 9=>9 | 66=>239 | 70=>242 | 76=>260 | 77=>261 | n=>n,fun | n=>n⟩
theorem Tryz.sortE:Go.Proofs.SlLaysF0.n6 Tryz.prog Tryz.sortE_ren:={
 mixed:=by kernel_rfl
 f6:=⟨Tryz.f105.name,by decide,Tryz.func105.trans (congrArg some (by kernel_rfl))⟩
 f14:=⟨Tryz.f143.name,by decide,Tryz.func143.trans (congrArg some (by kernel_rfl))⟩
 f15:=Tryz.func111.trans (congrArg some (by kernel_rfl))
 f20:=⟨Tryz.f174.name,by decide,Tryz.func174.trans (congrArg some (by kernel_rfl))⟩
 f21:=⟨Tryz.f175.name,by decide,Tryz.func175.trans (congrArg some (by kernel_rfl))⟩
 f22:=⟨Tryz.f176.name,by decide,Tryz.func176.trans (congrArg some (by kernel_rfl))⟩
 f23:=⟨Tryz.f177.name,by decide,Tryz.func177.trans (congrArg some (by kernel_rfl))⟩
 f24:=⟨Tryz.f178.name,by decide,Tryz.func178.trans (congrArg some (by kernel_rfl))⟩
 f25:=⟨Tryz.f179.name,by decide,Tryz.func179.trans (congrArg some (by kernel_rfl))⟩
 f26:=⟨Tryz.f180.name,by decide,Tryz.func180.trans (congrArg some (by kernel_rfl))⟩
 f27:=⟨Tryz.f181.name,by decide,Tryz.func181.trans (congrArg some (by kernel_rfl))⟩
 f28:=Tryz.func155.trans (congrArg some (by kernel_rfl))
 f29:=Tryz.func156.trans (congrArg some (by kernel_rfl))
 f46:=⟨Tryz.f199.name,by decide,Tryz.func199.trans (congrArg some (by kernel_rfl))⟩
 f47:=Tryz.func185.trans (congrArg some (by kernel_rfl))
 f48:=Tryz.func186.trans (congrArg some (by kernel_rfl))
 f49:=⟨Tryz.f200.name,by decide,Tryz.func200.trans (congrArg some (by kernel_rfl))⟩
 f50:=⟨Tryz.f201.name,by decide,Tryz.func201.trans (congrArg some (by kernel_rfl))⟩
 f57:=⟨Tryz.f209.name,by decide,Tryz.func209.trans (congrArg some (by kernel_rfl))⟩
 t0:=Tryz.underlying0
 a0:=Tryz.isAgg0
 z0:=Tryz.sizeOf0
 v0:=Tryz.zeroValue0
 t3:=Tryz.underlying3
 a3:=Tryz.isAgg3
 z3:=Tryz.sizeOf3
 v3:=Tryz.zeroValue3
 t4:=Tryz.underlying4
 a4:=Tryz.isAgg4
 z4:=Tryz.sizeOf4
 v4:=Tryz.zeroValue4
 t5:=Tryz.underlying5
 a5:=Tryz.isAgg5
 z5:=Tryz.sizeOf5
 v5:=Tryz.zeroValue5
 t9:=Tryz.underlying9
 a9:=Tryz.isAgg9
 z9:=Tryz.sizeOf9
 v9:=Tryz.zeroValue9
 t22:=Tryz.underlying106
 a22:=Tryz.isAgg106
 z22:=Tryz.sizeOf106
 v22:=Tryz.zeroValue106
 t25:=Tryz.underlying180
 a25:=Tryz.isAgg180
 z25:=Tryz.sizeOf180
 v25:=Tryz.zeroValue180
 t39:=Tryz.underlying186
 a39:=Tryz.isAgg186
 z39:=Tryz.sizeOf186
 v39:=Tryz.zeroValue186
 t45:=Tryz.underlying214
 a45:=Tryz.isAgg214
 z45:=Tryz.sizeOf214
 v45:=Tryz.zeroValue214
 t46:=Tryz.underlying215
 a46:=Tryz.isAgg215
 z46:=Tryz.sizeOf215
 v46:=Tryz.zeroValue215
 t50:=Tryz.underlying219
 a50:=Tryz.isAgg219
 z50:=Tryz.sizeOf219
 v50:=Tryz.zeroValue219
 t53:=Tryz.underlying56
 a53:=Tryz.isAgg56
 z53:=Tryz.sizeOf56
 v53:=Tryz.zeroValue56
 t55:=Tryz.underlying51
 a55:=Tryz.isAgg51
 z55:=Tryz.sizeOf51
 v55:=Tryz.zeroValue51
 t66:=Tryz.underlying239
 a66:=Tryz.isAgg239
 z66:=Tryz.sizeOf239
 v66:=Tryz.zeroValue239
 t70:=Tryz.underlying242
 a70:=Tryz.isAgg242
 z70:=Tryz.sizeOf242
 v70:=Tryz.zeroValue242
 t76:=Tryz.underlying260
 a76:=Tryz.isAgg260
 z76:=Tryz.sizeOf260
 v76:=Tryz.zeroValue260
 t77:=Tryz.underlying261
 a77:=Tryz.isAgg261
 z77:=Tryz.sizeOf261
 v77:=Tryz.zeroValue261 }
end Go.Proofs
