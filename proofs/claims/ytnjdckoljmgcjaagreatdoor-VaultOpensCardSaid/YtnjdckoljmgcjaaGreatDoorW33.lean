/-
  The law's own of and all (moothilllaw15), and the document's own Follows (moothillref10).
-/
import Derived.Test.YtnjdckoljmgcjaaGreatDoorW32
set_option maxRecDepth 100000
set_option maxHeartbeats 4000000
namespace Go.Proofs.YtnjdckoljmgcjaaGreatDoor
open Go.ChangeShapes Go.WideShapes Go.ChangeAt Go.RowKit Go.Maps Go.WideMaps Go.Lib
set_option linter.unusedVariables false
set_option linter.unusedSimpArgs false
theorem of15 (x:J) (w:World) :
  Calls Tryz.prog 24 #[.agg (rowJ x)] w fun e w'=>e=.returned (.agg (rowJ x))∧Below w.heap.size w w':=by
 obtain ⟨r,s,st,bal,vote,same,⟨ck,cu,cf,cq,cp,cm,cn,ct⟩,f⟩:=x
 go_enter Tryz.func24,Tryz.ntmps24
 go_upto_region 1 with fail
 obtain ⟨W,hW⟩:∃W,(w.alloc (.cells (rowJ ⟨r,s,st,bal,vote,same,⟨ck,cu,cf,cq,cp,cm,cn,ct⟩,f⟩) 66)).alloc (.cells zrow 83)=W:=⟨_,rfl⟩
 rw [hW]
 obtain ⟨K0,K1,KB⟩:=ztC hW
 clear hW
 obtain ⟨k,hk⟩:∃k,w.heap.size=k:=⟨_,rfl⟩
 rw [hk] at K0 K1 KB
 rw [hk]
 have HK:=hid hk
 clear hk
 have I1:=hid (zcI ⟨ck,cu,cf,cq,cp,cm,cn,ct⟩)
 go_upto_region 2 with (with_reducible refine wpList_load_mid (op:=⟨some 5,_,_,_,_,_⟩) rfl 61 (.tmp 4) rfl k 6 rfl (lsK ⟨ck,cu,cf,cq,cp,cm,cn,ct⟩) _ K0.out.jc Tryz.underlying61 rfl I1.out ?_)
 obtain ⟨m,hm⟩:∃m,W.heap.size=m:=⟨_,rfl⟩
 obtain ⟨W2,hW2⟩:∃W2,W.alloc (.cells #[.int .i64 ck,.int .u64 cu,.string cf,.int .u64 cq,.string cp,.int .i64 cm,.int .u64 cn,.int .i64 ct] 61)=W2:=⟨_,rfl⟩
 rw [hW2]
 have F0:Hid (Blk W2 k 66 (rowJ ⟨r,s,st,bal,vote,same,⟨ck,cu,cf,cq,cp,cm,cn,ct⟩,f⟩)):=hid (by rw [←hW2];exact K0.out.alloc _)
 have F1:Hid (Blk W2 (k+1) 83 (rowJ zau)):=hid (by rw [←hW2];exact K1.out.alloc _)
 have F2:Hid (Blk W2 m 61 #[.int .i64 ck,.int .u64 cu,.string cf,.int .u64 cq,.string cp,.int .i64 cm,.int .u64 cn,.int .i64 ct]):=hid (by rw [←hW2,←hm];exact Blk.new _ _ _)
 have FB:Hid (Below k w W2):=hid (by rw [←hW2];exact KB.out.trans ((Below.refl k W).alloc (by have:=K0.out.lt;omega) _))
 rw [hm]
 clear hW2 hm K0 K1 KB I1
 have c0:=F0.out.j0
 have c1:=F0.out.j1
 have c2:=F0.out.j2
 have c3:=F0.out.j3
 have c4:=F0.out.j4
 have c5:=F0.out.j5
 obtain ⟨⟨d0,d1,d2,d3,d4,d5,d6,d7⟩,_⟩:=zaa F2.out
 have I2:=hid (zdn f)
 have L1:=hid (zd7 ⟨r,s,st,bal,vote,same,⟨ck,cu,cf,cq,cp,cm,cn,ct⟩,f⟩)
 have L3:=hid (zaS ⟨r,s,st,bal,vote,same,⟨ck,cu,cf,cq,cp,cm,cn,ct⟩,f⟩)
 go_wp2_with (first
  | (with_reducible refine wpList_load_mid (op:=⟨some 36,_,_,_,_,_⟩) rfl 64 (.tmp 35) rfl k 14 rfl (ls8 f) _ F0.out.ja Tryz.underlying64 rfl I2.out ?_)
  | (refine wpList_store_row (o:=⟨none,_,_,_,_,_⟩) rfl 83 (.tmp 2) (.tmp 37) rfl (k+1) (rowJ ⟨r,s,st,bal,vote,same,⟨ck,cu,cf,cq,cp,cm,cn,ct⟩,f⟩) rfl ?hy 83 (rowJ zau) F1.out.heap L1.out rfl L3.out ?_;(case hy=>rfl)))
 exact bodyPost_ret (v:=.agg (rowJ ⟨r,s,st,bal,vote,same,⟨ck,cu,cf,cq,cp,cm,cn,ct⟩,f⟩)) (results_cell_row (p:=2) (ty:=83) (by kernel_rfl) _ _ (k+1) 83 (rowJ ⟨r,s,st,bal,vote,same,⟨ck,cu,cf,cq,cp,cm,cn,ct⟩,f⟩) (0,0) _ rfl (setRow_heap W2 (k+1) _ _ _ _ F1.out.heap) Tryz.underlying83 rfl L1.out) rfl ⟨rfl,by rw [HK.out];exact zak FB.out (by omega)⟩
theorem zfX:(Tryz.prog.info? 83).map (fun i=>(i.zero,i.size,i.bytes))=some (some (.agg (rowJ zau)),22,184):=by kernel_rfl
theorem zd0 (x:J) (w:World):(Instr.buildSlice 34 1 #[(0,.agg (rowJ x))]).run Tryz.prog w=.ok (.slice (some ⟨w.heap.size,0,none⟩) 1 1) (w.alloc (.cells (rowJ x) 83)):=by kernel_rfl
def AlAt (w:World) (xs:List J) (k:Nat) (u:Value) (wr:World):Prop:=wr.ownsRow w.heap.size 83 22 u k (zaQ (xs.take k))∧Below w.heap.size w wr
theorem AlAt.on {w wr w':World} {xs:List J} {k:Nat} {u:Value} (h:AlAt w xs k u wr) (hb:Below wr.heap.size wr w'):AlAt w xs k u w':=⟨zcc h.1 hb,h.2.trans (hb.mono h.2.size)⟩
theorem AlAt.row {w wr:World} {xs:List J} {k:Nat} {u:Value} (h:AlAt w xs k u wr):wr.ownsRow w.heap.size 83 22 u k (zaQ (xs.take k)):=h.1
theorem AlAt.le {w wr:World} {xs:List J} {k:Nat} {u:Value} (h:AlAt w xs k u wr):w.heap.size≤wr.heap.size:=h.2.size
theorem zvm (A:Option Addr) (xs:List J) (n ca:Nat) (w:World) (hn:xs.length=n) (hl:n≤900) (hA:zcw w A xs) :
  Calls Tryz.prog 9 #[.slice A n ca] w fun e w'=>∃u,e=.returned u∧w'.ownsRow w.heap.size 83 22 u n (zaQ xs)∧Below w.heap.size w w':=by
 obtain ⟨i0,hi0,hz0,hz1,hz2⟩:=info_parts zfX
 have HI:=hid (And.intro hi0 (And.intro hz0 (And.intro hz1 hz2)))
 have HA:=hid hA
 have HN:=hid hn
 clear hA hn hi0 hz0 hz1 hz2
 go_enter Tryz.func9,Tryz.ntmps9
 go_wp2
 go_loopw [3,8] (fun u iv wr=>∃k:Nat,k≤n∧iv=.int .i64 (k:Int)∧Hid (AlAt w xs k u wr)) (fun _ iv _=>n - (intOf iv).toNat)
 case atStart=>exact ⟨0,Nat.zero_le _,rfl,hid ⟨World.ownsRow_nil _ _ _ _,Below.refl _ _⟩⟩
 case round =>
  obtain ⟨k,hk,rfl,HL⟩:=hrel
  by_cases hlt:k<n
  ·have hltx:k<xs.length:=by rw [HN.out];exact hlt
   have hlti:(k:Int)<(n:Int):=by omega
   obtain ⟨b,o,rfl,hbl,hra⟩:=HA.out k xs[k] (List.getElem?_eq_getElem hltx)
   have HRA:Hid (wr.rangeAt b (o+k * 22) (jC xs[k])):=hid (fun i v hv=>(HL.out.2.cell (p:=⟨b,o+k * 22+i,none⟩) hbl).trans (hra i v hv))
   have HTk:Hid (zaQ (xs.take (k+1))=zaQ (xs.take k) ++ jC xs[k]):=hid (by rw [List.take_succ_eq_append_getElem hltx,zeQ])
   clear hra
   obtain ⟨x,hx⟩:∃x,xs[k]=x:=⟨_,rfl⟩
   rw [hx] at HRA HTk
   clear hx
   have LJ:=hid (zim x)
   have L1:=hid (zaE x)
   have hst:=zgb x 66 wr
   go_upto_region 5 with (first
    | (with_reducible refine wpList_load_mid (op:=⟨some 11,_,_,_,_,_⟩) rfl 66 (.tmp 10) rfl b (o+k * 22) rfl (jC x) _ HRA.out Tryz.underlying66 rfl LJ.out ?_;rw [zeD]))
   clear hst
   obtain ⟨W1,hW1⟩:∃W,(wr.alloc (.cells zrow 66)).setRow wr.heap.size (rowJ x)=W:=⟨_,rfl⟩
   rw [hW1]
   obtain ⟨K7,KB7⟩:=zcS hW1
   have A1:=hid (HL.out.on KB7.out)
   clear hW1 KB7 HL HRA
   have HB:=hid (zd0 x)
   go_wp2_with (first
    | (with_reducible refine wpList_load_row (o:=⟨some 13,_,_,_,_,_⟩) rfl 66 (.tmp 5) rfl wr.heap.size rfl 66 (rowJ x) (0,0) _ K7.out.heap Tryz.underlying66 rfl L1.out ?_)
    | (go_at_call 24;(with_reducible refine (of15 x _).mono ?_);rintro e w5 ⟨rfl,hb5⟩;have A2:=hid (A1.out.on hb5);clear hb5)
    | (with_reducible refine zbj (o:=⟨some 15,_,_,_,_,_⟩) rfl 34 83 (.tmp 14) rfl (rowJ x) rfl HB.out ?_;have A3:=hid (A2.out.on ((Below.refl _ _).alloc (Nat.le_refl _) (.cells (rowJ x) 83))))
    | (at_builtin;refine wpList_append_own_at _ rfl (.tmp 12) (.tmp 15) 34 rfl w.heap.size 83 i0 (.agg (rowJ zau)) 22 184 Tryz.underlying34 HI.out.1 HI.out.2.1 HI.out.2.2.1 HI.out.2.2.2 rfl (by decide) _ _ _ rfl A3.out.row ⟨w5.heap.size,0,none⟩ 1 1 (jC x) rfl rfl (zlB _ _ _) (zf5 _) (by unfold maxLen;omega) (by omega) (by have:=A2.out.le;simp;omega) ?_;intro u' w6 hown6 hg6 _ hu6))
   have A4:Hid (AlAt w xs (k+1) u' w6):=hid ⟨by rw [HTk.out];exact hown6,A3.out.2.grown hg6 A3.out.le (fun b e=>(A3.out.row.lt b e).1)⟩
   clear A1 A2 A3 hown6 hg6 hu6 K7
   go_roundw
   case rel=>exact ⟨k+1,by omega,by go_num,A4⟩
   case measure=>simp only [intOf];omega
  ·have hke:k=n:=by omega
   have hnI:¬(k:Int)<(n:Int):=by omega
   have HR:Hid (wr.ownsRow w.heap.size 83 22 u3 n (zaQ xs)):=hid (by
    have h:=HL.out.row
    rw [hke,←HN.out,List.take_length] at h
    rw [←HN.out]
    exact h)
   have HB:=hid HL.out.2
   clear HL
   go_wp2
   go_ret
   exact ⟨u3,rfl,HR.out,HB.out⟩
end Go.Proofs.YtnjdckoljmgcjaaGreatDoor
