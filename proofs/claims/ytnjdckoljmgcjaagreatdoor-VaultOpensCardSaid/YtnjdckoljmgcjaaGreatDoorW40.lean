/-
  The laws' same (moothilllaw15): a vault has just what the document says.
-/
import Derived.Test.YtnjdckoljmgcjaaGreatDoorW39
set_option maxRecDepth 100000
set_option maxHeartbeats 4000000
namespace Go.Proofs.YtnjdckoljmgcjaaGreatDoor
open Go.ChangeShapes Go.WideShapes Go.ChangeAt Go.RowKit Go.Maps Go.WideMaps
set_option linter.unusedVariables false
set_option linter.unusedSimpArgs false
def arr7 (f:Nat→Int):Array Value:=#[.int .i64 (f 0),.int .i64 (f 1),.int .i64 (f 2),.int .i64 (f 3),.int .i64 (f 4),.int .i64 (f 5),.int .i64 (f 6)]
theorem zt5 (a0 a1 a2 a3 a4 a5 a6:Int) (w:World):(Instr.index 62 (.agg #[.int .i64 a0,.int .i64 a1,.int .i64 a2,.int .i64 a3,.int .i64 a4,.int .i64 a5,.int .i64 a6]) (.int .i64 0)).run Tryz.prog w=.ok (.int .i64 a0) w:=by kernel_rfl
theorem zuQ (a0 a1 a2 a3 a4 a5 a6:Int) (w:World):(Instr.index 62 (.agg #[.int .i64 a0,.int .i64 a1,.int .i64 a2,.int .i64 a3,.int .i64 a4,.int .i64 a5,.int .i64 a6]) (.int .i64 1)).run Tryz.prog w=.ok (.int .i64 a1) w:=by kernel_rfl
theorem zuZ (a0 a1 a2 a3 a4 a5 a6:Int) (w:World):(Instr.index 62 (.agg #[.int .i64 a0,.int .i64 a1,.int .i64 a2,.int .i64 a3,.int .i64 a4,.int .i64 a5,.int .i64 a6]) (.int .i64 2)).run Tryz.prog w=.ok (.int .i64 a2) w:=by kernel_rfl
theorem zul (a0 a1 a2 a3 a4 a5 a6:Int) (w:World):(Instr.index 62 (.agg #[.int .i64 a0,.int .i64 a1,.int .i64 a2,.int .i64 a3,.int .i64 a4,.int .i64 a5,.int .i64 a6]) (.int .i64 3)).run Tryz.prog w=.ok (.int .i64 a3) w:=by kernel_rfl
theorem zuc (a0 a1 a2 a3 a4 a5 a6:Int) (w:World):(Instr.index 62 (.agg #[.int .i64 a0,.int .i64 a1,.int .i64 a2,.int .i64 a3,.int .i64 a4,.int .i64 a5,.int .i64 a6]) (.int .i64 4)).run Tryz.prog w=.ok (.int .i64 a4) w:=by kernel_rfl
theorem zuR (a0 a1 a2 a3 a4 a5 a6:Int) (w:World):(Instr.index 62 (.agg #[.int .i64 a0,.int .i64 a1,.int .i64 a2,.int .i64 a3,.int .i64 a4,.int .i64 a5,.int .i64 a6]) (.int .i64 5)).run Tryz.prog w=.ok (.int .i64 a5) w:=by kernel_rfl
theorem zuh (a0 a1 a2 a3 a4 a5 a6:Int) (w:World):(Instr.index 62 (.agg #[.int .i64 a0,.int .i64 a1,.int .i64 a2,.int .i64 a3,.int .i64 a4,.int .i64 a5,.int .i64 a6]) (.int .i64 6)).run Tryz.prog w=.ok (.int .i64 a6) w:=by kernel_rfl
theorem zrM (f:Nat→Int) (v:Int):∀a,a<7→(arr7 f).setIfInBounds a (.int .i64 v)=arr7 (upd f a v)
 | 0,_=>rfl
 | 1,_=>rfl
 | 2,_=>rfl
 | 3,_=>rfl
 | 4,_=>rfl
 | 5,_=>rfl
 | 6,_=>rfl
theorem zqf {w:World} {q:Nat} {T:TypeId} {f:Nat→Int} (h:Blk w q T (arr7 f)):∀a,a<7→w.cell? ⟨q,a,none⟩=some (.int .i64 (f a))
 | 0,_=>(h.cell 0).trans rfl
 | 1,_=>(h.cell 1).trans rfl
 | 2,_=>(h.cell 2).trans rfl
 | 3,_=>(h.cell 3).trans rfl
 | 4,_=>(h.cell 4).trans rfl
 | 5,_=>(h.cell 5).trans rfl
 | 6,_=>(h.cell 6).trans rfl
theorem zm3 (n:Nt):(Tryz.prog.info? 114).map (·.size)=some (ntC n).length:=by
 show _=some 10
 kernel_rfl
theorem ztl (n:Nt):(ntC n).toArray.all (·.oneCell')=true:=Array.all_eq_true_iff_forall_mem.2 (fun v hv=>zdH n v (by simpa using hv))
theorem zjS (n:Nt) (w:World):(storeCells ⟨w.heap.size,0,none⟩ (ntC n)).run Tryz.prog (w.alloc (.cells #[.string ⟨#[]⟩,.int .u64 0,.int .i64 0,.int .i64 0,.int .i64 0,.int .i64 0,.int .i64 0,.int .i64 0,.int .i64 0,.int .i64 0] 114))=.ok () ((w.alloc (.cells #[.string ⟨#[]⟩,.int .u64 0,.int .i64 0,.int .i64 0,.int .i64 0,.int .i64 0,.int .i64 0,.int .i64 0,.int .i64 0,.int .i64 0] 114)).setRow w.heap.size (ntC n).toArray) :=
 zbL (Blk.new w _ _) (ntC n).toArray rfl (ztl n)
theorem znJ {w W:World} {z:Array Value} {n:Nt} (h:(w.alloc (.cells z 114)).setRow w.heap.size (ntC n).toArray=W):Hid (Blk W w.heap.size 114 (ntC n).toArray)∧Hid (Below w.heap.size w W):=by
 subst h
 exact ⟨hid (Blk.rowAt (Blk.new w _ z)),hid (zak ((Below.refl _ w).alloc (Nat.le_refl _) _) (Nat.le_refl _))⟩
theorem zt0 (x:J) (w:World):(storeCells ⟨w.heap.size,0,none⟩ (rowJ x).toList).run Tryz.prog (w.alloc (.cells zrow 83))=.ok () ((w.alloc (.cells zrow 83)).setRow w.heap.size (rowJ x)):=zgb x 83 w
theorem zoQ {w:World} {b o:Nat} {z:J} {y:IdT} (h:w.rangeAt b o (jC z)) (e1:z.r=y.1) (e2:z.s=y.2):w.rangeAt b o (idC y):=by
 have h2:=zfj h
 rw [e1,e2] at h2
 exact h2
theorem zoU {ks:List IdT} {i:Nat} (hi:i<ks.length) (hr:zcl ks) (h0:0≤ks[i].2) (r:Int):zaq (ks.take (i+1)) r=if ks[i].1=r then ks[i].2+1 else zaq (ks.take i) r:=by
 rw [List.take_succ_eq_append_getElem hi]
 refine zm2 ?_ h0 r
 rw [←List.take_succ_eq_append_getElem hi]
 exact hr.sublist (List.take_sublist _ _)
theorem zkr (base v g:Nat) (cur gen:Int) (m x mi:Nat) (l:List J) (base2:Nat) (u:Value) (w:World) (h:zbZ w base v g cur gen m x mi l) (hD:DocX base2 w u l) (hG:∀z∈l,zbv z) (hl:l.length≤800) (hP:zad w) :
  Calls Tryz.prog 14 #[.pointer (some ⟨v,0,none⟩),.agg #[u]] w fun e w'=>e=.returned (.bool true)∧Below w.heap.size w w':=by
 have h0f:=h.ix.2.2.1
 have V0:=hid h
 have D0:=hid hD
 have HG:=hid hG
 have HP:=hid hP
 have HLi:=hid (fun w h=>zgP base v g cur gen m x mi l (zaP l) w h hG (by omega))
 have HLr:=hid (fun w h=>zkw base2 u l w h (by omega))
 have HNr:=hid (fun w h=>zjI base2 u l w h (by omega) hG)
 have HEn:=hid (fun w h=>zgh base v g cur gen m x mi l (zaP l) w h (by have:=zeH l;omega))
 have HEr:=hid (fun vv w h=>zhQ vv (zaP l) w h h0f (by have:=zeH l;omega))
 have HGet:=hid (fun (y:IdT) (w:World) (h:zbZ w base v g cur gen m x mi l) (hr:zbl y.1) (hs:zbl y.2)=>(show Calls Tryz.prog 36 #[.pointer (some ⟨v,0,none⟩),.agg (rowI y)] w fun e w'=>e=.returned (.agg (rowJ (mkV l y)))∧Below w.heap.size w w' from zje base v g cur gen m x mi l (zaP l) y.1 y.2 w h hr hs hG))
 have HSl:=hid (fun (r:Int) w h=>zoi base v g cur gen m x mi l (zaP l) r w h hG)
 clear h hD hG hP
 go_enter Tryz.func14,Tryz.ntmps14
 go_upto_region 1 with fail
 obtain ⟨W,hW⟩:∃X,w.alloc (.cells #[u] 36)=X:=⟨_,rfl⟩
 rw [hW]
 obtain ⟨K0,KB⟩:=za1 hW
 obtain ⟨k,hk⟩:∃k,w.heap.size=k:=⟨_,rfl⟩
 rw [hk] at K0
 rw [hk]
 have HK:=hid hk
 clear hW hk
 have V1:=hid (V0.out.on KB.out).drew
 have D1:=hid ((D0.out.on KB.out).on (zag (Below.refl _ _)))
 have K1:=hid K0.out.drew
 have B1:=hid (zag KB.out)
 have LV:=hid (zkS u)
 clear V0 D0 K0 KB
 refine wp_region_held_drew (S:=fun w'=>Blk w' k 36 #[u]) (by kernel_rfl) (by exact K1.out) (fun hHeld=>?_)
 refine ta 0 rfl hHeld ?_
 try simp only [Act.put,g1,g2,g3,g4,g5,g6]
 refine tk 2 (.agg (#[u])) rfl (fun _ _ _ h=>h) (za4 (by kernel_rfl) 36 (.tmp 3) rfl k rfl 36 (#[u]) (0,0) _ (fun _ h=>Blk.heap h) Tryz.underlying36 rfl LV.out) hHeld ?_
 try simp only [Act.put,g1,g2,g3,g4,g5,g6]
 refine wpAnyH_ready (rs:=[1]) (by kernel_rfl) (by simp) ?_
 refine AllReadyH.cons (o:=_) rfl (fun K hK=>?_) AllReadyH.nil
 go_simp
 go_at_call 17
 with_reducible refine (HLi.out _ V1.out).mono ?_
 rintro e w2 ⟨A,cA,ks,rfl,s1,s2,s3,s4⟩
 have S1:=hid s1
 have S3:=hid s3
 have V2:=hid (V1.out.on s4)
 have D2:=hid (D1.out.on s4)
 have K2:=hid (K1.out.below s4 K1.out.lt)
 have B2:=hid (B1.out.trans (s4.mono B1.out.size))
 clear s1 s3 s4
 refine hK.out _ _ (by exact K2.out) (fun hHeld=>?_)
 clear hK K
 try simp only [Act.put,g1,g2,g3,g4,g5,g6]
 refine wpAnyH_ready (rs:=[3]) (by kernel_rfl) (by simp) ?_
 refine AllReadyH.cons (o:=_) rfl (fun K hK=>?_) AllReadyH.nil
 go_simp
 go_at_call 35
 with_reducible refine (HLr.out _ D2.out).mono ?_
 rintro e w3 ⟨u2,ks2,rfl,t1,t2,t3,t4⟩
 have hkk:=EntV.ext t2 S1.out
 subst hkk
 have T1:=hid t1
 have S4:=hid (S3.out.below t4)
 have V3:=hid (V2.out.on t4)
 have D3:=hid (D2.out.on t4)
 have K3:=hid (K2.out.below t4 K2.out.lt)
 have B3:=hid (B2.out.trans (t4.mono B2.out.size))
 clear t1 t2 t4
 refine hK.out _ _ (by exact K3.out) (fun hHeld=>?_)
 clear hK K
 try simp only [Act.put,g1,g2,g3,g4,g5,g6]
 refine ta 4 rfl hHeld ?_
 refine ta 5 rfl hHeld ?_
 try simp only [Act.put,g1,g2,g3,g4,g5,g6]
 refine wpAnyH_done (by kernel_rfl) ?_ _
 clear hHeld
 clear HLi HLr V1 D1 K1 B1 V2 D2 K2 B2 S3
 obtain ⟨Bv,cb,rfl,hB0,hB1⟩:=zaM T1.out
 have HB0:=hid hB0
 have HB1:=hid hB1
 obtain ⟨n,hn⟩:∃n,ks2.length=n:=⟨_,rfl⟩
 have HN:=hid hn
 rw [hn] at HB0 HB1 ⊢
 clear hB0 hB1 hn
 have hnn:((n:Int) != (n:Int))=false:=by simp
 go_upto_region 5 with fail
 obtain ⟨W4,hW4⟩:∃X,w3.alloc (.cells (arr7 (fun r=>zaq (ks2.take 0) (r:Int))) 62)=X:=⟨_,rfl⟩
 have hW5:=hW4
 simp only [arr7,List.take_zero,zaq] at hW5
 rw [hW5]
 obtain ⟨Q4,QB⟩:=za1 hW4
 obtain ⟨q,hq⟩:∃q,w3.heap.size=q:=⟨_,rfl⟩
 have HQ:=hid hq
 rw [hq] at Q4
 rw [hq]
 clear hW4 hW5 hq hnn
 go_wp2
 go_loopw [27] (fun iv wr=>∃i:Nat,i≤n∧iv=.int .i64 (i:Int)∧Hid (Below w3.heap.size w3 wr)∧Hid (Blk wr q 62 (arr7 (fun r=>zaq (ks2.take i) (r:Int))))) (fun iv _=>n - (intOf iv).toNat)
 case atStart=>exact ⟨0,Nat.zero_le _,rfl,QB,Q4⟩
 case round =>
  obtain ⟨i,hi,rfl,HB,HA⟩:=hrel
  clear Q4 QB
  by_cases hlt:i<n
  ·have hltk:i<ks2.length:=by rw [HN.out];exact hlt
   have hlti:(i:Int)<(n:Int):=by omega
   have hlm:i<(ks2.map (mkV l)).length:=by simpa using hltk
   obtain ⟨bv,rfl,hbv⟩:∃bv,Bv=some ⟨bv,0,none⟩∧bv<w3.heap.size:=by
    cases Bv with
    | none=>have:=HB0.out rfl;omega
    | some a=>obtain ⟨b,rfl,_,_,h⟩:=HB1.out a rfl;exact ⟨b,rfl,h⟩
   have RW:=hid ((zfS (l:=ks2.map (mkV l)) T1.out hlm).below_ HB.out hbv)
   obtain ⟨ba,oa,rfl,hba,hra⟩:=(S4.out.below HB.out) i (ks2.map (mkV l))[i] (List.getElem?_eq_getElem hlm)
   have RG:=hid hra
   rw [List.getElem_map] at RW RG
   have HAs:Hid (hasV l ks2[i].1 ks2[i].2=true):=hid ((S1.out.2 ks2[i]).1 (List.getElem_mem hltk))
   have HTk:=hid (fun h0 r=>zoU hltk S1.out.1 h0 r)
   have HId:=hid (zsY l ks2[i])
   obtain ⟨y,hy⟩:∃y,ks2[i]=y:=⟨_,rfl⟩
   rw [hy] at RW RG HAs HTk HId
   clear hy hra
   have HGy:Hid (zbv (mkV l y)):=hid (by
    unfold mkV
    unfold hasV at HAs
    obtain ⟨z,hz⟩:=Option.isSome_iff_exists.1 HAs.out
    rw [zcN hz]
    exact HG.out z (zdD hz).1)
   have HGt:=hid (fun w h=>HGet.out y w h (by have:=HGy.out.ints.1;rw [HId.out.1] at this;exact this) (by have:=HGy.out.ints.2;rw [HId.out.2] at this;exact this))
   obtain ⟨z,hz⟩:∃z,mkV l y=z:=⟨_,rfl⟩
   rw [hz] at RW RG HGt HGy HId
   clear hz
   have LX:=hid (zhv z)
   have LJ:=hid (zim z)
   have LR:=hid (zd7 z)
   have LIc:=hid (zlU y)
   have hst:=zt0 z wr
   go_upto_region 8 with (first
    | (with_reducible refine wpList_load_mid (op:=⟨some 31,_,_,_,_,_⟩) rfl 83 (.tmp 30) rfl bv (i * 22) rfl (jC z) _ RW.out Tryz.underlying83 rfl LX.out ?_;rw [zeD]))
   clear hst
   obtain ⟨W5,hW5⟩:∃X,(wr.alloc (.cells zrow 83)).setRow wr.heap.size (rowJ z)=X:=⟨_,rfl⟩
   rw [hW5]
   obtain ⟨K9,KB9⟩:=zcS hW5
   obtain ⟨q9,hq9⟩:∃q,wr.heap.size=q:=⟨_,rfl⟩
   have B5:Hid (Below w3.heap.size w3 W5):=hid (HB.out.trans (KB9.out.mono HB.out.size))
   have A5:=hid (HA.out.below KB9.out HA.out.lt)
   have RG5:=hid (RG.out.below_ KB9.out hba)
   rw [hq9] at K9 hba
   rw [hq9]
   have hqq:q<q9:=by rw [←hq9];exact HA.out.lt
   clear hW5 hq9 KB9 HB HA RW RG
   have C0:=hid (zag B5.out)
   have C9:=hid K9.out.drew
   have CA:=hid A5.out.drew
   have CG:Hid (W5.drew.rangeAt ba (oa+i * 22) (jC z)):=hid (RG5.out.below_ (zag (Below.refl _ _)) (by have:=K9.out.lt;omega))
   have EX:=ztc z z true (zmb z)
   have EXG:=zno
   have EI:=zqB z z true (zmb z)
   have EIG:=zib
   have hba9:ba<W5.heap.size:=by have:=K9.out.lt;omega
   clear B5 K9 A5 RG5
   refine wp_region_held_drew (S:=fun w'=>Blk w' q9 83 (rowJ z)∧w'.rangeAt ba (oa+i * 22) (jC z)) (by kernel_rfl) (by exact ⟨C9.out,CG.out⟩) (fun hHeld=>?_)
   refine ta 0 rfl hHeld ?_
   refine ta 1 rfl hHeld ?_
   refine ta 2 rfl hHeld ?_
   try simp only [Act.put,g1,g2,g3,g4,g5,g6]
   refine tk 3 ((.agg (rowJ z))) rfl (fun _ _ _ h=>h) (za7 (by kernel_rfl) 66 (.tmp 34) rfl ba (oa+i * 22) rfl (jC z) _ (fun _ h=>And.right h) Tryz.underlying66 rfl LJ.out) hHeld ?_
   try simp only [Act.put,g1,g2,g3,g4,g5,g6]
   refine tk 5 (.agg (rowJ z)) rfl (fun _ _ _ h=>h) (za4 (by kernel_rfl) 83 (.tmp 9) rfl q9 rfl 83 (rowJ z) (0,0) _ (fun _ h=>Blk.heap (And.left h)) Tryz.underlying83 rfl LR.out) hHeld ?_
   try simp only [Act.put,g1,g2,g3,g4,g5,g6]
   refine wpAnyH_ready (rs:=[4]) (by kernel_rfl) (by simp) ?_
   refine AllReadyH.cons (o:=_) rfl (fun K hK=>?_) AllReadyH.nil
   go_simp
   go_at_call 24
   with_reducible refine (of15 z _).mono ?_
   rintro e w6 ⟨rfl,hb6⟩
   have E0:=hid (C0.out.trans (hb6.mono C0.out.size))
   have E9:=hid (C9.out.below hb6 C9.out.lt)
   have EA:=hid (CA.out.below hb6 CA.out.lt)
   have EG:=hid (CG.out.below_ hb6 hba9)
   have hba6:ba<w6.heap.size:=Nat.lt_of_lt_of_le hba9 hb6.size
   clear hb6
   refine hK.out _ _ (by exact ⟨E9.out,EG.out⟩) (fun hHeld=>?_)
   clear hK K
   try simp only [Act.put,g1,g2,g3,g4,g5,g6]
   refine ta 6 rfl hHeld ?_
   refine ta 7 rfl hHeld ?_
   refine ta 8 rfl hHeld ?_
   refine ta 9 rfl hHeld ?_
   refine ta 10 rfl hHeld ?_
   refine ta 11 rfl hHeld ?_
   refine ta 12 rfl hHeld ?_
   try simp only [Act.put,g1,g2,g3,g4,g5,g6]
   refine tk 13 ((.agg (rowI y))) rfl (fun _ _ _ h=>h) (za7 (by kernel_rfl) 55 (.tmp 44) rfl ba (oa+i * 22) rfl (idC y) _ (fun _ h=>zoQ (And.right h) HId.out.1 HId.out.2) Tryz.underlying55 rfl LIc.out) hHeld ?_
   try simp only [Act.put,g1,g2,g3,g4,g5,g6]
   refine ta 15 rfl hHeld ?_
   refine ta 16 rfl hHeld ?_
   refine ta 17 rfl hHeld ?_
   try simp only [Act.put,g1,g2,g3,g4,g5,g6]
   refine tk 18 ((.agg (rowJ z))) rfl (fun _ _ _ h=>h) (za7 (by kernel_rfl) 66 (.tmp 49) rfl ba (oa+i * 22) rfl (jC z) _ (fun _ h=>And.right h) Tryz.underlying66 rfl LJ.out) hHeld ?_
   try simp only [Act.put,g1,g2,g3,g4,g5,g6]
   refine wpAnyH_ready (rs:=[14]) (by kernel_rfl) (by simp) ?_
   refine AllReadyH.cons (o:=_) rfl (fun K hK=>?_) AllReadyH.nil
   go_simp
   go_at_call 36
   with_reducible refine (HGt.out _ (V3.out.on E0.out)).mono ?_
   rintro e w7 ⟨rfl,hb7⟩
   have F0:=hid (E0.out.trans (hb7.mono E0.out.size))
   have F9:=hid (E9.out.below hb7 E9.out.lt)
   have FA:=hid (EA.out.below hb7 EA.out.lt)
   have FG:=hid (EG.out.below_ hb7 hba6)
   clear hb7
   refine hK.out _ _ (by exact ⟨F9.out,FG.out⟩) (fun hHeld=>?_)
   clear hK K
   try simp only [Act.put,g1,g2,g3,g4,g5,g6]
   refine ta 19 rfl hHeld ?_
   refine ta 20 rfl hHeld ?_
   try simp only [Act.put,g1,g2,g3,g4,g5,g6]
   refine wpAnyH_done (by kernel_rfl) ?_ _
   clear hHeld
   have hsl:=HGy.out.slot
   obtain ⟨a,ha⟩:∃a:Nat,z.r=(a:Int):=⟨z.r.toNat,by omega⟩
   have ha7:a<7:=by omega
   have hai:(a:Int)<7:=by omega
   have c0:w7.cell? ⟨q9,0,none⟩=some (.int .i64 (a:Int)):=by rw [←ha];exact F9.out.j0
   have c1:=F9.out.j1
   have ca:=zqf FA.out a ha7
   have fa:=FA.out.frozen a
   have q1:IntKind.i64.wrap (z.s+1)=z.s+1:=IntWalk.i64_in _ (by omega)
   have QA:Hid (Blk (w7.setCell ⟨q,a,none⟩ (.int .i64 (z.s+1))) q 62 (arr7 (fun r=>zaq (ks2.take (i+1)) (r:Int)))):=hid (by
    have h1:=FA.out.set_ a (.int .i64 (z.s+1))
    rw [zrM _ _ a ha7] at h1
    have e:upd (fun r=>zaq (ks2.take i) (r:Int)) a (z.s+1)=fun (r:Nat)=>zaq (ks2.take (i+1)) (r:Int):=by
     funext r
     show _=zaq (ks2.take (i+1)) (r:Int)
     rw [HTk.out (by rw [←HId.out.2];exact hsl.2.2.1) (r:Int),←HId.out.1,←HId.out.2,ha]
     unfold upd
     by_cases hr:r=a
     ·rw [if_pos hr,if_pos (by rw [hr])]
     ·rw [if_neg hr,if_neg (by omega)]
    rw [e] at h1
    exact h1)
   have QB2:Hid (Below w3.heap.size w3 (w7.setCell ⟨q,a,none⟩ (.int .i64 (z.s+1)))):=hid (F0.out.setCell (p:=⟨q,a,none⟩) (by show w3.heap.size≤q;rw [HQ.out];exact Nat.le_refl _) _)
   clear F0 F9 FA FG E0 E9 EA EG C0 C9 CA CG EX EXG EI EIG
   go_wp2
   go_roundw
   case rel=>exact ⟨i+1,by omega,by go_num,QB2,QA⟩
   case measure=>simp only [intOf];omega
  ·have hke:i=n:=by omega
   have hnI:¬(i:Int)<(n:Int):=by omega
   have QA:Hid (Blk wr q 62 (arr7 (fun r=>zaq ks2 (r:Int)))):=hid (by
    have h:=HA.out
    rw [hke,←HN.out,List.take_length] at h
    exact h)
   have LA:=hid (show (Tryz.prog.info? 62).map (·.size)=some (arr7 (fun r=>zaq ks2 (r:Int))).size from (by show _=some 7;kernel_rfl))
   have HSv:Hid (∀(r:Int) w',zbZ w' base v g cur gen m x mi l→Calls Tryz.prog 37 #[.pointer (some ⟨v,0,none⟩),.int .i64 r] w' fun e w2=>e=.returned (.int .i64 (zaq ks2 r))∧Below w'.heap.size w' w2):=hid (fun r w' h=>(HSl.out r w' h).mono fun e w2 ⟨⟨ks3,h1,h2⟩,h3⟩=>⟨by rw [h2,zf0 (fun y=>(h1.2 y).trans (S1.out.2 y).symm) r],h3⟩)
   have B4:=hid HB.out
   clear HA HB HSl HB0 HB1 T1 S4
   go_upto_region 13 with (first
    | (with_reducible refine wpList_load_row (o:=⟨some 62,_,_,_,_,_⟩) rfl 62 (.tmp 7) rfl q rfl 62 (arr7 (fun r=>zaq ks2 (r:Int))) (0,0) _ QA.out.heap Tryz.underlying62 rfl LA.out ?_))
   simp only [arr7]
   clear QA LA
   go_loopw [63] (fun iv wr=>∃r:Nat,r≤7∧iv=.int .i64 (r:Int)∧Hid (Below w3.heap.size w3 wr)) (fun iv _=>7 - (intOf iv).toNat)
   case atStart=>exact ⟨0,by omega,rfl,B4⟩
   case round =>
    obtain ⟨r,hr,rfl,HB⟩:=hrel
    clear B4
    rcases (show r=0∨r=1∨r=2∨r=3∨r=4∨r=5∨r=6∨r=7 by omega) with rfl | rfl | rfl | rfl | rfl | rfl | rfl | rfl
    ·have hix:=zt5 (zaq ks2 0) (zaq ks2 1) (zaq ks2 2) (zaq ks2 3) (zaq ks2 4) (zaq ks2 5) (zaq ks2 6)
     go_wp2_with fail
     with_reducible refine (HSv.out 0 _ (V3.out.on HB.out)).mono ?_
     rintro e w8 ⟨rfl,hb8⟩
     have B8:=hid (HB.out.trans (hb8.mono HB.out.size))
     clear hb8
     have hne:(zaq ks2 0 != zaq ks2 0)=false:=by simp
     go_wp2
     go_roundw
     case rel=>exact ⟨_,_,_,_,_,_,_,_,_,_,_,_,_,⟨1,by omega,rfl,B8⟩,rfl⟩
     case measure=>simp [intOf]
    ·have hix:=zuQ (zaq ks2 0) (zaq ks2 1) (zaq ks2 2) (zaq ks2 3) (zaq ks2 4) (zaq ks2 5) (zaq ks2 6)
     go_wp2_with fail
     with_reducible refine (HSv.out 1 _ (V3.out.on HB.out)).mono ?_
     rintro e w8 ⟨rfl,hb8⟩
     have B8:=hid (HB.out.trans (hb8.mono HB.out.size))
     clear hb8
     have hne:(zaq ks2 1 != zaq ks2 1)=false:=by simp
     go_wp2
     go_roundw
     case rel=>exact ⟨_,_,_,_,_,_,_,_,_,_,_,_,_,⟨2,by omega,rfl,B8⟩,rfl⟩
     case measure=>simp [intOf]
    ·have hix:=zuZ (zaq ks2 0) (zaq ks2 1) (zaq ks2 2) (zaq ks2 3) (zaq ks2 4) (zaq ks2 5) (zaq ks2 6)
     go_wp2_with fail
     with_reducible refine (HSv.out 2 _ (V3.out.on HB.out)).mono ?_
     rintro e w8 ⟨rfl,hb8⟩
     have B8:=hid (HB.out.trans (hb8.mono HB.out.size))
     clear hb8
     have hne:(zaq ks2 2 != zaq ks2 2)=false:=by simp
     go_wp2
     go_roundw
     case rel=>exact ⟨_,_,_,_,_,_,_,_,_,_,_,_,_,⟨3,by omega,rfl,B8⟩,rfl⟩
     case measure=>simp [intOf]
    ·have hix:=zul (zaq ks2 0) (zaq ks2 1) (zaq ks2 2) (zaq ks2 3) (zaq ks2 4) (zaq ks2 5) (zaq ks2 6)
     go_wp2_with fail
     with_reducible refine (HSv.out 3 _ (V3.out.on HB.out)).mono ?_
     rintro e w8 ⟨rfl,hb8⟩
     have B8:=hid (HB.out.trans (hb8.mono HB.out.size))
     clear hb8
     have hne:(zaq ks2 3 != zaq ks2 3)=false:=by simp
     go_wp2
     go_roundw
     case rel=>exact ⟨_,_,_,_,_,_,_,_,_,_,_,_,_,⟨4,by omega,rfl,B8⟩,rfl⟩
     case measure=>simp [intOf]
    ·have hix:=zuc (zaq ks2 0) (zaq ks2 1) (zaq ks2 2) (zaq ks2 3) (zaq ks2 4) (zaq ks2 5) (zaq ks2 6)
     go_wp2_with fail
     with_reducible refine (HSv.out 4 _ (V3.out.on HB.out)).mono ?_
     rintro e w8 ⟨rfl,hb8⟩
     have B8:=hid (HB.out.trans (hb8.mono HB.out.size))
     clear hb8
     have hne:(zaq ks2 4 != zaq ks2 4)=false:=by simp
     go_wp2
     go_roundw
     case rel=>exact ⟨_,_,_,_,_,_,_,_,_,_,_,_,_,⟨5,by omega,rfl,B8⟩,rfl⟩
     case measure=>simp [intOf]
    ·have hix:=zuR (zaq ks2 0) (zaq ks2 1) (zaq ks2 2) (zaq ks2 3) (zaq ks2 4) (zaq ks2 5) (zaq ks2 6)
     go_wp2_with fail
     with_reducible refine (HSv.out 5 _ (V3.out.on HB.out)).mono ?_
     rintro e w8 ⟨rfl,hb8⟩
     have B8:=hid (HB.out.trans (hb8.mono HB.out.size))
     clear hb8
     have hne:(zaq ks2 5 != zaq ks2 5)=false:=by simp
     go_wp2
     go_roundw
     case rel=>exact ⟨_,_,_,_,_,_,_,_,_,_,_,_,_,⟨6,by omega,rfl,B8⟩,rfl⟩
     case measure=>simp [intOf]
    ·have hix:=zuh (zaq ks2 0) (zaq ks2 1) (zaq ks2 2) (zaq ks2 3) (zaq ks2 4) (zaq ks2 5) (zaq ks2 6)
     go_wp2_with fail
     with_reducible refine (HSv.out 6 _ (V3.out.on HB.out)).mono ?_
     rintro e w8 ⟨rfl,hb8⟩
     have B8:=hid (HB.out.trans (hb8.mono HB.out.size))
     clear hb8
     have hne:(zaq ks2 6 != zaq ks2 6)=false:=by simp
     go_wp2
     go_roundw
     case rel=>exact ⟨_,_,_,_,_,_,_,_,_,_,_,_,_,⟨7,by omega,rfl,B8⟩,rfl⟩
     case measure=>simp [intOf]
    ·have C1:=hid (zag HB.out)
     have HNr2:=hid (fun w' h=>HNr.out w' h)
     go_upto_region 18 with fail
     refine wp_region_held_drew (S:=fun w'=>Blk w' k 36 #[u]) (by kernel_rfl) (by exact (K3.out.below C1.out K3.out.lt)) (fun hHeld=>?_)
     refine ta 0 rfl hHeld ?_
     try simp only [Act.put,g1,g2,g3,g4,g5,g6]
     refine tk 2 (.agg (#[u])) rfl (fun _ _ _ h=>h) (za4 (by kernel_rfl) 36 (.tmp 3) rfl k rfl 36 (#[u]) (0,0) _ (fun _ h=>Blk.heap h) Tryz.underlying36 rfl LV.out) hHeld ?_
     try simp only [Act.put,g1,g2,g3,g4,g5,g6]
     refine wpAnyH_ready (rs:=[1]) (by kernel_rfl) (by simp) ?_
     refine AllReadyH.cons (o:=_) rfl (fun K hK=>?_) AllReadyH.nil
     go_simp
     go_at_call 38
     with_reducible refine (HEn.out _ (V3.out.on C1.out)).mono ?_
     rintro e w8 ⟨b8,cap8,kq,rfl,e1,e2,e3,e4,e5,e6,e7⟩
     have B8:=hid (C1.out.trans (e3.mono C1.out.size))
     have E4:=hid e4
     have EQ8:=hid (And.intro e5 e6)
     have hb8:=hid e2
     clear e1 e2 e3 e4 e5 e6 e7
     refine hK.out _ _ (by exact (K3.out.below B8.out K3.out.lt)) (fun hHeld=>?_)
     clear hK K
     try simp only [Act.put,g1,g2,g3,g4,g5,g6]
     refine wpAnyH_ready (rs:=[3]) (by kernel_rfl) (by simp) ?_
     refine AllReadyH.cons (o:=_) rfl (fun K hK=>?_) AllReadyH.nil
     go_simp
     go_at_call 40
     with_reducible refine (HNr2.out _ (D3.out.on B8.out)).mono ?_
     rintro e w9 ⟨u9,rfl,hd9,hb9⟩
     have B9:=hid (B8.out.trans (hb9.mono B8.out.size))
     have D9:=hid hd9
     have H89:=hid hb9
     clear hd9 hb9
     refine hK.out _ _ (by exact (K3.out.below B9.out K3.out.lt)) (fun hHeld=>?_)
     clear hK K
     try simp only [Act.put,g1,g2,g3,g4,g5,g6]
     refine wpAnyH_ready (rs:=[4]) (by kernel_rfl) (by simp) ?_
     refine AllReadyH.cons (o:=_) rfl (fun K hK=>?_) AllReadyH.nil
     go_simp
     go_at_call 39
     with_reducible refine (HEr.out _ _ D9.out).mono ?_
     rintro e w10 ⟨u10,kr,rfl,hr1,hr2,hr3⟩
     obtain rfl:kq=kr:=zkH EQ8.out.1 hr2.1 (fun y=>(EQ8.out.2 y).trans (hr2.2 y).symm)
     have B10:=hid (B9.out.trans (hr3.mono B9.out.size))
     have R10:=hid hr1
     have LR10:Hid (∀(j:Nat) (v:Value),(zaC (kq.map (mkE (zaP l))))[j]?=some v→w10.cell? ⟨b8,j,none⟩=some v):=hid (fun j v hj=>(hr3.cell (p:=⟨b8,j,none⟩) (Nat.lt_of_lt_of_le hb8.out H89.out.size)).trans ((H89.out.cell (p:=⟨b8,j,none⟩) hb8.out).trans (E4.out j v hj)))
     have hb10:=hid (Nat.lt_of_lt_of_le (Nat.lt_of_lt_of_le hb8.out H89.out.size) hr3.size)
     clear hr1 hr2 hr3
     refine hK.out _ _ (by exact (K3.out.below B10.out K3.out.lt)) (fun hHeld=>?_)
     clear hK K
     try simp only [Act.put,g1,g2,g3,g4,g5,g6]
     refine ta 5 rfl hHeld ?_
     refine ta 6 rfl hHeld ?_
     try simp only [Act.put,g1,g2,g3,g4,g5,g6]
     refine wpAnyH_done (by kernel_rfl) ?_ _
     clear hHeld
     obtain ⟨Bw,cw,rfl,hW0,hW1⟩:=zaM R10.out
     have HW0:=hid hW0
     have HW1:=hid hW1
     have hnq9:kq.length≤9223372036854775807:=by
      rcases R10.out.2 with ⟨_,e⟩ | ⟨g',cap',cur',e,_,_,h1,h2,_⟩
      ·omega
      ·unfold maxLen at h2
       omega
     obtain ⟨nq,hnq⟩:∃m,kq.length=m:=⟨_,rfl⟩
     have HNQ:=hid hnq
     rw [hnq] at HW0 HW1 hnq9 ⊢
     clear hW0 hW1 hnq
     have hnn2:((nq:Int) != (nq:Int))=false:=by simp
     have hnm:(List.map (mkE (zaP l)) kq).length=nq:=by rw [List.length_map,HNQ.out]
     clear H89 D9 E4 C1 HNr HNr2 HEn HEr B8 B9
     go_wp2
     go_loopw [85] (fun iv wr=>∃j:Nat,j≤nq∧iv=.int .i64 (j:Int)∧Hid (Below w10.heap.size w10 wr)) (fun iv _=>nq - (intOf iv).toNat)
     case atStart=>exact ⟨0,Nat.zero_le _,rfl,hid (Below.refl _ _)⟩
     case round =>
      obtain ⟨j,hj,rfl,HB⟩:=hrel
      by_cases hlt:j<nq
      ·have hlti:(j:Int)<(nq:Int):=by omega
       obtain ⟨bv,rfl,hbv⟩:∃bv,Bw=some ⟨bv,0,none⟩∧bv<w10.heap.size:=by
        cases Bw with
        | none=>have:=HW0.out rfl;omega
        | some a=>obtain ⟨b,rfl,_,_,h⟩:=HW1.out a rfl;exact ⟨b,rfl,h⟩
       have hj2:j<(kq.map (mkE (zaP l))).length:=by rw [hnm];exact hlt
       have RG:Hid (wr.rangeAt b8 (j * 10) (ntC (kq.map (mkE (zaP l)))[j])):=hid (fun i v hv=>by
        have hi:i<10:=by have:=(List.getElem?_eq_some_iff.1 hv).1;exact this
        have h1:=LR10.out (j * 10+i) v (by rw [zcH hj2 hi];exact hv)
        exact (HB.out.cell (by exact hb10.out)).trans h1)
       have RW:Hid (wr.rangeAt bv (j * 10) (ntC (kq.map (mkE (zaP l)))[j])):=hid ((zmv (show w10.ownsRow _ 116 10 (.slice (some ⟨bv,0,none⟩) nq cw) nq (zaC (kq.map (mkE (zaP l)))) from (by have h:=R10.out;rw [HNQ.out] at h;exact h)) hj2).below_ HB.out hbv)
       have hbw:bv<wr.heap.size:=Nat.lt_of_lt_of_le hbv HB.out.size
       obtain ⟨n0,hn0⟩:∃n,(kq.map (mkE (zaP l)))[j]=n:=⟨_,rfl⟩
       rw [hn0] at RG RW
       clear hn0 hj2
       obtain ⟨f2,u2,a2⟩:=n0
       have LN:=hid (zm3 ⟨f2,u2,a2⟩)
       have hst:=zjS ⟨f2,u2,a2⟩ wr
       have hs1:(ntC ⟨f2,u2,a2⟩).length=10:=rfl
       obtain ⟨cs,hcs⟩:∃cs,ntC ⟨f2,u2,a2⟩=cs:=⟨_,rfl⟩
       have HCS:=hid hcs
       rw [hcs] at RG LN hst hs1
       clear hcs
       go_upto_region 24 with (first
        | (with_reducible refine wpList_load_mid (op:=⟨some 89,_,_,_,_,_⟩) rfl 114 (.tmp 88) rfl b8 (j * 10) rfl cs _ RG.out Tryz.underlying114 rfl LN.out ?_))
       obtain ⟨W1,hW1⟩:∃W1,(wr.alloc (.cells #[.string ⟨#[]⟩,.int .u64 0,.int .i64 0,.int .i64 0,.int .i64 0,.int .i64 0,.int .i64 0,.int .i64 0,.int .i64 0,.int .i64 0] 114)).setRow wr.heap.size cs.toArray=W1:=⟨_,rfl⟩
       rw [hW1]
       rw [←HCS.out] at hW1
       obtain ⟨E0,EB⟩:=znJ hW1
       have G1:=hid (HB.out.trans (EB.out.mono HB.out.size))
       have RW1:=hid (RW.out.below_ EB.out hbw)
       clear hW1 hst hs1 RG RW EB HB HCS
       obtain ⟨p,hp⟩:∃p,wr.heap.size=p:=⟨_,rfl⟩
       rw [hp] at E0
       rw [hp]
       clear hp
       obtain ⟨c0,c1,c2,c3,c4,c5,c6,c7,c8,c9⟩:=zpu (E0.out:Blk W1 p 114 (#[.string f2,.int .u64 u2,.int .i64 (a2 0),.int .i64 (a2 1),.int .i64 (a2 2),.int .i64 (a2 3),.int .i64 (a2 4),.int .i64 (a2 5),.int .i64 (a2 6),.int .i64 (a2 7)]))
       have d0:W1.cell? ⟨bv,j * 10,none⟩=some (.string f2):=RW1.out 0 _ rfl
       have d1:W1.cell? ⟨bv,j * 10+1,none⟩=some (.int .u64 u2):=RW1.out 1 _ rfl
       obtain ⟨e0,e1,e2,e3,e4,e5,e6,e7⟩:=zoV (zg0 RW1.out)
       have EA:=zlb a2 a2 true (zmJ a2)
       have EAG:=zfU
       go_quiet (fail)
       go_wp2
       go_roundw
       case rel=>exact ⟨j+1,by omega,by go_num,hid (zav G1.out _)⟩
       case measure=>simp only [intOf];omega
      ·have hjk:¬(j:Int)<(nq:Int):=by omega
       have FB:=hid (B3.out.trans ((B10.out.trans (HB.out.mono B10.out.size)).mono B3.out.size))
       clear HB LR10 R10 HW0 HW1
       go_wp2
       go_ret
       exact ⟨rfl,FB.out⟩
end Go.Proofs.YtnjdckoljmgcjaaGreatDoor
