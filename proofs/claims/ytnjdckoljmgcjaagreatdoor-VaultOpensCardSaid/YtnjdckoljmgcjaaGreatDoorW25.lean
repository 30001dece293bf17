/-
  The contract of know (package vault).
-/
import Derived.Test.YtnjdckoljmgcjaaGreatDoorW24
set_option maxRecDepth 100000
set_option maxHeartbeats 4000000
namespace Go.Proofs.YtnjdckoljmgcjaaGreatDoor
open Go.ChangeShapes Go.WideShapes Go.ChangeAt Go.RowKit Go.Maps Go.WideMaps
set_option linter.unusedVariables false
set_option linter.unusedSimpArgs false
theorem zbv.sizes {x:J} (h:zbv x):x.c.foot.size≤64∧x.c.path.size≤64:=by
 obtain ⟨hok,hK,hr⟩:=h
 obtain ⟨a,b,v,u,t,ha,hb,hv,hu,ht,ha7,hb10,hvv,hvb,huu,hub,ht3,hn0,h0⟩:=zcG hok hr
 by_cases hz:t=0
 ·obtain ⟨_,_,hc,_⟩:=h0 hz
  rw [hc]
  exact ⟨by decide,by decide⟩
 ·exact ⟨(zd4 x.c hK (hn0 hz).1).2.2.2.1,(zd4 x.c hK (hn0 hz).1).2.2.2.2⟩
theorem zbv.ints {x:J} (h:zbv x):zbl x.r∧zbl x.s:=by
 obtain ⟨a,b,v,u,t,ha,hb,hv,hu,ht,ha7,hb10,_⟩:=zcG h.1 h.2.2
 unfold zbl
 omega
theorem zeN {l:List J} (h:∀x∈l,zbv x):zfR l:=fun x hx=>(h x hx).ints
theorem zrE (r s:Int):(Tryz.prog.info? 55).map (·.size)=some ([Value.int .i64 r,Value.int .i64 s]:List Value).length:=by kernel_rfl
theorem Blk.jn {w:World} {g:Nat} {T:TypeId} {x:J} (h:Blk w g T (rowJ x)):w.rangeAt g 0 [.int .i64 x.r,.int .i64 x.s]:=by
 intro j v hv
 have hj:j<2:=(List.getElem?_eq_some_iff.1 hv).1
 rw [h.cell,←hv]
 rcases (show j=0∨j=1 by omega) with rfl | rfl <;> rfl
def Kn (w W:World) (k:Nat) (y:J) (base v g:Nat) (cur gen:Int) (m x mi:Nat) (l:List J) (nl:List Nt):Prop :=
 VAt W base v g cur gen m x mi l nl∧Blk W k 66 (rowJ y)∧zai (OwnV v m mi) w W∧zad W∧(v<k∧m<k∧mi<k∧x<k)∧0<base∧w.heap.size≤k
section
variable {w W W':World} {k:Nat} {y:J} {base v g:Nat} {cur gen:Int} {m x mi:Nat} {l:List J} {nl:List Nt}
theorem Kn.vat (h:Kn w W k y base v g cur gen m x mi l nl):VAt W base v g cur gen m x mi l nl:=h.1
theorem Kn.box (h:Kn w W k y base v g cur gen m x mi l nl):Blk W k 66 (rowJ y):=h.2.1
theorem Kn.turns (h:Kn w W k y base v g cur gen m x mi l nl):zai (OwnV v m mi) w W:=h.2.2.1
theorem Kn.parts (h:Kn w W k y base v g cur gen m x mi l nl):zad W:=h.2.2.2.1
theorem Kn.lts (h:Kn w W k y base v g cur gen m x mi l nl):v<k∧m<k∧mi<k∧x<k:=h.2.2.2.2.1
theorem Kn.lt (h:Kn w W k y base v g cur gen m x mi l nl):k<W.heap.size:=h.2.1.lt
theorem Kn.on (h:Kn w W k y base v g cur gen m x mi l nl) (hb:Below W.heap.size W W'):Kn w W' k y base v g cur gen m x mi l nl :=
 ⟨h.1.on hb,h.2.1.below hb h.2.1.lt,h.2.2.1.then hb,h.2.2.2.1.below hb,h.2.2.2.2⟩
theorem Kn.drew (h:Kn w W k y base v g cur gen m x mi l nl):Kn w W.drew k y base v g cur gen m x mi l nl:=h.on (zag (Below.refl _ _))
theorem Kn.step {l':List J} {nl':List Nt} {cur' gen':Int} (h:Kn w W k y base v g cur gen m x mi l nl) (hv:VAt W' base v g cur' gen' m x mi l' nl') (t:zai (OwnV v m mi) W W'):Kn w W' k y base v g cur' gen' m x mi l' nl' :=
 ⟨hv,h.2.1.turns t (by have:=h.lts;unfold OwnV;omega),h.2.2.1.trans t (fun _ _ h=>h),h.1.parts h.2.2.2.1 h.2.2.2.2.2.1 t,h.2.2.2.2⟩
theorem Kn.open (h:Kn w W k y base v g cur gen m x mi l nl):∃lo hi,Blk W v 97 (vaC g cur gen m x lo hi):=h.1.blk
theorem Kn.noted {nl':List Nt} (h:Kn w W k y base v g cur gen m x mi l nl) (hx:Ix W' x mi nl') (hg:W.grownBy W' (some mi)):Kn w W' k y base v g cur gen m x mi l nl':=by
 obtain ⟨lo,hi,hb⟩:=h.1.blk
 obtain ⟨n1,n2,n3,n4,n5⟩:=h.1.nexs
 refine h.step ⟨⟨lo,hi,hb.grown hg (by simpa using n2)⟩,h.1.st.same (hg.block m h.1.lts.2.1 (by simpa using h.1.ne)),hx,h.1.ints,h.1.ne,h.1.low⟩ (zai.of_grown hg (fun b e=>?_))
 injection e with e
 exact .inr (.inr e.symm)
theorem Kn.stored {l':List J} (h:Kn w W k y base v g cur gen m x mi l nl) (hs:StM W' m l'.length l') (hi:zfR l') (hg:W.grownBy W' (some m)):Kn w W' k y base v g cur gen m x mi l' nl:=by
 obtain ⟨lo,hi',hb⟩:=h.1.blk
 obtain ⟨n1,n2,n3,n4,n5⟩:=h.1.nexs
 refine h.step ⟨⟨lo,hi',hb.grown hg (by simpa using n1)⟩,hs,⟨h.1.ix.1.grown hg (by simpa using n3),h.1.ix.2.1.same (hg.block mi h.1.lts.2.2.2 (by simpa using Ne.symm h.1.ne)),h.1.ix.2.2⟩,hi,h.1.ne,h.1.low⟩ (zai.of_grown hg (fun b e=>?_))
 injection e with e
 exact .inr (.inl e.symm)
theorem Kn.num {cur' gen':Int} (h:Kn w W k y base v g cur gen m x mi l nl) (hv:VAt W' base v g cur' gen' m x mi l nl) (t:zai (fun b=>b=v) W W'):Kn w W' k y base v g cur' gen' m x mi l nl:=h.step hv (t.more (fun _ _ e=>.inl e))
theorem Kn.new (h:VAt w base v g cur gen m x mi l nl) (hP:zad w) (hgb:0<base) (hW:w.alloc (.cells (rowJ y) 66)=W):Hid (Kn w W w.heap.size y base v g cur gen m x mi l nl):=by
 obtain ⟨K0,KB⟩:=za1 hW
 have:=h.lts
 exact hid ⟨h.on KB.out,K0.out,zai.of_below KB.out,hP.below KB.out,⟨this.1,this.2.1,this.2.2.2,this.2.2.1⟩,hgb,Nat.le_refl _⟩
theorem zaN (W:World) (q:Nat) (cs:Array Value):zai (fun b=>b=q) W (W.setRow q cs) :=
 ⟨rfl,rfl,rfl,by simp [World.setRow],fun i hi hne=>by simp [World.setRow,Array.getElem?_modify,Ne.symm hne]⟩
theorem Kn.other {q:Nat} (h:Kn w W k y base v g cur gen m x mi l nl) (t:zai (fun b=>b=q) W W') (hq:k<q):Kn w W' k y base v g cur gen m x mi l nl:=by
 have hl:=h.lts
 have hw:=h.2.2.2.2.2.2
 have hp:=h.2.2.2.2.2.1
 have hlo:=h.1.low
 refine ⟨h.1.stay t (by omega),h.2.1.turns t (by omega),h.2.2.1.trans t (fun i hi e=>by omega),?_,h.2.2.2.2⟩
 have hP:=h.2.2.2.1
 unfold zad World.var? at *
 rw [zcx] at *
 simp only [Option.bind_some] at *
 rw [t.block 0 (by have:=h.lt;omega) (by omega)]
 exact hP
end
theorem zmH (base v g:Nat) (cur gen:Int) (m x mi:Nat) (l:List J) (y:J) (w:World) (h:zbZ w base v g cur gen m x mi l) (hP:zad w) (hgb:0<base) (hG:zbv y) (hall:∀z∈l,zbv z) (hlen:l.length<900) :
  Calls Tryz.prog 31 #[.pointer (some ⟨v,0,none⟩),.agg (rowJ y)] w fun e w'=>e=.returned (.tuple #[])∧zbZ w' base v g cur gen m x mi (l ++ [y])∧zai (OwnV v m mi) w w':=by
 obtain ⟨z1,z2⟩:=hG.sizes
 obtain ⟨i1,i2⟩:=hG.ints
 have hn1:=zeH l
 have HG:=hid hG
 have HI:=hid (And.intro i1 i2)
 have HV:=hid h
 have HP:=hid hP
 have HNo:=hid (fun (w:World) (h:Ix w x mi (zaP l)) (hP:zad w)=>zmX x mi (zaP l) y.c y.r y.s (y.f 0) w h hP (by omega) (by omega) hG.okk.1 (by omega))
 have HSz:=hid (fun w hP=>zhl y w hP hG)
 have HOw:=hid (fun w=>zmF y w (by omega) (by omega))
 have HAll:=hid (fun w hP (hh:hasV l y.r y.s=true)=>zhl (zhx l y.r y.s) w hP (by
  rw [zd2 hh]
  unfold hasV at hh
  obtain ⟨z,hz⟩:=Option.isSome_iff_exists.1 hh
  rw [zcN hz]
  exact hall z (zdD hz).1))
 have HIn:=hid (zeN hall)
 have HIn2:Hid (zfR (l ++ [y])):=hid (fun z hz=>by
  rcases List.mem_append.1 hz with hz | hz
  ·exact zeN hall z hz
  ·rw [List.mem_singleton.1 hz];exact hG.ints)
 have HNs:=hid (zho l y)
 clear h hP hG hall i1 i2
 obtain ⟨nl,hnl⟩:∃nl,zaP l=nl:=⟨_,rfl⟩
 obtain ⟨nl2,hnl2⟩:∃nl2,zaP (l ++ [y])=nl2:=⟨_,rfl⟩
 unfold zbZ at HV ⊢
 rw [hnl] at HNo HV HNs
 rw [hnl2] at HNs ⊢
 rw [←HNs.out] at HNo
 clear hnl hnl2 hn1
 obtain ⟨lk,hlk⟩:∃z,zhx l y.r y.s=z:=⟨_,rfl⟩
 obtain ⟨hb,hhb⟩:∃b,hasV l y.r y.s=b:=⟨_,rfl⟩
 rw [hlk,hhb] at HAll
 have HLk:=hid (And.intro hlk hhb)
 clear hlk hhb
 have L1:=hid (zaE y)
 have L2:=hid (zaE lk)
 have L3:=hid (zaS lk)
 have LS:=hid (zaW zau lk)
 have LC:=hid (zcI y.c)
 have LM:=hid (zrE y.r y.s)
 go_enter Tryz.func31,Tryz.ntmps31
 go_upto_region 1 with fail
 obtain ⟨W,hW⟩:∃W,w.alloc (.cells (rowJ y) 66)=W:=⟨_,rfl⟩
 rw [hW]
 have A0:=Kn.new HV.out HP.out hgb hW
 clear hW HV HP
 obtain ⟨k,hk⟩:∃k,w.heap.size=k:=⟨_,rfl⟩
 rw [hk] at A0 ⊢
 clear hk
 obtain ⟨lo,hi,hbv⟩:=A0.out.drew.open
 have HB:=hid hbv
 clear hbv
 refine wp_region_held_drew (S:=fun w'=>Blk w' v 97 (vaC g cur gen m x lo hi)∧Blk w' k 66 (rowJ y)) (by kernel_rfl) (by exact ⟨HB.out,A0.out.drew.box⟩) (fun hHeld=>?_)
 refine ta 0 rfl hHeld ?_
 refine ta 1 rfl hHeld ?_
 refine ta 2 rfl hHeld ?_
 try simp only [Act.put,g1,g2,g3,g4,g5,g6]
 refine tl 3 ?_ rfl ?_ hHeld ?_
 rotate_left 1
 focus (intro w' hSw;(try dsimp only at hSw);(have q0:w'.cell? ⟨v,4,none⟩=some (.pointer (some ⟨x,0,none⟩)):=((And.left hSw).cell 4).trans rfl);go_simp;try with_reducible rfl)
 try simp only [Act.put,g1,g2,g3,g4,g5,g6]
 refine ta 4 rfl hHeld ?_
 try simp only [Act.put,g1,g2,g3,g4,g5,g6]
 refine tk 5 ((val y.c)) rfl (fun _ _ _ h=>h) (za7 (by kernel_rfl) 61 (.tmp 10) rfl k (6) rfl (lsK y.c) _ (fun _ h=>(And.right h).jc) Tryz.underlying61 rfl LC.out) hHeld ?_
 try simp only [Act.put,g1,g2,g3,g4,g5,g6]
 refine ta 6 rfl hHeld ?_
 try simp only [Act.put,g1,g2,g3,g4,g5,g6]
 refine tk 7 ((nm y.r y.s)) rfl (fun _ _ _ h=>h) (za7 (by kernel_rfl) 55 (.tmp 12) rfl k (0) rfl ([.int .i64 y.r,.int .i64 y.s]) _ (fun _ h=>(And.right h).jn) Tryz.underlying55 rfl LM.out) hHeld ?_
 try simp only [Act.put,g1,g2,g3,g4,g5,g6]
 refine ta 8 rfl hHeld ?_
 refine ta 9 rfl hHeld ?_
 try simp only [Act.put,g1,g2,g3,g4,g5,g6]
 refine tl 10 ?_ rfl ?_ hHeld ?_
 rotate_left 1
 focus (intro w' hSw;(try dsimp only at hSw);(have q0:w'.cell? ⟨k,14,none⟩=some (.int .i64 (y.f 0)):=((And.right hSw).cell 14).trans rfl);go_simp;try with_reducible rfl)
 try simp only [Act.put,g1,g2,g3,g4,g5,g6]
 refine wpAnyH_ready (rs:=[11]) (by kernel_rfl) (by simp) ?_
 refine AllReadyH.cons (o:=_) rfl (fun K hK=>?_) AllReadyH.nil
 go_simp
 go_at_call 63
 with_reducible refine (HNo.out _ A0.out.drew.vat.ix A0.out.drew.parts).mono ?_
 rintro e w1 ⟨rfl,hx1,hg1⟩
 have A1:=hid (A0.out.drew.noted hx1 hg1)
 have HB1:Hid (Blk w1 v 97 (vaC g cur gen m x lo hi)):=hid (HB.out.grown hg1 (by have:=A0.out.vat.nexs.2.1;simpa using this))
 clear hx1 hg1
 refine hK.out _ _ (by exact ⟨HB1.out,A1.out.box⟩) (fun hHeld=>?_)
 clear hK K
 try simp only [Act.put,g1,g2,g3,g4,g5,g6]
 refine wpAnyH_done (by kernel_rfl) ?_ _
 clear hHeld
 clear A0 HB HB1 HNo
 go_wp2_with fail
 with_reducible refine (zk8 base v g cur gen m x mi l nl2 _ A1.out.vat).mono ?_
 rintro e w2 ⟨rfl,hv2,t2⟩
 have A2:=hid (A1.out.num hv2 t2)
 clear A1 hv2 t2
 obtain ⟨lo,hi,hbv⟩:=A2.out.drew.open
 have HB:=hid hbv
 clear hbv
 go_upto_region 3 with fail
 obtain ⟨MB,hMB⟩:∃B,w2.heap[m]?=B:=⟨_,rfl⟩
 have HMB:=hid hMB
 have HLook:Hid (∀w',w'.heap[m]?=MB→(Instr.lookup 92 (.map (some m)) (nm y.r y.s) true).run Tryz.prog w'=.ok (.tuple #[.agg (rowJ lk),.bool hb]) w'):=hid (fun w' e=>by
  rw [←HLk.out.1,←HLk.out.2]
  exact (A2.out.vat.st.same (e.trans HMB.out.symm)).look HI.out.1 HI.out.2)
 clear hMB
 refine wp_region_held_drew (S:=fun w'=>Blk w' v 97 (vaC g cur gen m x lo hi)∧Blk w' k 66 (rowJ y)∧w'.heap[m]?=MB) (by kernel_rfl) (by exact ⟨HB.out,A2.out.drew.box,HMB.out⟩) (fun hHeld=>?_)
 refine ta 0 rfl hHeld ?_
 refine ta 1 rfl hHeld ?_
 refine ta 2 rfl hHeld ?_
 try simp only [Act.put,g1,g2,g3,g4,g5,g6]
 refine tl 3 ?_ rfl ?_ hHeld ?_
 rotate_left 1
 focus (intro w' hSw;(try dsimp only at hSw);(have q0:w'.cell? ⟨v,3,none⟩=some (.map (some m)):=((And.left hSw).cell 3).trans rfl);go_simp;try with_reducible rfl)
 try simp only [Act.put,g1,g2,g3,g4,g5,g6]
 refine ta 4 rfl hHeld ?_
 try simp only [Act.put,g1,g2,g3,g4,g5,g6]
 refine tk 5 ((nm y.r y.s)) rfl (fun _ _ _ h=>h) (za7 (by kernel_rfl) 55 (.tmp 27) rfl k (0) rfl ([.int .i64 y.r,.int .i64 y.s]) _ (fun _ h=>(And.left (And.right h)).jn) Tryz.underlying55 rfl LM.out) hHeld ?_
 try simp only [Act.put,g1,g2,g3,g4,g5,g6]
 refine tl 6 ?_ rfl ?_ hHeld ?_
 rotate_left 1
 focus (intro w' hSw;(try dsimp only at hSw);(have q0:=HLook.out w' (And.right (And.right hSw)));go_simp;try with_reducible rfl)
 try simp only [Act.put,g1,g2,g3,g4,g5,g6]
 refine ta 7 rfl hHeld ?_
 refine ta 8 rfl hHeld ?_
 refine ta 9 rfl hHeld ?_
 try simp only [Act.put,g1,g2,g3,g4,g5,g6]
 refine wpAnyH_ready (rs:=[10]) (by kernel_rfl) (by simp) ?_
 refine AllReadyH.cons (o:=_) rfl (fun K hK=>?_) AllReadyH.nil
 go_simp
 have KB:Hid (Below w2.drew.heap.size w2.drew (w2.drew.alloc (.cells zrow 66))):=hid ((Below.refl _ _).alloc (Nat.le_refl _) _)
 have A3:=hid (A2.out.drew.on KB.out)
 have HB3:=hid (HB.out.alloc (.cells zrow 66))
 have HM3:Hid ((w2.drew.alloc (.cells zrow 66)).heap[m]?=MB):=hid ((KB.out.block m A2.out.vat.lts.2.1).trans HMB.out)
 refine hK.out _ _ (by exact ⟨HB3.out,A3.out.box,HM3.out⟩) (fun hHeld=>?_)
 clear hK K
 try simp only [Act.put,g1,g2,g3,g4,g5,g6]
 have hkw:k<w2.heap.size:=A2.out.lt
 have E0:Hid (Blk ((w2.alloc (.cells zrow 66)).drew) w2.heap.size 66 (rowJ zau)):=hid (Blk.new w2 66 zrow)
 have A3:Hid (Kn w ((w2.alloc (.cells zrow 66)).drew) k y base v g cur gen m x mi l nl2):=A3
 have HB3:Hid (Blk ((w2.alloc (.cells zrow 66)).drew) v 97 (vaC g cur gen m x lo hi)):=HB3
 have HM3:Hid (((w2.alloc (.cells zrow 66)).drew).heap[m]?=MB):=HM3
 obtain ⟨WA,hWA⟩:∃WA,(w2.alloc (.cells zrow 66)).drew=WA:=⟨_,rfl⟩
 obtain ⟨q,hq⟩:∃q,w2.heap.size=q:=⟨_,rfl⟩
 have hlm:m<q:=by rw [←hq];exact A2.out.vat.lts.2.1
 rw [hWA] at E0 A3 HB3 HM3
 rw [hq] at E0 hkw
 rw [hWA,hq]
 clear hWA hq hHeld HLook HMB A2 HB KB
 have TR:=hid (zaN WA q (rowJ lk))
 have A4:=hid (A3.out.other TR.out hkw)
 have HB4:=hid (HB3.out.turns TR.out (by have:=A3.out.lts;omega))
 have HM4:Hid ((WA.setRow q (rowJ lk)).heap[m]?=MB):=hid ((TR.out.block m (A3.out.vat.lts.2.1) (by omega)).trans HM3.out)
 have E1:Hid (Blk (WA.setRow q (rowJ lk)) q 66 (rowJ lk)):=hid (Blk.rowAt E0.out)
 refine wpAnyH_ready (rs:=[11]) (by kernel_rfl) (by simp) ?_
 refine AllReadyH.cons (o:=_) rfl (fun K hK=>?_) AllReadyH.nil
 refine zbk (by kernel_rfl) 66 (.tmp 4) (.tmp 30) rfl q (rowJ lk) rfl rfl 66 (rowJ zau) E0.out.heap L2.out LS.out L3.out ?_
 refine hK.out _ _ (by exact ⟨HB4.out,A4.out.box,HM4.out⟩) (fun hHeld=>?_)
 clear hK K
 try simp only [Act.put,g1,g2,g3,g4,g5,g6]
 refine ta 12 rfl hHeld ?_
 try simp only [Act.put,g1,g2,g3,g4,g5,g6]
 refine wpAnyH_done (by kernel_rfl) ?_ _
 clear hHeld
 obtain ⟨wB,hwB⟩:∃wB,WA.setRow q (rowJ lk)=wB:=⟨_,rfl⟩
 rw [hwB] at A4 E1
 rw [hwB]
 clear hwB TR HB4 HM4 HB3 HM3 A3 E0 LS L3
 cases hb
 ·clear E1 HAll
  have LY:=hid (zaE y)
  go_upto_region 6 with fail
  refine wp_region_held_drew (S:=fun w'=>Blk w' k 66 (rowJ y)) (by kernel_rfl) (by exact A4.out.drew.box) (fun hHeld=>?_)
  refine ta 0 rfl hHeld ?_
  refine ta 1 rfl hHeld ?_
  refine ta 2 rfl hHeld ?_
  try simp only [Act.put,g1,g2,g3,g4,g5,g6]
  refine tk 3 (.agg (rowJ y)) rfl (fun _ _ _ h=>h) (za4 (by kernel_rfl) 66 (.tmp 3) rfl k rfl 66 (rowJ y) (0,0) _ (fun _ h=>Blk.heap h) Tryz.underlying66 rfl LY.out) hHeld ?_
  try simp only [Act.put,g1,g2,g3,g4,g5,g6]
  refine wpAnyH_ready (rs:=[4]) (by kernel_rfl) (by simp) ?_
  refine AllReadyH.cons (o:=_) rfl (fun K hK=>?_) AllReadyH.nil
  go_simp
  go_at_call 66
  with_reducible refine (HSz.out _ A4.out.drew.parts).mono ?_
  rintro e w5 ⟨rfl,hb5⟩
  have A5:=hid (A4.out.drew.on hb5)
  clear hb5
  refine hK.out _ _ (by exact A5.out.box) (fun hHeld=>?_)
  clear hK K
  try simp only [Act.put,g1,g2,g3,g4,g5,g6]
  refine wpAnyH_ready (rs:=[5]) (by kernel_rfl) (by simp) ?_
  refine AllReadyH.cons (o:=_) rfl (fun K hK=>?_) AllReadyH.nil
  go_simp
  go_at_call 65
  with_reducible refine (zfb base v g cur gen m x mi l nl2 _ _ A5.out.vat).mono ?_
  rintro e w6 ⟨rfl,hv6,t6⟩
  have A6:=hid (A5.out.num hv6 t6)
  clear hv6 t6
  refine hK.out _ _ (by exact A6.out.box) (fun hHeld=>?_)
  clear hK K
  try simp only [Act.put,g1,g2,g3,g4,g5,g6]
  refine wpAnyH_done (by kernel_rfl) ?_ _
  clear hHeld
  clear A5 A4
  obtain ⟨lo,hi,hbv⟩:=A6.out.drew.open
  have HB:=hid hbv
  clear hbv
  go_upto_region 7 with fail
  refine wp_region_held_drew (S:=fun w'=>Blk w' v 97 (vaC g cur gen m x lo hi)∧Blk w' k 66 (rowJ y)) (by kernel_rfl) (by exact ⟨HB.out,A6.out.drew.box⟩) (fun hHeld=>?_)
  refine ta 0 rfl hHeld ?_
  refine ta 1 rfl hHeld ?_
  refine ta 2 rfl hHeld ?_
  try simp only [Act.put,g1,g2,g3,g4,g5,g6]
  refine tl 3 ?_ rfl ?_ hHeld ?_
  rotate_left 1
  focus (intro w' hSw;(try dsimp only at hSw);(have q0:w'.cell? ⟨v,3,none⟩=some (.map (some m)):=((And.left hSw).cell 3).trans rfl);go_simp;try with_reducible rfl)
  try simp only [Act.put,g1,g2,g3,g4,g5,g6]
  refine ta 4 rfl hHeld ?_
  try simp only [Act.put,g1,g2,g3,g4,g5,g6]
  refine tk 5 ((nm y.r y.s)) rfl (fun _ _ _ h=>h) (za7 (by kernel_rfl) 55 (.tmp 50) rfl k (0) rfl ([.int .i64 y.r,.int .i64 y.s]) _ (fun _ h=>(And.right h).jn) Tryz.underlying55 rfl LM.out) hHeld ?_
  try simp only [Act.put,g1,g2,g3,g4,g5,g6]
  refine tk 6 (.agg (rowJ y)) rfl (fun _ _ _ h=>h) (za4 (by kernel_rfl) 66 (.tmp 3) rfl k rfl 66 (rowJ y) (0,0) _ (fun _ h=>Blk.heap (And.right h)) Tryz.underlying66 rfl LY.out) hHeld ?_
  try simp only [Act.put,g1,g2,g3,g4,g5,g6]
  refine wpAnyH_ready (rs:=[7]) (by kernel_rfl) (by simp) ?_
  refine AllReadyH.cons (o:=_) rfl (fun K hK=>?_) AllReadyH.nil
  go_simp
  go_at_call 67
  with_reducible refine (HOw.out _).mono ?_
  rintro e w7 ⟨rfl,hb7⟩
  have A7:=hid (A6.out.drew.on hb7)
  have HB7:=hid (HB.out.below hb7 HB.out.lt)
  clear hb7
  refine hK.out _ _ (by exact ⟨HB7.out,A7.out.box⟩) (fun hHeld=>?_)
  clear hK K
  try simp only [Act.put,g1,g2,g3,g4,g5,g6]
  refine wpAnyH_ready (rs:=[8]) (by kernel_rfl) (by simp) ?_
  refine AllReadyH.cons (o:=_) rfl (fun K hK=>?_) AllReadyH.nil
  obtain ⟨w8,q0,hs8,hg8⟩:=A7.out.vat.st.put (by unfold maxLen;omega) y HIn.out HI.out.1 HI.out.2
  go_simp
  have A8:=hid (A7.out.stored (l':=l ++ [y]) (by simpa using hs8) HIn2.out hg8)
  have HB8:=hid (HB7.out.grown hg8 (by have:=A7.out.vat.nexs.1;simpa using this))
  clear q0 hs8 hg8
  refine hK.out _ _ (by exact ⟨HB8.out,A8.out.box⟩) (fun hHeld=>?_)
  clear hK K
  try simp only [Act.put,g1,g2,g3,g4,g5,g6]
  refine wpAnyH_done (by kernel_rfl) ?_ _
  clear hHeld
  clear HB HB7 HB8 A6 A7
  go_wp2
  go_end0
  exact ⟨rfl,A8.out.vat,A8.out.turns⟩
 ·have L2:=hid (zaE lk)
  go_upto_region 5 with fail
  refine wp_region_held_drew (S:=fun w'=>Blk w' q 66 (rowJ lk)) (by kernel_rfl) (by exact E1.out.drew) (fun hHeld=>?_)
  refine ta 0 rfl hHeld ?_
  refine ta 1 rfl hHeld ?_
  refine ta 2 rfl hHeld ?_
  try simp only [Act.put,g1,g2,g3,g4,g5,g6]
  refine tk 3 (.agg (rowJ lk)) rfl (fun _ _ _ h=>h) (za4 (by kernel_rfl) 66 (.tmp 4) rfl q rfl 66 (rowJ lk) (0,0) _ (fun _ h=>Blk.heap h) Tryz.underlying66 rfl L2.out) hHeld ?_
  try simp only [Act.put,g1,g2,g3,g4,g5,g6]
  refine wpAnyH_ready (rs:=[4]) (by kernel_rfl) (by simp) ?_
  refine AllReadyH.cons (o:=_) rfl (fun K hK=>?_) AllReadyH.nil
  go_simp
  go_at_call 66
  with_reducible refine (HAll.out _ A4.out.drew.parts rfl).mono ?_
  rintro e w3 ⟨rfl,hb3⟩
  have B5:=hid (A4.out.drew.on hb3)
  have E2:=hid (E1.out.drew.below hb3 E1.out.drew.lt)
  clear hb3
  refine hK.out _ _ (by exact E2.out) (fun hHeld=>?_)
  clear hK K
  try simp only [Act.put,g1,g2,g3,g4,g5,g6]
  refine ta 5 rfl hHeld ?_
  try simp only [Act.put,g1,g2,g3,g4,g5,g6]
  refine wpAnyH_ready (rs:=[6]) (by kernel_rfl) (by simp) ?_
  refine AllReadyH.cons (o:=_) rfl (fun K hK=>?_) AllReadyH.nil
  go_simp
  go_at_call 65
  with_reducible refine (zfb base v g cur gen m x mi l nl2 _ _ B5.out.vat).mono ?_
  rintro e w4 ⟨rfl,hv6,t6⟩
  have B6:=hid (B5.out.num hv6 t6)
  have E3:=hid (E2.out.turns t6 (by have:=B5.out.lts;omega))
  clear hv6 t6
  refine hK.out _ _ (by exact E3.out) (fun hHeld=>?_)
  clear hK K
  try simp only [Act.put,g1,g2,g3,g4,g5,g6]
  refine wpAnyH_done (by kernel_rfl) ?_ _
  clear hHeld
  clear B5 E1 E2 E3 A4 HAll
  have LY:=hid (zaE y)
  go_upto_region 6 with fail
  refine wp_region_held_drew (S:=fun w'=>Blk w' k 66 (rowJ y)) (by kernel_rfl) (by exact B6.out.drew.box) (fun hHeld=>?_)
  refine ta 0 rfl hHeld ?_
  refine ta 1 rfl hHeld ?_
  refine ta 2 rfl hHeld ?_
  try simp only [Act.put,g1,g2,g3,g4,g5,g6]
  refine tk 3 (.agg (rowJ y)) rfl (fun _ _ _ h=>h) (za4 (by kernel_rfl) 66 (.tmp 3) rfl k rfl 66 (rowJ y) (0,0) _ (fun _ h=>Blk.heap h) Tryz.underlying66 rfl LY.out) hHeld ?_
  try simp only [Act.put,g1,g2,g3,g4,g5,g6]
  refine wpAnyH_ready (rs:=[4]) (by kernel_rfl) (by simp) ?_
  refine AllReadyH.cons (o:=_) rfl (fun K hK=>?_) AllReadyH.nil
  go_simp
  go_at_call 66
  with_reducible refine (HSz.out _ B6.out.drew.parts).mono ?_
  rintro e w5 ⟨rfl,hb5⟩
  have A5:=hid (B6.out.drew.on hb5)
  clear hb5
  refine hK.out _ _ (by exact A5.out.box) (fun hHeld=>?_)
  clear hK K
  try simp only [Act.put,g1,g2,g3,g4,g5,g6]
  refine wpAnyH_ready (rs:=[5]) (by kernel_rfl) (by simp) ?_
  refine AllReadyH.cons (o:=_) rfl (fun K hK=>?_) AllReadyH.nil
  go_simp
  go_at_call 65
  with_reducible refine (zfb base v g cur gen m x mi l nl2 _ _ A5.out.vat).mono ?_
  rintro e w6 ⟨rfl,hv6,t6⟩
  have A6:=hid (A5.out.num hv6 t6)
  clear hv6 t6
  refine hK.out _ _ (by exact A6.out.box) (fun hHeld=>?_)
  clear hK K
  try simp only [Act.put,g1,g2,g3,g4,g5,g6]
  refine wpAnyH_done (by kernel_rfl) ?_ _
  clear hHeld
  clear A5 B6
  obtain ⟨lo,hi,hbv⟩:=A6.out.drew.open
  have HB:=hid hbv
  clear hbv
  go_upto_region 7 with fail
  refine wp_region_held_drew (S:=fun w'=>Blk w' v 97 (vaC g cur gen m x lo hi)∧Blk w' k 66 (rowJ y)) (by kernel_rfl) (by exact ⟨HB.out,A6.out.drew.box⟩) (fun hHeld=>?_)
  refine ta 0 rfl hHeld ?_
  refine ta 1 rfl hHeld ?_
  refine ta 2 rfl hHeld ?_
  try simp only [Act.put,g1,g2,g3,g4,g5,g6]
  refine tl 3 ?_ rfl ?_ hHeld ?_
  rotate_left 1
  focus (intro w' hSw;(try dsimp only at hSw);(have q0:w'.cell? ⟨v,3,none⟩=some (.map (some m)):=((And.left hSw).cell 3).trans rfl);go_simp;try with_reducible rfl)
  try simp only [Act.put,g1,g2,g3,g4,g5,g6]
  refine ta 4 rfl hHeld ?_
  try simp only [Act.put,g1,g2,g3,g4,g5,g6]
  refine tk 5 ((nm y.r y.s)) rfl (fun _ _ _ h=>h) (za7 (by kernel_rfl) 55 (.tmp 50) rfl k (0) rfl ([.int .i64 y.r,.int .i64 y.s]) _ (fun _ h=>(And.right h).jn) Tryz.underlying55 rfl LM.out) hHeld ?_
  try simp only [Act.put,g1,g2,g3,g4,g5,g6]
  refine tk 6 (.agg (rowJ y)) rfl (fun _ _ _ h=>h) (za4 (by kernel_rfl) 66 (.tmp 3) rfl k rfl 66 (rowJ y) (0,0) _ (fun _ h=>Blk.heap (And.right h)) Tryz.underlying66 rfl LY.out) hHeld ?_
  try simp only [Act.put,g1,g2,g3,g4,g5,g6]
  refine wpAnyH_ready (rs:=[7]) (by kernel_rfl) (by simp) ?_
  refine AllReadyH.cons (o:=_) rfl (fun K hK=>?_) AllReadyH.nil
  go_simp
  go_at_call 67
  with_reducible refine (HOw.out _).mono ?_
  rintro e w7 ⟨rfl,hb7⟩
  have A7:=hid (A6.out.drew.on hb7)
  have HB7:=hid (HB.out.below hb7 HB.out.lt)
  clear hb7
  refine hK.out _ _ (by exact ⟨HB7.out,A7.out.box⟩) (fun hHeld=>?_)
  clear hK K
  try simp only [Act.put,g1,g2,g3,g4,g5,g6]
  refine wpAnyH_ready (rs:=[8]) (by kernel_rfl) (by simp) ?_
  refine AllReadyH.cons (o:=_) rfl (fun K hK=>?_) AllReadyH.nil
  obtain ⟨w8,q0,hs8,hg8⟩:=A7.out.vat.st.put (by unfold maxLen;omega) y HIn.out HI.out.1 HI.out.2
  go_simp
  have A8:=hid (A7.out.stored (l':=l ++ [y]) (by simpa using hs8) HIn2.out hg8)
  have HB8:=hid (HB7.out.grown hg8 (by have:=A7.out.vat.nexs.1;simpa using this))
  clear q0 hs8 hg8
  refine hK.out _ _ (by exact ⟨HB8.out,A8.out.box⟩) (fun hHeld=>?_)
  clear hK K
  try simp only [Act.put,g1,g2,g3,g4,g5,g6]
  refine wpAnyH_done (by kernel_rfl) ?_ _
  clear hHeld
  clear HB HB7 HB8 A6 A7
  go_wp2
  go_end0
  exact ⟨rfl,A8.out.vat,A8.out.turns⟩
end Go.Proofs.YtnjdckoljmgcjaaGreatDoor
