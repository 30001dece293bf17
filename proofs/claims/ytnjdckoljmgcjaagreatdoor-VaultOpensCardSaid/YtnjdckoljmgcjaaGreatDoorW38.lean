/-
  The document's own vault (moothillref15): Notes.
-/
import Derived.Test.YtnjdckoljmgcjaaGreatDoorW37
set_option maxRecDepth 100000
set_option maxHeartbeats 4000000
namespace Go.Proofs.YtnjdckoljmgcjaaGreatDoor
open Go.ChangeShapes Go.WideShapes Go.ChangeAt Go.RowKit Go.Maps Go.WideMaps
set_option linter.unusedVariables false
set_option linter.unusedSimpArgs false
theorem zoY {w:World} {b o:Nat} {x:J} (h:w.rangeAt b o (jC x)):w.rangeAt b (o+6) (lsK x.c):=by
 intro j v hv
 have hj:j<8:=(List.getElem?_eq_some_iff.1 hv).1
 have:=h (6+j) v (by
  rw [←hv]
  rcases (show j=0∨j=1∨j=2∨j=3∨j=4∨j=5∨j=6∨j=7 by omega) with rfl | rfl | rfl | rfl | rfl | rfl | rfl | rfl <;> rfl)
 rw [←this]
 congr 2
 omega
theorem zo8 {w:World} {b o:Nat} {x:J} (h:w.rangeAt b o (jC x)):w.cell? ⟨b,o+14,none⟩=some (.int .i64 (x.f 0)):=h 14 _ rfl
theorem zrb {w:World} {b o:Nat} {x:J} (h:w.rangeAt b o (jC x)):w.cell? ⟨b,o+2,none⟩=some (.int .i64 x.st):=h 2 _ rfl
theorem zoI {x:J} (h:zbv x) (h0:¬0<x.st) (nl:List Nt):zdt nl x.c x.r x.s (x.f 0)=nl:=by
 obtain ⟨a,b,v,u,t,ha,hb,hv,hu,ht,ha7,hb10,hvv,hvb,huu,hub,ht3,hn0,hz⟩:=zcG h.1 h.2.2
 have ht0:t=0:=by omega
 obtain ⟨_,_,hc,_⟩:=hz ht0
 unfold zdt
 rw [hc]
 rfl
def NoAt (w:World) (k:Nat) (u:Value) (l:List J) (i:Nat) (ov:Value) (wr:World):Prop:=Blk wr k 36 #[u]∧DocV wr ov (zaP (l.take i))∧Below k w wr
theorem NoAt.box {w wr:World} {k:Nat} {u:Value} {l:List J} {i:Nat} {ov:Value} (h:NoAt w k u l i ov wr):Blk wr k 36 #[u]:=h.1
theorem NoAt.doc {w wr:World} {k:Nat} {u:Value} {l:List J} {i:Nat} {ov:Value} (h:NoAt w k u l i ov wr):DocV wr ov (zaP (l.take i)):=h.2.1
theorem NoAt.bel {w wr:World} {k:Nat} {u:Value} {l:List J} {i:Nat} {ov:Value} (h:NoAt w k u l i ov wr):Below k w wr:=h.2.2
theorem NoAt.on {w wr w':World} {k:Nat} {u:Value} {l:List J} {i:Nat} {ov:Value} (h:NoAt w k u l i ov wr) (hb:Below wr.heap.size wr w'):NoAt w k u l i ov w' :=
 ⟨h.1.below hb h.1.lt,h.2.1.below hb,h.2.2.trans (hb.mono (by have:=h.1.lt;omega))⟩
theorem zjI (base:Nat) (u:Value) (l:List J) (w:World) (h:DocX base w u l) (hl:l.length≤900) (hG:∀x∈l,zbv x) :
  Calls Tryz.prog 40 #[.agg #[u]] w fun e w'=>∃u',e=.returned u'∧DocV w' u' (zaP l)∧Below w.heap.size w w':=by
 have HD:=hid h
 obtain ⟨A,cap,rfl,hA0,hA1⟩:=zaM h
 have HA0:=hid hA0
 have HA1:=hid hA1
 have HG:=hid hG
 clear h hA0 hA1 hG
 obtain ⟨n,hn⟩:∃n,l.length=n:=⟨_,rfl⟩
 have HN:=hid hn
 unfold DocX at HD
 rw [hn] at HD HA0 HA1 hl ⊢
 clear hn
 go_enter Tryz.func40,Tryz.ntmps40
 go_wp2
 obtain ⟨W,hW⟩:∃W,w.alloc (.cells #[.slice A n cap] 36)=W:=⟨_,rfl⟩
 rw [hW]
 obtain ⟨K0,KB⟩:=za1 hW
 clear hW
 obtain ⟨k,hk⟩:∃k,w.heap.size=k:=⟨_,rfl⟩
 rw [hk] at K0 KB
 rw [hk]
 have HK:=hid hk
 clear hk
 have N0:Hid (NoAt w k (.slice A n cap) l 0 (.slice none 0 0) W):=hid ⟨K0.out,DocV.nil _,KB.out⟩
 clear K0 KB
 go_loopw [3,4] (fun ov iv wr=>∃i:Nat,i≤n∧iv=.int .i64 (i:Int)∧Hid (NoAt w k (.slice A n cap) l i ov wr)) (fun _ iv _=>n - (intOf iv).toNat)
 case atStart=>exact ⟨0,Nat.zero_le _,rfl,N0⟩
 case round =>
  obtain ⟨i,hi,rfl,HR⟩:=hrel
  clear N0
  have e0:wr.cell? ⟨k,0,none⟩=some (.slice A n cap):=(HR.out.box.cell 0).trans rfl
  by_cases hlt:i<n
  ·have hltl:i<l.length:=by rw [HN.out];exact hlt
   have hlti:(i:Int)<(n:Int):=by omega
   obtain ⟨bv,rfl,hbv⟩:∃bv,A=some ⟨bv,0,none⟩∧bv<k:=by
    cases A with
    | none=>have:=HA0.out rfl;omega
    | some a=>obtain ⟨b,rfl,_,_,h⟩:=HA1.out a rfl;exact ⟨b,rfl,by rw [←HK.out];exact h⟩
   have RL:=hid ((zfS HD.out hltl).below_ HR.out.bel hbv)
   have HGi:=hid (HG.out l[i] (List.getElem_mem hltl))
   have HNs:Hid (zaP (l.take (i+1))=zdt (zaP (l.take i)) l[i].c l[i].r l[i].s (l[i].f 0)):=hid (by rw [List.take_succ_eq_append_getElem hltl,zho])
   have HLn:Hid ((zaP (l.take i)).length<1000):=hid (by have:=zeH (l.take i);rw [List.length_take] at this;omega)
   obtain ⟨x,hx⟩:∃x,l[i]=x:=⟨_,rfl⟩
   rw [hx] at RL HGi HNs
   clear hx
   have d2:=zrb RL.out
   by_cases h0:0<x.st
   ·have HDn:=hid (fun v w h=>zlo v (zaP (l.take i)) x.c x.r x.s (x.f 0) w h HGi.out.okk (by have:=HGi.out.sizes;omega) (by have:=HGi.out.sizes;omega) HLn.out)
    rw [←HNs.out] at HDn
    have LX:=hid (zeG x.c)
    have LI:=hid (zfm x.r x.s)
    have A0:=hid (HR.out.on (zag (Below.refl _ _)))
    have RL0:Hid (wr.drew.rangeAt bv (i * 22) (jC x)):=hid (RL.out.below_ (zag (Below.refl _ _)) (by have:=HR.out.box.lt;omega))
    go_upto_region 6 with fail
    clear HR RL d2 e0
    refine wp_region_held_drew (S:=fun w'=>Blk w' k 36 #[.slice (some ⟨bv,0,none⟩) n cap]∧w'.rangeAt bv (i * 22) (jC x)) (by kernel_rfl) (by exact ⟨A0.out.box,RL0.out⟩) (fun hHeld=>?_)
    refine ta 0 rfl hHeld ?_
    refine ta 1 rfl hHeld ?_
    try simp only [Act.put,g1,g2,g3,g4,g5,g6]
    refine tl 2 ?_ rfl ?_ hHeld ?_
    rotate_left 1
    focus (intro w' hSw;(try dsimp only at hSw);(have q0:w'.cell? ⟨k,0,none⟩=some (.slice (some ⟨bv,0,none⟩) n cap):=((And.left hSw).cell 0).trans rfl);go_simp;try with_reducible rfl)
    try simp only [Act.put,g1,g2,g3,g4,g5,g6]
    refine ta 3 rfl hHeld ?_
    refine ta 4 rfl hHeld ?_
    refine ta 5 rfl hHeld ?_
    try simp only [Act.put,g1,g2,g3,g4,g5,g6]
    refine tk 6 ((val x.c)) rfl (fun _ _ _ h=>h) (za7 (by kernel_rfl) 80 (.tmp 24) rfl bv (i * 22+6) rfl (lsK x.c) _ (fun _ h=>zoY (And.right h)) Tryz.underlying80 rfl LX.out) hHeld ?_
    try simp only [Act.put,g1,g2,g3,g4,g5,g6]
    refine ta 7 rfl hHeld ?_
    try simp only [Act.put,g1,g2,g3,g4,g5,g6]
    refine tl 8 ?_ rfl ?_ hHeld ?_
    rotate_left 1
    focus (intro w' hSw;(try dsimp only at hSw);(have q0:w'.cell? ⟨k,0,none⟩=some (.slice (some ⟨bv,0,none⟩) n cap):=((And.left hSw).cell 0).trans rfl);go_simp;try with_reducible rfl)
    try simp only [Act.put,g1,g2,g3,g4,g5,g6]
    refine ta 9 rfl hHeld ?_
    refine ta 10 rfl hHeld ?_
    refine ta 11 rfl hHeld ?_
    try simp only [Act.put,g1,g2,g3,g4,g5,g6]
    refine tk 12 ((nm x.r x.s)) rfl (fun _ _ _ h=>h) (za7 (by kernel_rfl) 78 (.tmp 30) rfl bv (i * 22) rfl ([.int .i64 x.r,.int .i64 x.s]) _ (fun _ h=>zfj (And.right h)) Tryz.underlying78 rfl LI.out) hHeld ?_
    try simp only [Act.put,g1,g2,g3,g4,g5,g6]
    refine ta 13 rfl hHeld ?_
    try simp only [Act.put,g1,g2,g3,g4,g5,g6]
    refine tl 14 ?_ rfl ?_ hHeld ?_
    rotate_left 1
    focus (intro w' hSw;(try dsimp only at hSw);(have q0:w'.cell? ⟨k,0,none⟩=some (.slice (some ⟨bv,0,none⟩) n cap):=((And.left hSw).cell 0).trans rfl);go_simp;try with_reducible rfl)
    try simp only [Act.put,g1,g2,g3,g4,g5,g6]
    refine ta 15 rfl hHeld ?_
    refine ta 16 rfl hHeld ?_
    refine ta 17 rfl hHeld ?_
    refine ta 18 rfl hHeld ?_
    try simp only [Act.put,g1,g2,g3,g4,g5,g6]
    refine tl 19 ?_ rfl ?_ hHeld ?_
    rotate_left 1
    focus (intro w' hSw;(try dsimp only at hSw);(have q0:=zo8 (And.right hSw));go_simp;try with_reducible rfl)
    try simp only [Act.put,g1,g2,g3,g4,g5,g6]
    refine wpAnyH_ready (rs:=[20]) (by kernel_rfl) (by simp) ?_
    refine AllReadyH.cons (o:=_) rfl (fun K hK=>?_) AllReadyH.nil
    go_simp
    go_at_call 73
    with_reducible refine (HDn.out _ _ A0.out.doc).mono ?_
    rintro e w3 ⟨v3,rfl,hd3,hb3⟩
    have A1:Hid (NoAt w k (.slice (some ⟨bv,0,none⟩) n cap) l (i+1) v3 w3):=hid ⟨A0.out.box.below hb3 A0.out.box.lt,hd3,A0.out.bel.trans (hb3.mono (by have:=A0.out.box.lt;omega))⟩
    have RL1:=hid (RL0.out.below_ hb3 (by have:=A0.out.box.lt;omega))
    clear hd3 hb3
    refine hK.out _ _ (by exact ⟨A1.out.box,RL1.out⟩) (fun hHeld=>?_)
    clear hK K
    try simp only [Act.put,g1,g2,g3,g4,g5,g6]
    refine ta 21 rfl hHeld ?_
    try simp only [Act.put,g1,g2,g3,g4,g5,g6]
    refine wpAnyH_done (by kernel_rfl) ?_ _
    clear hHeld
    clear A0 RL0 RL1 HDn
    go_wp2
    go_roundw
    case rel=>exact ⟨i+1,by omega,by go_num,A1⟩
    case measure=>simp only [intOf];omega
   ·have N1:Hid (NoAt w k (.slice (some ⟨bv,0,none⟩) n cap) l (i+1) u3 wr):=hid ⟨HR.out.box,by rw [HNs.out,zoI HGi.out h0];exact HR.out.doc,HR.out.bel⟩
    clear HR RL
    go_wp2
    go_roundw
    case rel=>exact ⟨i+1,by omega,by go_num,N1⟩
    case measure=>simp only [intOf];omega
  ·have hke:i=n:=by omega
   have hnI:¬(i:Int)<(n:Int):=by omega
   have HV:Hid (DocV wr u3 (zaP l)):=hid (by
    have h:=HR.out.doc
    rw [hke,←HN.out,List.take_length] at h
    exact h)
   have HB:=hid HR.out.bel
   clear HR
   go_wp2
   go_ret
   exact ⟨u3,rfl,HV.out,by rw [HK.out];exact HB.out⟩
end Go.Proofs.YtnjdckoljmgcjaaGreatDoor
