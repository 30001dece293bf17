/-
  The contract of log.first: the record of the whole frame that bytes begin with, or none.
-/
import Derived.Test.YtnjdckoljmgcjaaGreatDoorW21
import Derived.Lib.SlBytesConst
import Derived.ChangeAlike
import Derived.BigRegion
set_option maxRecDepth 100000
set_option maxHeartbeats 4000000
namespace Go.Proofs.YtnjdckoljmgcjaaGreatDoor
open Go.RowKit
theorem ziM (s:Nat) (hs:s<4294967296) :
  bits BinOp.xor IntKind.u32 ((s:Int) / 2) (bits BinOp.and IntKind.u32 3988292384 (-bits BinOp.and IntKind.u32 (s:Int) 1 % 4294967296))=((zfW s:Nat):Int):=by
 have ea:bits BinOp.and IntKind.u32 (s:Int) 1=((s % 2:Nat):Int):=by
  have:=u32_and_nat s 1 hs (by omega)
  rw [nat_mask1] at this
  exact this
 have eh:(s:Int) / 2=((s / 2:Nat):Int):=by omega
 rw [ea,eh]
 unfold zfW
 by_cases hp:s % 2=1
 ·rw [if_pos hp,hp]
  have e0:-((1:Nat):Int) % 4294967296=((4294967295:Nat):Int):=by omega
  have e1:bits BinOp.and IntKind.u32 3988292384 ((4294967295:Nat):Int)=((zlE:Nat):Int):=u32_and_nat 3988292384 4294967295 (by omega) (by omega)
  rw [e0,e1]
  exact u32_xor_nat _ _ (by omega) (by decide)
 ·have h0:s % 2=0:=by omega
  rw [if_neg hp,h0]
  have e0:-((0:Nat):Int) % 4294967296=((0:Nat):Int):=by omega
  have e1:bits BinOp.and IntKind.u32 3988292384 ((0:Nat):Int)=((0:Nat):Int):=u32_and_nat 3988292384 0 (by omega) (by omega)
  rw [e0,e1]
  exact u32_xor_nat _ _ (by omega) (by omega)
theorem zlm (s c:Nat) (hs:s<4294967296) (hc:c<256):bits BinOp.xor IntKind.u32 (s:Int) (c:Int)=((s ^^^ c:Nat):Int):=u32_xor_nat s c hs (by omega)
theorem zsB {l:List Nat} {k:Nat} (h:k<l.length):l[k]∈l:=List.getElem_mem h
def zqD (s:Nat) (l:List Nat) (v i:Value):Prop:=∃k:Nat,k≤l.length∧i=.int .i64 (k:Int)∧v=.int .u32 (zbx s (l.take k):Int)
def zsO (t:Nat) (v i:Value):Prop:=∃k:Nat,k≤8∧i=.int .i64 (k:Int)∧v=.int .u32 (zbP k t:Int)
theorem zn6 (s:Nat) (A:Option Addr) (l:List Nat) (ca:Nat) (w:World) (hs:s<4294967296) (hl:l.length≤9223372036854775807) (h8:∀x∈l,x<256) (hA:Sees .u8 w A l) :
  Calls Tryz.prog 204 #[.int .u32 s,.slice A l.length ca] w fun e w'=>e=.returned (.int .u32 (zbx s l))∧w=w':=by
 have HA:=hid hA
 have H8:=hid h8
 have HS:=hid hs
 clear hA h8 hs
 go_enter Tryz.func204,Tryz.ntmps204
 go_wp2
 go_loop [0,9] (fun v i=>zqD s l v i) (fun _ i=>l.length - (intOf i).toNat)
 case atStart=>exact ⟨0,Nat.zero_le _,rfl,rfl⟩
 case round =>
  obtain ⟨k,hk,rfl,rfl⟩:=hrel
  by_cases hlt:k<l.length
  ·obtain ⟨b,o,rfl,_,hc⟩:=HA.out k l[k] (List.getElem?_eq_getElem hlt)
   have HT:=hid (zkN s hlt)
   have hc8:=H8.out _ (zsB hlt)
   have hm:zbx s (l.take k)<4294967296:=zeO HS.out (fun x hx=>H8.out x (List.mem_of_mem_take hx))
   have HX:=hid (zlm _ _ hm hc8)
   have HL:=hid (zmw hm (show l[k]<4294967296 by omega))
   generalize zbx s (l.take k)=m at *
   generalize l[k]=c at *
   go_wp2
   rw [HX.out]
   generalize ht:m ^^^ c=t at *
   have HY:Hid (zjf m c=zbP 8 t):=hid (by rw [←ht];rfl)
   clear ht
   go_loop [0,17] (fun v i=>zsO t v i) (fun _ i=>8 - (intOf i).toNat)
   case atStart=>exact ⟨0,Nat.zero_le _,rfl,rfl⟩
   case round =>
    obtain ⟨j,hj,rfl,rfl⟩:=hrel
    have hr:zbP j t<4294967296:=zgf j HL.out
    have HW:=hid (ziM _ hr)
    have HZ:=hid (zhU j t)
    have HE:Hid (¬j<8→zbP 8 t=zbP j t):=hid (fun h=>by rw [show j=8 by omega])
    generalize zbP j t=q at *
    by_cases h8:j<8
    ·go_wp2
     go_round
     case rel=>exact ⟨j+1,by omega,by go_num,by rw [HZ.out,←HW.out]⟩
     case measure=>simp only [intOf];omega
    ·go_wp2
     go_round
     case rel=>exact ⟨k+1,by omega,by go_num,by rw [HT.out,HY.out,HE.out h8]⟩
     case measure=>simp only [intOf];omega
  ·go_wp2
   go_ret
   have e:l.take k=l:=List.take_of_length_le (by omega)
   exact ⟨zba (by rw [e]),rfl⟩
def zbg (w:World) (A:Option Addr) (ls:List (List Nat)):Prop :=
 ∀(j:Nat) (l:List Nat),ls[j]?=some l→∃b o B c,A=some ⟨b,o,none⟩∧b<w.heap.size∧w.cell? ⟨b,o+j,none⟩=some (.slice B l.length c)∧l.length≤9223372036854775807∧(∀x∈l,x<256)∧Sees .u8 w B l
theorem zbg.nil (w:World) (A:Option Addr):zbg w A []:=fun j x h=>by simp at h
theorem zeo {ls:List (List Nat)} {k:Nat} (h:k<ls.length):(ls.take (k+1)).flatten=(ls.take k).flatten ++ ls[k]:=by
 rw [List.take_succ_eq_append_getElem h,List.flatten_append,List.flatten_singleton]
def zvs (ls:List (List Nat)) (v i:Value):Prop:=∃k:Nat,k≤ls.length∧i=.int .i64 (k:Int)∧v=.int .u32 (zbx 4294967295 (ls.take k).flatten:Int)
theorem ztz {ls:List (List Nat)} {k:Nat} (h:k<ls.length):zbx 4294967295 (ls.take (k+1)).flatten=zbx (zbx 4294967295 (ls.take k).flatten) ls[k]:=by
 rw [zeo h,zhX]
theorem zus {l:List Nat} (hl:∀x∈l,x<256):bits BinOp.xor IntKind.u32 IntKind.u32.max (zbx 4294967295 l:Int)=(zcZ l:Int):=by
 rw [zoX hl]
 exact u32_xor_nat 4294967295 _ (by omega) (zeO (by decide) hl)
theorem zpV (A:Option Addr) (ls:List (List Nat)) (ca:Nat) (w:World) (hl:ls.length≤9223372036854775807) (hb:∀x∈ls.flatten,x<256) (hA:zbg w A ls) :
  Calls Tryz.prog 190 #[.slice A ls.length ca] w fun e w'=>e=.returned (.int .u32 (zcZ ls.flatten))∧w=w':=by
 have HA:=hid hA
 have HB:=hid hb
 clear hA hb
 go_enter Tryz.func190,Tryz.ntmps190
 go_wp2
 go_loop [3,8] (fun v i=>zvs ls v i) (fun _ i=>ls.length - (intOf i).toNat)
 case atStart=>exact ⟨0,Nat.zero_le _,rfl,rfl⟩
 case round =>
  obtain ⟨k,hk,rfl,rfl⟩:=hrel
  by_cases hlt:k<ls.length
  ·obtain ⟨b,o,B,c,rfl,_,hc,hn,hx,hs⟩:=HA.out k ls[k] (List.getElem?_eq_getElem hlt)
   have HT:=hid (ztz hlt)
   have HM:Hid (zbx 4294967295 (ls.take k).flatten<4294967296):=hid (zeO (by decide) (fun x hx=>by
    obtain ⟨l,h1,h2⟩:=List.mem_flatten.1 hx
    exact HB.out x (List.mem_flatten.2 ⟨l,List.mem_of_mem_take h1,h2⟩)))
   have HX:=hid hx
   have HS:=hid hs
   clear hx hs
   generalize zbx 4294967295 (ls.take k).flatten=m at *
   generalize ls[k]=l at *
   go_wp2_with (go_at_call 204;((with_reducible refine (zn6 m B l c _ HM.out hn HX.out HS.out).mono ?_);rintro e w' ⟨rfl,rfl⟩))
   go_round
   case rel=>exact ⟨k+1,by omega,by go_num,by rw [HT.out]⟩
   case measure=>simp only [intOf];omega
  ·go_wp2
   go_ret
   have e:ls.take k=ls:=List.take_of_length_le (by omega)
   exact ⟨zba (by rw [e];exact zus HB.out),rfl⟩
theorem zo3 {w:World} {g:Nat} {B:Option Addr} {l:List Nat} {c:Nat} (hg:g<w.heap.size) (hc:w.cell? ⟨g,0,none⟩=some (.slice B l.length c)) (hn:l.length≤9223372036854775807) (hx:∀x∈l,x<256) (hs:Sees .u8 w B l):zbg w (some ⟨g,0,none⟩) [l]:=by
 intro j l' hj
 match j,hj with
 | 0,hj =>
  simp at hj
  subst hj
  exact ⟨g,0,B,c,rfl,hg,hc,hn,hx,hs⟩
theorem zuD (g:Nat) (B:Option Addr) (l:List Nat) (n c ca:Nat) (w:World) (hnn:l.length=n) (hg:g<w.heap.size) (hc:w.cell? ⟨g,0,none⟩=some (.slice B n c)) (hn:n≤9223372036854775807) (hx:∀x∈l,x<256) (hs:Sees .u8 w B l) :
  Calls Tryz.prog 190 #[.slice (some ⟨g,0,none⟩) 1 ca] w fun e w'=>e=.returned (.int .u32 (zcZ l))∧w=w':=by
 subst hnn
 have h:=zpV (some ⟨g,0,none⟩) [l] ca w (by simp) (by simpa using hx) (zo3 hg hc hn hx hs)
 simpa using h
theorem zty (W:World) (B:Option Addr) (l:List Nat) (n c ca:Nat) (hnn:l.length=n) (hn:n≤9223372036854775807) (hx:∀x∈l,x<256) (hs:Sees .u8 W B l) :
  Calls Tryz.prog 190 #[.slice (some ⟨W.heap.size,0,none⟩) 1 ca] (W.alloc (.cells #[.slice B n c] 45)) fun e w'=>e=.returned (.int .u32 (zcZ l))∧(W.alloc (.cells #[.slice B n c] 45))=w':=by
 have h:=heap_alloc_new W (.cells #[.slice B n c] 45)
 exact zuD _ B l n c ca _ hnn (by simp) (cell_of_row (W.alloc (.cells #[.slice B n c] 45)) W.heap.size 0 #[.slice B n c] 45 (0,0) h) hn hx (hs.alloc_ _)
theorem zm9 {w:World} {n c:Nat} {e:TypeId} {z:Value} (hzs:z.cells.size=1) (hc:n≤c) (hm:c≤maxLen) :
  (w.drew.alloc (.cells (Builtin.zeroCells z.cells n ++ Builtin.zeroCells z.cells (c - n)) e)).ownsRow w.heap.size e 1 (.slice (some ⟨w.heap.size,0,none⟩) 0 c) 0 []:=by
 refine ⟨rfl,.inr ⟨w.heap.size,c,_,rfl,Nat.le_refl _,heap_alloc_new w.drew _,Nat.zero_le _,hm,?_,by simp⟩⟩
 rw [Array.size_append,size_zeroCells,size_zeroCells,hzs]
 omega
def zuO (w:World) (e:Ending) (w':World):Prop:=∃v,e=.returned v∧w'.ownsRow w.heap.size 5 1 v 0 []∧Below w.heap.size w w'
theorem zq9 {w:World} {n c:Nat} (hc:c=grownCap w n 0 5) (hn:n≤maxLen) :
  zuO w (.returned (.slice (some ⟨w.heap.size,0,none⟩) 0 c)) (w.drew.alloc (.cells (Builtin.zeroCells #[.int .u8 0] n ++ Builtin.zeroCells #[.int .u8 0] (c - n)) 5)):=by
 subst hc
 exact ⟨_,rfl,zm9 (z:=.int .u8 0) rfl (grownCap_ge _ _ _ _) (grownCap_le_maxLen _ _ _ _ hn),(zag (Below.refl _ _)).alloc (Nat.le_refl _) _⟩
theorem zrJ (n:Nat) (w:World) (h0:0<n) (hn:n≤140737488355328):Calls Tryz.prog 172 #[.slice none 0 0,.int .i64 (n:Int)] w (zuO w):=by
 have hb:Tryz.t5.bytes=1:=by kernel_rfl
 have hns:=nextslicecap_zero h0
 have hn0:¬n=0:=by omega
 go_enter Tryz.func172,Tryz.ntmps172
 go_wp2
 go_ret
 exact zq9 rfl (by unfold maxLen;omega)
def zcn (w:World) (A:Option Addr) (m:Nat):Prop:=∀j b o B n c,j<m→A=some ⟨b,o,none⟩→w.cell? ⟨b,o+j,none⟩=some (.slice B n c)→B=none→c=0
theorem zjc {ls:List (List Nat)} {k:Nat} (h:k<ls.length):(ls.take (k+1)).flatten.length=(ls.take k).flatten.length+ls[k].length:=by rw [zeo h,List.length_append]
theorem ziY (ls:List (List Nat)) (k:Nat):(ls.take k).flatten.length≤ls.flatten.length:=by
 have:ls.flatten=(ls.take k).flatten ++ (ls.drop k).flatten:=by rw [←List.flatten_append,List.take_append_drop]
 rw [this,List.length_append]
 omega
def ztt (ls:List (List Nat)) (v i:Value):Prop:=∃k:Nat,k≤ls.length∧i=.int .i64 (k:Int)∧v=.int .i64 ((ls.take k).flatten.length:Int)
def zoz (ls:List (List Nat)) (w:World) (v i:Value) (wr:World):Prop:=∃k:Nat,k≤ls.length∧i=.int .i64 (k:Int)∧wr.ownsRow w.heap.size 5 1 v (ls.take k).flatten.length ((ls.take k).flatten.map bv)∧Below w.heap.size w wr
theorem zpG {ls:List (List Nat)} {k:Nat} {w wr w1:World} {v v':Value} (h:k<ls.length) (hown:wr.ownsRow w.heap.size 5 1 v (ls.take k).flatten.length ((ls.take k).flatten.map bv)) (hb:Below w.heap.size w wr)
  (hown':w1.ownsRow w.heap.size 5 1 v' ((ls.take k).flatten.length+ls[k].length) ((ls.take k).flatten.map bv ++ ls[k].map bv)) (hg:wr.grownBy w1 v.ownBlock):zoz ls w v' (.int .i64 ((k:Int)+1)) w1:=by
 refine ⟨k+1,h,by go_num,?_,hb.grown hg hb.size (fun j hj=>(hown.lt j hj).1)⟩
 rw [zjc h,zeo h,List.map_append]
 exact hown'
theorem znC (A:Option Addr) (ls:List (List Nat)) (ca N:Nat) (w:World) (hl:ls.length≤9223372036854775807) (hNf:ls.flatten.length=N) (h0:0<N) (hn:N≤140737488355328) (hA:zbg w A ls) (hN:zcn w A ls.length) :
  Calls Tryz.prog 137 #[.slice A ls.length ca] w (zcy ls.flatten w):=by
 obtain ⟨i0,hi,hz0,hz1,hz2⟩:=info_parts zcD
 have HA:=hid hA
 have HN:=hid hN
 have HF:=hid hNf
 clear hA hN hNf
 go_enter Tryz.func137,Tryz.ntmps137
 go_wp2
 go_loop [3,11] (fun v i=>ztt ls v i) (fun _ i=>ls.length - (intOf i).toNat)
 case atStart=>exact ⟨0,Nat.zero_le _,rfl,rfl⟩
 case round =>
  obtain ⟨k,hk,rfl,rfl⟩:=hrel
  have hfl:=ziY ls k
  rw [HF.out] at hfl
  by_cases hlt:k<ls.length
  ·obtain ⟨b,o,B,c,rfl,_,hc,hx,_,_⟩:=HA.out k ls[k] (List.getElem?_eq_getElem hlt)
   have HL:=hid (zjc hlt)
   have hfl2:=ziY ls (k+1)
   rw [HL.out,HF.out] at hfl2
   generalize ls[k]=l at *
   generalize (ls.take k).flatten.length=m at *
   go_wp2
   go_round
   case rel=>exact ⟨k+1,by omega,by go_num,by rw [HL.out];go_num⟩
   case measure=>simp only [intOf];omega
  ·have HE:Hid ((ls.take k).flatten.length=N):=hid (by rw [List.take_of_length_le (by omega)];exact HF.out)
   generalize (ls.take k).flatten.length=m at *
   obtain rfl:=HE.out
   clear hfl HE
   go_wp2_with (go_at_call 172;((with_reducible refine (zrJ _ _ h0 hn).mono ?_);rintro e w1 ⟨v,rfl,hown1,hb1⟩))
   have HO:=hid hown1
   have HB:=hid hb1
   clear hown1 hb1
   go_loopw [6,27] (fun v i wr=>zoz ls w v i wr) (fun _ i _=>ls.length - (intOf i).toNat)
   case atStart=>exact ⟨0,Nat.zero_le _,rfl,HO.out,HB.out⟩
   case round =>
    obtain ⟨j,hj,rfl,hown,hb⟩:=hrel
    have hfl:=ziY ls j
    rw [HF.out] at hfl
    have hsz:=hb.size
    by_cases hlt2:j<ls.length
    ·obtain ⟨b,o,B,c,rfl,hbl,hc,hx,_,hs⟩:=HA.out j ls[j] (List.getElem?_eq_getElem hlt2)
     have hc2:=(hb.cell (by exact hbl)).trans hc
     have hcn:Hid (B=none→c=0):=hid (HN.out j b o B _ c hlt2 rfl hc)
     have HS:=hid (hs.below hb)
     have hfl2:=ziY ls (j+1)
     rw [zjc hlt2,HF.out] at hfl2
     have HJ:=hid (fun (w1:World) (v':Value)=>zpG (w1:=w1) (v':=v') hlt2 hown hb)
     have HW:=hid hown
     clear hc hs hown hb
     generalize (ls.take j).flatten.length=q at *
     generalize (ls.take j).flatten=F at *
     generalize ls[j]=l at *
     go_wp2_with (at_builtin;refine zdv rfl (.tmp 31) (.tmp 32) 45 rfl w.heap.size 5 i0 (.int .u8 0) 1 Tryz.underlying45 hi hz0 hz1 hz2 rfl _ _ _ rfl HW.out .u8 B c l rfl hcn.out HS.out (by unfold maxLen;omega) (by omega) hsz ?_;intro v' w2 hown2 hg2)
     have R:=hid (HJ.out _ _ hown2 hg2)
     clear hown2 hg2
     go_wp2
     go_roundw
     case rel=>exact R.out
     case measure=>simp only [intOf];omega
    ·go_wp2
     go_ret
     have e:ls.take j=ls:=List.take_of_length_le (by omega)
     rw [e] at hown
     exact ⟨_,rfl,hown,hb⟩
def zgK (V n base:Nat) (w:World) (v i:Value) (wr:World):Prop :=
 (∃(k m:Nat) (tail:List Nat),i=.int .i64 (k:Int)∧k<n∧v=.int .u64 (m:Int)∧m<18446744073709551616∧tail.length+(k+1)=n∧zar m (k+1) ++ tail=zar V n ∧
  wr.ownsRow base 5 1 (.slice (some ⟨base,0,none⟩) n n) n ((List.replicate (k+1) 0 ++ tail).map bv)∧Below base w wr) ∨
 (i=.int .i64 (-1)∧wr.ownsRow base 5 1 (.slice (some ⟨base,0,none⟩) n n) n ((zar V n).map bv)∧Below base w wr)
theorem zkT {V n base k m:Nat} {tail:List Nat} {w wr:World} {x a i:Int} (hk:k<n) (hm:m<18446744073709551616) (hlen:tail.length+(k+1)=n) (heq:zar m (k+1) ++ tail=zar V n)
  (hown:wr.ownsRow base 5 1 (.slice (some ⟨base,0,none⟩) n n) n ((List.replicate (k+1) 0 ++ tail).map bv)) (hb:Below base w wr) (hx:x=(m:Int) % 256) (ha:a=(m:Int) / 256) (hi:i=(k:Int) - 1) :
  zgK V n base w (.int .u64 a) (.int .i64 i) (wr.setCell ⟨base,k,none⟩ (.int .u8 x)):=by
 subst hx;subst ha;subst hi
 have hs:=(hown.stored k (.int .u8 ((m:Int) % 256))).1
 have ev:(Value.int .u8 ((m:Int) % 256))=bv (m % 256):=by unfold bv;congr 1
 rw [ev] at hs ⊢
 rw [←List.map_set,zfz] at hs
 have hb':Below base w (wr.setCell ⟨base,k,none⟩ (bv (m % 256))):=hb.setCell (Nat.le_refl _) _
 rw [zar,List.append_assoc,List.singleton_append] at heq
 cases k with
 | zero =>
  right
  refine ⟨by simp,?_,hb'⟩
  rw [←heq]
  simpa [zar] using hs
 | succ k =>
  left
  refine ⟨k,m / 256,m % 256 :: tail,?_,by omega,by congr 1,by omega,by simp;omega,heq,hs,hb'⟩
  congr 1
  omega
theorem zhT (n:Nat):(madeCells (Value.int .u8 0).cells (n * 1)).toList=(List.replicate n 0).map bv:=by
 rw [Nat.mul_one,show (Value.int IntKind.u8 0).cells=#[.int .u8 0] from rfl,toList_madeCells_one,List.map_replicate]
 rfl
theorem zkG {V n:Nat} {w w1:World} (hV:V<18446744073709551616) (h:w1.ownsRow w.heap.size 5 1 (.slice (some ⟨w.heap.size,0,none⟩) n n) n (madeCells (Value.int .u8 0).cells (n * 1)).toList) (hg:w.grownBy w1 none) :
  zgK V n w.heap.size w (.int .u64 (V:Int)) (.int .i64 ((n:Int) - 1)) w1:=by
 have hb:Below w.heap.size w w1:=(Below.refl _ _).grown hg (Nat.le_refl _) (by intro k hk;cases hk)
 rw [zhT] at h
 cases n with
 | zero=>right;exact ⟨by simp,by simpa [zar] using h,hb⟩
 | succ n =>
  left
  refine ⟨n,V,[],?_,by omega,rfl,hV,by simp,by simp,by simpa using h,hb⟩
  congr 1
  omega
theorem zn1 (V:Nat) (w:World) (hV:V<18446744073709551616) :
  Calls Tryz.prog 189 #[.int .u64 V,.int .i64 4] w (fun e w'=>e=.returned (.slice (some ⟨w.heap.size,0,none⟩) 4 4)∧w'.ownsRow w.heap.size 5 1 (.slice (some ⟨w.heap.size,0,none⟩) 4 4) 4 ((zar V 4).map bv)∧Below w.heap.size w w'):=by
 obtain ⟨i0,hi,hz0,hz1,hz2⟩:=info_parts zcD
 have HV:=hid hV
 clear hV
 go_enter Tryz.func189,Tryz.ntmps189
 go_wp2_with (at_make;refine wpList_make_full _ rfl _ _ 45 rfl w.heap.size 5 i0 (.int .u8 0) 1 Tryz.underlying45 hi hz0 hz1 .i64 .i64 _ _ 4 rfl rfl (by omega) (by omega) (by rw [hz2];omega) (by unfold maxLen;omega) (Nat.le_refl _) ?_;intro w1 hown hg)
 have HR:=hid (zkG HV.out hown hg)
 clear hown hg
 go_loopw [0,6] (fun v i wr=>zgK V 4 w.heap.size w v i wr) (fun _ i _=>(intOf i+1).toNat)
 case atStart=>exact HR.out
 case round =>
  rcases hrel with ⟨k,m,tail,rfl,hk,rfl,hm,hlen,heq,hown,hb⟩ | ⟨rfl,hown,hb⟩
  ·have HS:=hid (zkT hk hm hlen heq hown hb rfl rfl rfl)
   obtain ⟨u,hc⟩:∃u,wr.cell? ⟨w.heap.size,k,none⟩=some u:=⟨_,(hown.cellAt k (by omega)).trans (List.getElem?_eq_getElem (by simp;omega))⟩
   have hf:=hown.frozenAt k
   have hmI:(m:Int)≤18446744073709551615:=by omega
   clear heq hown hm
   go_wp2
   go_roundw
   case rel=>exact HS.out
   case measure=>simp only [intOf];omega
  ·go_wp2
   go_ret
   exact ⟨rfl,hown,hb⟩
theorem own4 {g base x0 x1 x2 x3:Nat} {w:World} (h:w.ownsRow base 5 1 (.slice (some ⟨g,0,none⟩) 4 4) 4 ([x0,x1,x2,x3].map bv)) :
  (w.cell? ⟨g,0,none⟩=some (.int .u8 (x0:Int))∧w.cell? ⟨g,1,none⟩=some (.int .u8 (x1:Int))∧w.cell? ⟨g,2,none⟩=some (.int .u8 (x2:Int))∧w.cell? ⟨g,3,none⟩=some (.int .u8 (x3:Int))) ∧
  w.frozen? ⟨g,0,none⟩=false∧w.frozen? ⟨g,1,none⟩=false∧w.frozen? ⟨g,2,none⟩=false∧w.frozen? ⟨g,3,none⟩=false :=
 ⟨⟨h.cellAt 0 (by omega),h.cellAt 1 (by omega),h.cellAt 2 (by omega),h.cellAt 3 (by omega)⟩,h.frozenAt 0,h.frozenAt 1,h.frozenAt 2,h.frozenAt 3⟩
theorem zuS {g base x0 x1 x2 x3:Nat} {w:World} (hbase:base≤g) (h:w.ownsRow base 5 1 (.slice (some ⟨g,0,none⟩) 4 4) 4 ([x0,x1,x2,x3].map bv)) :
  ((w.setCell ⟨g,0,none⟩ (bv x3)).setCell ⟨g,3,none⟩ (bv x0)).drew.ownsRow base 5 1 (.slice (some ⟨g,0,none⟩) 4 4) 4 ([x3,x1,x2,x0].map bv)∧Below base w ((w.setCell ⟨g,0,none⟩ (bv x3)).setCell ⟨g,3,none⟩ (bv x0)).drew :=
 ⟨((h.stored 0 (bv x3)).1.stored 3 (bv x0)).1.drew,zag (((Below.refl _ _).setCell (by exact hbase) _).setCell (by exact hbase) _)⟩
theorem zud {g base x0 x1 x2 x3:Nat} {w:World} (hbase:base≤g) (h:w.ownsRow base 5 1 (.slice (some ⟨g,0,none⟩) 4 4) 4 ([x0,x1,x2,x3].map bv)) :
  ((w.setCell ⟨g,1,none⟩ (bv x2)).setCell ⟨g,2,none⟩ (bv x1)).drew.ownsRow base 5 1 (.slice (some ⟨g,0,none⟩) 4 4) 4 ([x0,x2,x1,x3].map bv)∧Below base w ((w.setCell ⟨g,1,none⟩ (bv x2)).setCell ⟨g,2,none⟩ (bv x1)).drew :=
 ⟨((h.stored 1 (bv x2)).1.stored 2 (bv x1)).1.drew,zag (((Below.refl _ _).setCell (by exact hbase) _).setCell (by exact hbase) _)⟩
theorem zjE (g base:Nat) (x0 x1 x2 x3:Nat) (w:World) (hbase:base≤g) (hown:w.ownsRow base 5 1 (.slice (some ⟨g,0,none⟩) 4 4) 4 ([x0,x1,x2,x3].map bv)) :
  Calls Tryz.prog 191 #[.slice (some ⟨g,0,none⟩) 4 4] w (fun e w'=>e=.returned (.tuple #[])∧w'.ownsRow base 5 1 (.slice (some ⟨g,0,none⟩) 4 4) 4 ([x3,x2,x1,x0].map bv)∧Below base w w'):=by
 obtain ⟨⟨c0,c1,c2,c3⟩,f0,f1,f2,f3⟩:=own4 hown
 have HO:=hid (zuS hbase hown)
 clear hown
 go_enter Tryz.func191,Tryz.ntmps191
 go_wp2
 refine wp_loop_rounds 3 ?_
 rw [rounds_succ]
 go_wp2
 go_region
 have HO2:=HO.out
 unfold bv at HO2
 generalize ((w.setCell ⟨g,0,none⟩ (.int .u8 (x3:Int))).setCell ⟨g,3,none⟩ (.int .u8 (x0:Int))).drew=w2 at *
 obtain ⟨hown2,hb2⟩:=HO2
 clear c0 c1 c2 c3 f0 f1 f2 f3 HO
 obtain ⟨⟨c0,c1,c2,c3⟩,f0,f1,f2,f3⟩:=own4 hown2
 have HP:=hid (zud hbase hown2)
 have HB:=hid hb2
 clear hown2 hb2
 go_wp2
 rw [rounds_succ]
 go_wp2
 go_region
 have HP2:=HP.out
 unfold bv at HP2
 generalize ((w2.setCell ⟨g,1,none⟩ (.int .u8 (x2:Int))).setCell ⟨g,2,none⟩ (.int .u8 (x1:Int))).drew=w3 at *
 have HQ:=hid HP2
 clear HP2 HP c0 c1 c2 c3 f0 f1 f2 f3
 go_wp2
 rw [rounds_succ]
 go_wp2
 go_end0
 exact ⟨rfl,HQ.out.1,HB.out.trans HQ.out.2⟩
theorem ziP {w:World} {base base' n:Nat} {e:TypeId} {v:Value} {xs:List Value} (h:w.ownsRow base e 1 v n xs) (hb:base'≤base):w.ownsRow base' e 1 v n xs:=by
 refine ⟨h.1,?_⟩
 rcases h.2 with h2 | ⟨g,cap,cur,h3,h4,h5⟩
 ·exact .inl h2
 ·exact .inr ⟨g,cap,cur,h3,Nat.le_trans hb h4,h5⟩
def le4 (y:Nat):List Nat:=[y % 256,y / 256 % 256,y / 256 / 256 % 256,y / 256 / 256 / 256 % 256]
theorem zsV (y:Nat):zar y 4=[y / 256 / 256 / 256 % 256,y / 256 / 256 % 256,y / 256 % 256,y % 256]:=by simp [zar]
theorem zjs (y:Nat):∀x∈le4 y,x<256:=by
 intro x hx
 simp [le4] at hx
 omega
def Four (V g:Nat) (w w':World):Prop:=w'.ownsRow g 5 1 (.slice (some ⟨g,0,none⟩) 4 4) 4 ((zar V 4).map bv)∧Below g w w'
theorem znb (V g:Nat) (w:World) (hg:w.heap.size=g) (hV:V<18446744073709551616) :
  Calls Tryz.prog 189 #[.int .u64 V,.int .i64 4] w (fun e w'=>e=.returned (.slice (some ⟨g,0,none⟩) 4 4)∧Four V g w w'):=by
 subst hg
 exact (zn1 V w hV).mono fun _ _ ⟨h1,h2,h3⟩=>⟨h1,h2,h3⟩
theorem ztk {V g:Nat} {w w':World} (h:Four V g w w'):w'.ownsRow g 5 1 (.slice (some ⟨g,0,none⟩) 4 4) 4 ([V / 256 / 256 / 256 % 256,V / 256 / 256 % 256,V / 256 % 256,V % 256].map bv)∧Below g w w':=by
 have h1:=h.1
 rw [zsV] at h1
 exact ⟨h1,h.2⟩
theorem zgs (A:Option Addr) (l:List Nat) (n c:Nat) (w:World) (hn:l.length=n) (hl:n≤9223372036854775807) (h8:∀x∈l,x<256) (hA:Sees .u8 w A l) :
  Calls Tryz.prog 158 #[.slice A n c] w (zcy (le4 (zcZ l)) w):=by
 have HA:=hid hA
 have H8:=hid h8
 have HN:=hid hn
 have hlt:=zsr l
 clear hA h8 hn
 go_enter Tryz.func158,Tryz.ntmps158
 go_wp2_with (first
  | (go_at_call 190;((with_reducible refine (zty w A l n c 1 HN.out hl H8.out HA.out).mono ?_);rintro e w' ⟨rfl,rfl⟩))
  | (go_at_call 189;((with_reducible refine (znb (zcZ l) (w.heap.size+1) _ (by simp) (by omega)).mono ?_);rintro e w2 ⟨rfl,H2⟩;have H3:=hid (ztk H2)))
  | (go_at_call 191;((with_reducible refine (zjE (w.heap.size+1) (w.heap.size+1) _ _ _ _ w2 (Nat.le_refl _) H3.out.1).mono ?_);rintro e w3 ⟨rfl,hown3,hb3⟩)))
 go_ret
 have hb1:Below w.heap.size w (w.alloc (.cells #[.slice A n c] 45)):=(Below.refl _ _).alloc (Nat.le_refl _) _
 exact ⟨_,rfl,ziP hown3 (by omega),hb1.trans ((H3.out.2.trans hb3).mono (by omega))⟩
def zi1 (a b:List Nat):Bool:=(strN a).toList == (strN b).toList
theorem zjR (a:List Nat):zi1 a a=true:=by unfold zi1;simp
theorem zrf {a b:List Nat} (ha:∀x∈a,x<256) (hb:∀x∈b,x<256) (h:a≠b):zi1 a b=false:=by
 unfold zi1
 rw [beq_eq_false_iff_ne,ByteArray.toList_eq,ByteArray.toList_eq]
 intro he
 apply h
 have h2:=congrArg (fun s:List UInt8=>s.map UInt8.toNat) he
 simp only [strN,strOfNums_data,List.map_map] at h2
 have e:∀l:List Nat,(∀x∈l,x<256)→l.map (UInt8.toNat ∘ (fun n:Int=>UInt8.ofNat n.toNat) ∘ fun x:Nat=>(x:Int))=l:=by
  intro l hl
  conv=>rhs;rw [←List.map_id l]
  apply List.map_congr_left
  intro x hx
  have:=hl x hx
  simp
  omega
 rw [e a ha,e b hb] at h2
 exact h2
theorem zgW (A B:Option Addr) (a b:List Nat) (n m ca cb:Nat) (w:World) (hn:a.length=n) (hm:b.length=m) (hA:Sees .u8 w A a) (hB:Sees .u8 w B b) :
  Calls Tryz.prog 157 #[.slice A n ca,.slice B m cb] w fun e w'=>e=.returned (.bool (zi1 a b))∧w=w':=by
 have h1:=zdw hA hn ca
 have h2:=zdw hB hm cb
 have HS:Hid (zi1 a b=((strN a).toList == (strN b).toList)):=hid rfl
 clear hA hB hn hm
 generalize strN a=s at *
 generalize strN b=t at *
 go_enter Tryz.func157,Tryz.ntmps157
 go_wp2
 go_ret
 exact ⟨by rw [HS.out];rfl,rfl⟩
theorem zii (W:World) (A1 A2:Option Addr) (l1 l2:List Nat) (n1 n2 c1 c2:Nat) (e1:l1.length=n1) (e2:l2.length=n2) (h0:0<n1+n2) (hn:n1+n2≤140737488355328) (k1:A1=none→c1=0) (k2:A2=none→c2=0)
  (x1:∀x∈l1,x<256) (x2:∀x∈l2,x<256) (s1:Sees .u8 W A1 l1) (s2:Sees .u8 W A2 l2) :
  Calls Tryz.prog 137 #[.slice (some ⟨W.heap.size,0,none⟩) 2 2] (W.alloc (.cells #[.slice A1 n1 c1,.slice A2 n2 c2] 45)) (zcy (l1 ++ l2) (W.alloc (.cells #[.slice A1 n1 c1,.slice A2 n2 c2] 45))):=by
 subst e1
 subst e2
 have h:=heap_alloc_new W (.cells #[.slice A1 l1.length c1,.slice A2 l2.length c2] 45)
 have hc:=fun i=>cell_of_row _ W.heap.size i #[.slice A1 l1.length c1,.slice A2 l2.length c2] 45 (0,0) h
 have hs:zbg (W.alloc (.cells #[.slice A1 l1.length c1,.slice A2 l2.length c2] 45)) (some ⟨W.heap.size,0,none⟩) [l1,l2]:=by
  intro j l hj
  match j,hj with
  | 0,hj =>
   simp at hj
   subst hj
   exact ⟨W.heap.size,0,A1,c1,rfl,by simp,hc 0,by omega,x1,s1.alloc_ _⟩
  | 1,hj =>
   simp at hj
   subst hj
   exact ⟨W.heap.size,0,A2,c2,rfl,by simp,hc 1,by omega,x2,s2.alloc_ _⟩
 have hb:zcn (W.alloc (.cells #[.slice A1 l1.length c1,.slice A2 l2.length c2] 45)) (some ⟨W.heap.size,0,none⟩) [l1,l2].length:=by
  intro j b o B n c hj he hcell hB
  injection he with he
  injection he with he1 he2
  subst he1;subst he2
  rw [Nat.zero_add,hc j] at hcell
  match j,hj with
  | 0,_ =>
   simp at hcell
   obtain ⟨rfl,rfl,rfl⟩:=hcell
   exact k1 hB
  | 1,_ =>
   simp at hcell
   obtain ⟨rfl,rfl,rfl⟩:=hcell
   exact k2 hB
 have r:=znC (some ⟨W.heap.size,0,none⟩) [l1,l2] 2 (l1.length+l2.length) _ (by simp) (by simp) h0 hn hs hb
 simpa using r
def zdM (l:List Nat):List Nat:=l ++ le4 (zcZ l)
theorem zfT (y:Nat):(le4 y).length=4:=rfl
theorem zeU (l:List Nat):(zdM l).length=l.length+4:=by unfold zdM;rw [List.length_append,zfT]
theorem zgX {l:List Nat} (h:∀x∈l,x<256):∀x∈zdM l,x<256:=fun x hx=>(List.mem_append.1 hx).elim (h x) (zjs _ x)
theorem zsy (A:Option Addr) (l:List Nat) (n c:Nat) (w:World) (hn:l.length=n) (hl:n≤140737488351232) (hA0:A=none→c=0) (h8:∀x∈l,x<256) (hA:Sees .u8 w A l) :
  Calls Tryz.prog 138 #[.slice A n c] w (zcy (zdM l) w):=by
 have HA:=hid hA
 have H8:=hid h8
 have HN:=hid hn
 have H0:=hid hA0
 clear hA h8 hn hA0
 go_enter Tryz.func138,Tryz.ntmps138
 go_wp2_with (first
  | (go_at_call 158;((with_reducible refine (zgs A l n c w HN.out (by omega) H8.out HA.out).mono ?_);rintro e w1 hm;obtain ⟨A2,c2,rfl,hk2,_,hs2,hb1⟩:=hm.hands;have HK:=hid hk2;have HS:=hid hs2;have HB:=hid hb1;clear hk2 hs2 hb1 hm;rw [zfT]))
  | (go_at_call 137;((with_reducible refine (zii w1 A A2 l (le4 (zcZ l)) n 4 c c2 HN.out rfl (by omega) (by omega) H0.out HK.out H8.out (zjs _) (HA.out.below HB.out) HS.out).mono ?_);rintro e w2 hm;obtain ⟨s,rfl,hown,hb2⟩:=hm)))
 go_ret
 have z:=HB.out.size
 refine ⟨_,rfl,ziP hown (by simp;omega),HB.out.trans ?_⟩
 exact ((Below.refl _ _).alloc z _).trans (hb2.mono (by simp;omega))
def zvc (l:List Nat) (n:Nat) (w:World) (e:Ending) (w':World):Prop :=
 ∃A cap,e=.returned (.tuple #[.slice A n cap,.int .i64 0])∧(A=none→cap=0)∧Sees .u8 w' A l∧Below w.heap.size w w'
theorem zu7 (b o:Nat) (p t:List Nat) (n c:Nat) (w:World) (hp:p.length=n) (ht:t.length=4) (hn:n≤140737488351232) (hc:n+4≤c) (xp:∀x∈p,x<256) (hA:Sees .u8 w (some ⟨b,o,none⟩) (p ++ t)) (hs:t=le4 (zcZ p)) :
  Calls Tryz.prog 114 #[.slice (some ⟨b,o,none⟩) (n+4) c] w (zvc p n w):=by
 have SP:Hid (Sees .u8 w (some ⟨b,o,none⟩) p):=hid (by have:=hA.take n;rwa [List.take_left' hp] at this)
 have ST:Hid (Sees .u8 w (some ⟨b,o+n,none⟩) t):=hid (by have:=hA.rest (i:=n) rfl;rwa [List.drop_left' hp] at this)
 have HP:=hid hp
 have HT:=hid ht
 have XP:=hid xp
 have HY:Hid (zi1 t (le4 (zcZ p))=true):=hid (by rw [hs];exact zjR _)
 clear hA hp ht xp hs
 have hc1:¬c=n:=by omega
 have hc2:(n:Int)≤(c:Int):=by omega
 have hc3:(n:Int)+4≤(c:Int):=by omega
 have hc4:(0:Int)≤(n:Int):=by omega
 have hc5:(n:Int)≤(n:Int)+4:=by omega
 go_enter Tryz.func114,Tryz.ntmps114
 go_wp2_with fail
 go_region_held3 (fun _=>True) (exact trivial) (first
  | (go_at_call 158;((with_reducible refine (zgs (some ⟨b,o,none⟩) p n c _ HP.out (by omega) XP.out SP.out.drew_).mono ?_);rintro e w1 hm;obtain ⟨A2,c2,rfl,hk2,_,hs2,hb1⟩:=hm.hands;have HS:=hid hs2;have HB:=hid hb1;clear hk2 hs2 hb1 hm;rw [zfT]))
  | (go_at_call 157;((with_reducible refine (zgW (some ⟨b,o+n,none⟩) A2 t (le4 (zcZ p)) 4 4 (c - n) c2 w1 HT.out rfl (ST.out.drew_.below HB.out) HS.out).mono ?_);rintro e w' ⟨rfl,rfl⟩;rw [HY.out])))
 have SQ:=hid (SP.out.drew_.below HB.out)
 have BQ:=hid ((zag (Below.refl w.heap.size w)).trans HB.out)
 clear SP ST HB HS HY
 go_wp2_with (go_at_call 42;((with_reducible refine (zf1 b o p n c w1 HP.out (by omega) SQ.out).mono ?_);rintro e w2 hm;obtain ⟨A3,c3,rfl,hk3,_,hs3,hb3⟩:=hm.hands;have HS3:=hid hs3;have HK3:=hid hk3;have HB3:=hid hb3;clear hk3 hs3 hb3 hm;rw [HP.out]))
 go_ret2
 exact ⟨A3,c3,rfl,HK3.out,HS3.out,BQ.out.trans (HB3.out.mono BQ.out.size)⟩
theorem ztT (b o:Nat) (p t:List Nat) (n c:Nat) (w:World) (hp:p.length=n) (ht:t.length=4) (hn:n≤140737488351232) (hc:n+4≤c) (xp:∀x∈p,x<256) (hA:Sees .u8 w (some ⟨b,o,none⟩) (p ++ t)) (xt:∀x∈t,x<256) (hs:t≠le4 (zcZ p)) :
  Calls Tryz.prog 114 #[.slice (some ⟨b,o,none⟩) (n+4) c] w (fun e w'=>e=.returned (.tuple #[.slice none 0 0,.int .i64 23])∧Below w.heap.size w w'):=by
 have SP:Hid (Sees .u8 w (some ⟨b,o,none⟩) p):=hid (by have:=hA.take n;rwa [List.take_left' hp] at this)
 have ST:Hid (Sees .u8 w (some ⟨b,o+n,none⟩) t):=hid (by have:=hA.rest (i:=n) rfl;rwa [List.drop_left' hp] at this)
 have HP:=hid hp
 have HT:=hid ht
 have XP:=hid xp
 have HY:Hid (zi1 t (le4 (zcZ p))=false):=hid (zrf xt (zjs _) hs)
 clear hA hp ht xp xt hs
 have hc1:¬c=n:=by omega
 have hc2:(n:Int)≤(c:Int):=by omega
 have hc3:(n:Int)+4≤(c:Int):=by omega
 have hc4:(0:Int)≤(n:Int):=by omega
 have hc5:(n:Int)≤(n:Int)+4:=by omega
 go_enter Tryz.func114,Tryz.ntmps114
 go_wp2_with fail
 go_region_held3 (fun _=>True) (exact trivial) (first
  | (go_at_call 158;((with_reducible refine (zgs (some ⟨b,o,none⟩) p n c _ HP.out (by omega) XP.out SP.out.drew_).mono ?_);rintro e w1 hm;obtain ⟨A2,c2,rfl,hk2,_,hs2,hb1⟩:=hm.hands;have HS:=hid hs2;have HB:=hid hb1;clear hk2 hs2 hb1 hm;rw [zfT]))
  | (go_at_call 157;((with_reducible refine (zgW (some ⟨b,o+n,none⟩) A2 t (le4 (zcZ p)) 4 4 (c - n) c2 w1 HT.out rfl (ST.out.drew_.below HB.out) HS.out).mono ?_);rintro e w' ⟨rfl,rfl⟩;rw [HY.out])))
 have BQ:=hid ((zag (Below.refl w.heap.size w)).trans HB.out)
 clear SP ST HB HS HY
 go_wp2
 go_ret2
 exact ⟨rfl,BQ.out⟩
def zaK (r:List Nat):List Nat:=zae (r.length+4) ++ zdM r
def zaf (rs:List (List Nat)):List Nat:=(rs.map zaK).flatten
theorem zc3 (r:List Nat):(zaK r).length=(zae (r.length+4)).length+(r.length+4):=by
 unfold zaK;rw [List.length_append,zeU]
theorem zdh {v:Nat} (h:v≤16388):(zae v).length≤3:=zfM 2 v (by omega)
theorem zdI {r:List Nat} (h:r.length≤16384):(zaK r).length≤r.length+7:=by
 rw [zc3];have:=zdh (v:=r.length+4) (by omega);omega
theorem zdT (r:List Nat):r.length+5≤(zaK r).length:=by
 rw [zc3];have:=zeI (r.length+4);omega
theorem zk4 {r:List Nat} (h:∀x∈r,x<256):∀x∈zaK r,x<256:=fun x hx=>by
 unfold zaK at hx
 exact (List.mem_append.1 hx).elim (zbo _ x) (zgX h x)
theorem zdi:zaf []=[]:=rfl
theorem zbu (r:List Nat) (rs:List (List Nat)):zaf (r :: rs)=zaK r ++ zaf rs:=by simp [zaf]
theorem zb8 (a b:List (List Nat)):zaf (a ++ b)=zaf a ++ zaf b:=by simp [zaf]
theorem zgd {rs:List (List Nat)} {k:Nat} (h:k<rs.length):zaf (rs.take (k+1))=zaf (rs.take k) ++ zaK rs[k]:=by
 rw [List.take_succ_eq_append_getElem h,zb8,zbu,zdi,List.append_nil]
theorem zfy (rs:List (List Nat)) (k:Nat):zaf rs=zaf (rs.take k) ++ zaf (rs.drop k):=by
 rw [←zb8,List.take_append_drop]
theorem zbR {rs:List (List Nat)} {k:Nat} (h:k<rs.length):(zaf (rs.take (k+1))).length=(zaf (rs.take k)).length+(zaK rs[k]).length:=by
 rw [zgd h,List.length_append]
theorem zct (rs:List (List Nat)) (k:Nat):(zaf (rs.take k)).length≤(zaf rs).length:=by
 rw [zfy rs k,List.length_append];omega
theorem zkq {rs:List (List Nat)} {k:Nat} (h:k<rs.length):zaf (rs.drop k)=zaK rs[k] ++ zaf (rs.drop (k+1)):=by
 rw [List.drop_eq_getElem_cons h,zbu]
theorem zeq {rs:List (List Nat)} (h:∀r∈rs,∀x∈r,x<256):∀x∈zaf rs,x<256:=fun x hx=>by
 unfold zaf at hx
 obtain ⟨f,h1,h2⟩:=List.mem_flatten.1 hx
 obtain ⟨r,h3,rfl⟩:=List.mem_map.1 h1
 exact zk4 (h r h3) x h2
theorem zeb (rs:List (List Nat)):rs.length * 5≤(zaf rs).length:=by
 induction rs with
 | nil=>simp
 | cons r rs ih=>rw [zbu,List.length_append,List.length_cons];have:=zdT r;omega
def Torn (l:List Nat):Prop:=∀(r m:List Nat),r.length≤16384→l≠zaK r ++ m
theorem znP (r m:List Nat) (h:r.length≤16384):zbQ (zaK r ++ m)=(r.length+4,(zae (r.length+4)).length,0):=by
 unfold zaK
 rw [List.append_assoc,zha _ _ (by omega)]
theorem zjt:Torn []:=fun r m _ h=>by
 have h1:=congrArg List.length h
 rw [List.length_append] at h1
 have:=zdT r
 simp at h1
 omega
theorem zrP {l:List Nat} {v a:Nat} (h8:∀x∈l,x<256) (hr:zbQ l=(v,a,0)) (hle:a+v≤l.length) (p t:List Nat) (hpt:(l.drop a).take v=p ++ t) (ht4:t.length=4) (ht:t=le4 (zcZ p)) :
  l=zaK p ++ l.drop (a+v)∧p.length+4=v∧(zaK p).length=a+v:=by
 obtain ⟨ha,hal,htake,hv⟩:=zey h8 hr
 have hl:=congrArg List.length hpt
 rw [List.length_take,List.length_drop,List.length_append] at hl
 have hp:p.length+4=v:=by omega
 have e:zaK p=l.take (a+v):=by
  unfold zaK zdM
  rw [hp,←ht,←hpt,←htake,List.take_add]
 refine ⟨?_,hp,?_⟩
 ·rw [e,List.take_append_drop]
 ·rw [zc3,hp,←ha]
def zmE (l:List Nat) (n:Nat) (w:World) (e:Ending) (w':World):Prop :=
 ∃s,e=.returned (.tuple #[s,.int .i64 0])∧w'.ownsRow w.heap.size 5 1 s n (l.map bv)∧Below w.heap.size w w'
theorem zse (b o:Nat) (p t:List Nat) (n c:Nat) (w:World) (hp:p.length=n) (ht:t.length=4) (hn:n≤140737488351232) (hc:n+4≤c) (xp:∀x∈p,x<256) (hA:Sees .u8 w (some ⟨b,o,none⟩) (p ++ t)) (hs:t=le4 (zcZ p)) :
  Calls Tryz.prog 114 #[.slice (some ⟨b,o,none⟩) (n+4) c] w (zmE p n w):=by
 have SP:Hid (Sees .u8 w (some ⟨b,o,none⟩) p):=hid (by have:=hA.take n;rwa [List.take_left' hp] at this)
 have ST:Hid (Sees .u8 w (some ⟨b,o+n,none⟩) t):=hid (by have:=hA.rest (i:=n) rfl;rwa [List.drop_left' hp] at this)
 have HP:=hid hp
 have HT:=hid ht
 have XP:=hid xp
 have HY:Hid (zi1 t (le4 (zcZ p))=true):=hid (by rw [hs];exact zjR _)
 clear hA hp ht xp hs
 have hc1:¬c=n:=by omega
 have hc2:(n:Int)≤(c:Int):=by omega
 have hc3:(n:Int)+4≤(c:Int):=by omega
 have hc4:(0:Int)≤(n:Int):=by omega
 have hc5:(n:Int)≤(n:Int)+4:=by omega
 go_enter Tryz.func114,Tryz.ntmps114
 go_wp2_with fail
 go_region_held3 (fun _=>True) (exact trivial) (first
  | (go_at_call 158;((with_reducible refine (zgs (some ⟨b,o,none⟩) p n c _ HP.out (by omega) XP.out SP.out.drew_).mono ?_);rintro e w1 hm;obtain ⟨A2,c2,rfl,hk2,_,hs2,hb1⟩:=hm.hands;have HS:=hid hs2;have HB:=hid hb1;clear hk2 hs2 hb1 hm;rw [zfT]))
  | (go_at_call 157;((with_reducible refine (zgW (some ⟨b,o+n,none⟩) A2 t (le4 (zcZ p)) 4 4 (c - n) c2 w1 HT.out rfl (ST.out.drew_.below HB.out) HS.out).mono ?_);rintro e w' ⟨rfl,rfl⟩;rw [HY.out])))
 have SQ:=hid (SP.out.drew_.below HB.out)
 have BQ:=hid ((zag (Below.refl w.heap.size w)).trans HB.out)
 clear SP ST HB HS HY
 go_wp2_with (go_at_call 42;((with_reducible refine (zf1 b o p n c w1 HP.out (by omega) SQ.out).mono ?_);rintro e w2 ⟨s3,rfl,hown3,hb3⟩;have HO3:=hid hown3;have HB3:=hid hb3;clear hown3 hb3))
 go_ret2
 exact ⟨s3,rfl,ziP (by have:=HO3.out;rwa [HP.out] at this) BQ.out.size,BQ.out.trans (HB3.out.mono BQ.out.size)⟩
theorem zni (A:Option Addr) (n c:Nat) (w:World) (hn:n<4) :
  Calls Tryz.prog 114 #[.slice A n c] w (fun e w'=>e=.returned (.tuple #[.slice none 0 0,.int .i64 20])∧w=w'):=by
 have h:(n:Int)<4:=by omega
 go_enter Tryz.func114,Tryz.ntmps114
 go_wp2
 go_ret2
 exact ⟨rfl,rfl⟩
theorem zrZ (x:Int) (v:Nat) (w:World) (hx:x=(v:Int)) (hv:v<18446744073709551616):Calls Tryz.prog 129 #[.int .u64 x] w (zcy (zae v) w):=by
 subst hx;exact zkv v w hv
theorem zsl (A:Option Addr) (n c:Nat) (w:World) (hn:n≤16384) :
  Calls Tryz.prog 87 #[.slice A n c] w (zcy (zae (n+4)) w):=by
 go_enter Tryz.func87,Tryz.ntmps87
 go_wp2_with (go_at_call 129;((with_reducible refine (zrZ _ (n+4) _ (by omega) (by omega)).mono ?_);rintro e w1 ⟨s,rfl,hown,hb⟩;have HO:=hid hown;have HB:=hid hb;clear hown hb))
 go_ret
 exact ⟨_,rfl,HO.out,HB.out⟩
theorem zin (A:Option Addr) (n c N:Nat) (w:World) (hn:n≤16384) (hN:(zae (n+4)).length=N) :
  Calls Tryz.prog 87 #[.slice A n c] w (fun e w'=>∃A1 c1,e=.returned (.slice A1 N c1)∧(A1=none→c1=0)∧Sees .u8 w' A1 (zae (n+4))∧Below w.heap.size w w'):=by
 subst hN
 refine (zsl A n c w hn).mono ?_
 intro e w' hm
 obtain ⟨A2,c2,rfl,hk2,_,hs2,hb1⟩:=hm.hands
 exact ⟨A2,c2,rfl,hk2,hs2,hb1⟩
theorem zju (A:Option Addr) (r:List Nat) (n c:Nat) (w:World) (hr:r.length=n) (hn:n≤16384) :
  Calls Tryz.prog 49 #[.slice A n c] w (fun e w'=>e=.returned (.int .i64 ((zaK r).length:Int))∧Below w.heap.size w w'):=by
 obtain ⟨N,hN⟩:∃N,(zae (n+4)).length=N:=⟨_,rfl⟩
 have hN3:N≤3:=by rw [←hN];exact zdh (by omega)
 have HN:=hid hN
 have HL:Hid ((zaK r).length=N+(n+4)):=hid (by rw [zc3,hr,hN])
 clear hN hr
 have hni:(n:Int)≤16384:=by omega
 go_enter Tryz.func49,Tryz.ntmps49
 go_wp2_with (go_at_call 87;((with_reducible refine (zin A n c N _ hn HN.out).mono ?_);rintro e w1 ⟨A1,c1,rfl,hk,hs,hb⟩;have HB:=hid hb;clear hk hs hb))
 go_ret
 exact ⟨zba (by rw [HL.out];omega),HB.out⟩
def zqU (r:List Nat) (w:World) (e:Ending) (w':World):Prop :=
 ∃s,e=.returned (.tuple #[s,.int .i64 0])∧w'.ownsRow w.heap.size 5 1 s (zaK r).length ((zaK r).map bv)∧Below w.heap.size w w'
theorem zom (A:Option Addr) (r:List Nat) (n c:Nat) (w:World) (hr:r.length=n) (hn:n≤16384) (hA0:A=none→c=0) (h8:∀x∈r,x<256) (hA:Sees .u8 w A r) :
  Calls Tryz.prog 98 #[.slice A n c] w (zqU r w):=by
 obtain ⟨N,hN⟩:∃N,(zae (n+4)).length=N:=⟨_,rfl⟩
 have hN3:N≤3:=by rw [←hN];exact zdh (by omega)
 have hN0:0<N:=by rw [←hN];exact zeI _
 have HN:=hid hN
 have HR:=hid hr
 have HA:=hid hA
 have H8:=hid h8
 have H0:=hid hA0
 have HF:Hid (zae (n+4) ++ zdM r=zaK r):=hid (by unfold zaK;rw [hr])
 have HSL:Hid ((zdM r).length=n+4):=hid (by rw [zeU,hr])
 clear hN hr hA h8 hA0
 have hni:(n:Int)≤16384:=by omega
 go_enter Tryz.func98,Tryz.ntmps98
 go_wp2_with (first
  | (go_at_call 87;((with_reducible refine (zin A n c N _ hn HN.out).mono ?_);rintro e w1 ⟨A1,c1,rfl,hk,hs,hb⟩;have HK1:=hid hk;have HS1:=hid hs;have HB1:=hid hb;clear hk hs hb))
  | (go_at_call 138;((with_reducible refine (zsy A r n c _ HR.out (by omega) H0.out H8.out (HA.out.below HB1.out)).mono ?_);rintro e w2 hm;obtain ⟨A2,c2,rfl,hk2,_,hs2,hb2⟩:=hm.hands;have HK2:=hid hk2;have HS2:=hid hs2;have HB2:=hid hb2;clear hk2 hs2 hb2 hm;rw [HSL.out]))
  | (go_at_call 137;((with_reducible refine (zii w2 A1 A2 (zae (n+4)) (zdM r) N (n+4) c1 c2 HN.out HSL.out (by omega) (by omega) HK1.out HK2.out (zbo _) (zgX H8.out) (HS1.out.below HB2.out) HS2.out).mono ?_);rintro e w3 hm;obtain ⟨s,rfl,hown,hb3⟩:=hm)))
 go_ret2
 have z:=HB1.out.size
 have z2:=HB2.out.size
 refine ⟨_,rfl,?_,?_⟩
 ·rw [HF.out] at hown
  exact ziP hown (by simp;omega)
 ·exact (zgw HB1.out HB2.out).trans (((Below.refl _ _).alloc (Nat.le_trans z z2) _).trans (hb3.mono (by simp;omega)))
theorem zlO (A:Option Addr) (r:List Nat) (n c N:Nat) (w:World) (hr:r.length=n) (hn:n≤16384) (hA0:A=none→c=0) (h8:∀x∈r,x<256) (hA:Sees .u8 w A r) (hN:(zaK r).length=N) :
  Calls Tryz.prog 98 #[.slice A n c] w (fun e w'=>∃b o cap,e=.returned (.tuple #[.slice (some ⟨b,o,none⟩) N cap,.int .i64 0])∧N≤cap∧b<w'.heap.size∧Sees .u8 w' (some ⟨b,o,none⟩) (zaK r)∧Below w.heap.size w w'):=by
 subst hN
 refine (zom A r n c w hr hn hA0 h8 hA).mono ?_
 rintro e w' ⟨s,rfl,hown,hb⟩
 obtain ⟨A2,c2,rfl,_,hc2,hs⟩:=zda (k:=.u8) (l:=zaK r) hown
 obtain ⟨b,o,rfl,hlt,_⟩:=hs 0 _ (List.getElem?_eq_getElem (show 0<(zaK r).length by have:=zdT r;omega))
 exact ⟨b,o,c2,rfl,hc2,hlt,hs,hb⟩
theorem ztw (b o:Nat) (p:List Nat) (n v c:Nat) (w:World) (hv:v=n+4) (hp:p.length=n) (hn:n≤140737488351232) (hc:v≤c) (xp:∀x∈p,x<256) (hA:Sees .u8 w (some ⟨b,o,none⟩) (zdM p)) :
  Calls Tryz.prog 114 #[.slice (some ⟨b,o,none⟩) v c] w (zmE p n w):=by
 subst hv
 exact zse b o p (le4 (zcZ p)) n c w hp (zfT _) hn hc xp hA rfl
theorem zrU (b o:Nat) (p t:List Nat) (n v c:Nat) (w:World) (hv:v=n+4) (hp:p.length=n) (ht:t.length=4) (hn:n≤140737488351232) (hc:v≤c) (xp:∀x∈p,x<256) (hA:Sees .u8 w (some ⟨b,o,none⟩) (p ++ t)) (xt:∀x∈t,x<256) (hs:t≠le4 (zcZ p)) :
  Calls Tryz.prog 114 #[.slice (some ⟨b,o,none⟩) v c] w (fun e w'=>e=.returned (.tuple #[.slice none 0 0,.int .i64 23])∧Below w.heap.size w w'):=by
 subst hv
 exact ztT b o p t n c w hp ht hn hc xp hA xt hs
theorem zkg {w0:World} {A:Option Addr} {l:List Nat} {n c a v:Nat} (hn:l.length=n) (hm:a+v≤n) (hc:n≤c) (h:Sees .u8 w0 A l) (hA:A=none→c=0) :
  ∃A1,(∀w,(Instr.slice 45 (.slice A n c) (some (.int .i64 (a:Int))) (some (.int .i64 ((a:Int)+(v:Int)))) none).run Tryz.prog w=.ok (.slice A1 v (c - a)) w)∧(A1=none→c - a=0)∧Sees .u8 w0 A1 ((l.drop a).take v):=by
 obtain ⟨i0,hi,hz0,hz1,hz2⟩:=info_parts zcD
 obtain ⟨A1,h1,h2,h3⟩:=zt1 45 5 i0 Tryz.underlying45 hi hz1 hn (show a≤a+v by omega) hm hc h.held hA
 simp only [Nat.add_sub_cancel_left,Int.natCast_add] at h1 h3
 exact ⟨A1,h1,h2,h3.sees (Nat.le_refl _)⟩
theorem zkx {w:World} {A:Option Addr} {l:List Nat} (h:Sees .u8 w A l) (h0:0<l.length):∃b o,A=some ⟨b,o,none⟩:=by
 obtain ⟨b,o,h1,_,_⟩:=h 0 _ (List.getElem?_eq_getElem h0)
 exact ⟨b,o,h1⟩
def zsM (r:List Nat) (w:World) (e:Ending) (w':World):Prop :=
 ∃s,e=.returned (.tuple #[s,.int .i64 ((zaK r).length:Int),.bool true])∧w'.ownsRow w.heap.size 5 1 s r.length (r.map bv)∧Below w.heap.size w w'
theorem zlx {r:List Nat} {s:Value} {x:Int} (h:x=((zaK r).length:Int)):Ending.returned (.tuple #[s,.int .i64 x,.bool true])=.returned (.tuple #[s,.int .i64 ((zaK r).length:Int),.bool true]):=by rw [h]
theorem zr5 (A:Option Addr) (l r m:List Nat) (n c:Nat) (w:World) (hln:l.length=n) (hl:n≤140737488351232) (hc:n≤c) (hA0:A=none→c=0) (h8:∀x∈l,x<256) (hA:Sees .u8 w A l) (hr:r.length≤16384) (e:l=zaK r ++ m) :
  Calls Tryz.prog 79 #[.slice A n c] w (zsM r w):=by
 obtain ⟨v,hv⟩:∃v,v=r.length+4:=⟨_,rfl⟩
 obtain ⟨a,ha⟩:∃a,a=(zae v).length:=⟨_,rfl⟩
 have HR:Hid (zbQ l=(v,a,0)):=hid (by rw [e,ha,hv];exact znP r m hr)
 have hlen:a+v≤n:=by rw [←hln,e,List.length_append,zc3,←hv,←ha];omega
 have HFL:Hid ((zaK r).length=a+v):=hid (by rw [zc3,←hv,←ha])
 have ha3:a≤3:=by rw [ha];exact zdh (by omega)
 have xr:∀x∈r,x<256:=fun x hx=>h8 x (by rw [e];unfold zaK zdM;simp [hx])
 obtain ⟨A1,hrun,_,hs1⟩:=zkg (a:=a) (v:=v) hln hlen hc hA hA0
 have ecut:(l.drop a).take v=zdM r:=by
  rw [e,ha]
  unfold zaK
  rw [hv,List.append_assoc,List.drop_left' rfl,List.take_left' (zeU r)]
 rw [ecut] at hs1
 obtain ⟨b,o,rfl⟩:=zkx hs1 (by rw [zeU];omega)
 have HS1:=hid hs1
 have HA:=hid hA
 have H8:=hid h8
 have HLN:=hid hln
 have XR:=hid xr
 obtain ⟨q,hq⟩:∃q,r.length=q:=⟨_,rfl⟩
 have hvq:v=q+4:=by omega
 have hvb:v≤16388:=by omega
 have HQ:=hid hq
 have HV:=hid hvq
 have hlen2:(a:Int)+(v:Int)≤(n:Int):=by omega
 have hcap:v≤c - a:=by omega
 have hq9:q≤16384:=by omega
 clear hA h8 hln xr hs1 ecut e hv ha hr hvq hq hA0
 go_enter Tryz.func79,Tryz.ntmps79
 go_wp2_with (first
  | (go_at_call 113;((with_reducible refine (zck A l n c _ (by omega) HLN.out H8.out HA.out).mono ?_);rintro e w' ⟨rfl,rfl⟩;rw [HR.out]))
  | (go_at_call 114;((with_reducible refine (ztw b o r q v (c - a) _ HV.out HQ.out (by omega) hcap XR.out HS1.out).mono ?_);rintro e w2 ⟨s,rfl,hown,hb⟩;have HO:=hid hown;have HB:=hid hb;clear hown hb)))
 go_ret3
 exact ⟨s,zlx (by rw [HFL.out];omega),by rw [HQ.out];exact HO.out,HB.out⟩
def zt2 (w:World) (e:Ending) (w':World):Prop:=e=.returned (.tuple #[.slice none 0 0,.int .i64 0,.bool false])∧Below w.heap.size w w'
theorem zsC (A:Option Addr) (l:List Nat) (n c:Nat) (w:World) (hln:l.length=n) (hl:n≤140737488351232) (hc:n≤c) (hA0:A=none→c=0) (h8:∀x∈l,x<256) (hA:Sees .u8 w A l) (ht:Torn l) :
  Calls Tryz.prog 79 #[.slice A n c] w (zt2 w):=by
 obtain ⟨v,a,e,hr⟩:∃v a e,zbQ l=(v,a,e):=⟨_,_,_,rfl⟩
 have HR:=hid hr
 have HA:=hid hA
 have H8:=hid h8
 have HLN:=hid hln
 by_cases he:e=0
 ·obtain rfl:=he
  have hinv:=zey h8 hr
  have hv64:v<18446744073709551616:=hinv.2.2.2
  have han:a≤n:=by rw [←hln];exact hinv.2.1
  by_cases hbig:16388<v
  ·clear hA h8 hln ht hinv hr hA0
   have hbi:¬(v:Int)≤16388:=by omega
   go_enter Tryz.func79,Tryz.ntmps79
   go_wp2_with (first
    | (go_at_call 113;((with_reducible refine (zck A l n c _ (by omega) HLN.out H8.out HA.out).mono ?_);rintro e w' ⟨rfl,rfl⟩;rw [HR.out])))
   go_ret3
   exact ⟨rfl,Below.refl _ _⟩
  ·have ha3:a≤3:=by rw [hinv.1];exact zdh (by omega)
   by_cases hlong:n<a+v
   ·clear hA h8 hln ht hinv hr hA0
    have hlo:¬(a:Int)+(v:Int)≤(n:Int):=by omega
    have hbi:(v:Int)≤16388:=by omega
    go_enter Tryz.func79,Tryz.ntmps79
    go_wp2_with (first
     | (go_at_call 113;((with_reducible refine (zck A l n c _ (by omega) HLN.out H8.out HA.out).mono ?_);rintro e w' ⟨rfl,rfl⟩;rw [HR.out])))
    go_ret3
    exact ⟨rfl,Below.refl _ _⟩
   ·have hlen:a+v≤n:=by omega
    obtain ⟨A1,hrun,_,hs1⟩:=zkg (a:=a) (v:=v) hln hlen hc hA hA0
    have hlen2:(a:Int)+(v:Int)≤(n:Int):=by omega
    have hcap:v≤c - a:=by omega
    have hbi:(v:Int)≤16388:=by omega
    by_cases h4:v<4
    ·clear hA h8 hln ht hinv hr hA0 hs1
     go_enter Tryz.func79,Tryz.ntmps79
     go_wp2_with (first
      | (go_at_call 113;((with_reducible refine (zck A l n c _ (by omega) HLN.out H8.out HA.out).mono ?_);rintro e w' ⟨rfl,rfl⟩;rw [HR.out]))
      | (go_at_call 114;((with_reducible refine (zni A1 v (c - a) _ h4).mono ?_);rintro e w2 ⟨rfl,rfl⟩)))
     go_ret3
     exact ⟨rfl,Below.refl _ _⟩
    ·obtain ⟨p,t,hpt,hp,htl⟩:∃p t,(l.drop a).take v=p ++ t∧p.length=v - 4∧t.length=4:=by
      have hL:((l.drop a).take v).length=v:=by rw [List.length_take,List.length_drop];omega
      exact ⟨((l.drop a).take v).take (v - 4),((l.drop a).take v).drop (v - 4),(List.take_append_drop _ _).symm,by rw [List.length_take];omega,by rw [List.length_drop];omega⟩
     have hxs:∀x∈p ++ t,x<256:=fun x hx=>h8 x (List.mem_of_mem_drop (List.mem_of_mem_take (hpt ▸ hx)))
     have HNE:Hid (t≠le4 (zcZ p)):=hid (fun h=>by
      obtain ⟨e1,e2,e3⟩:=zrP h8 hr (by omega) p t hpt htl h
      exact ht p _ (by omega) e1)
     rw [hpt] at hs1
     obtain ⟨b,o,rfl⟩:=zkx hs1 (by rw [List.length_append];omega)
     have HS1:=hid hs1
     have XP:Hid (∀x∈p,x<256):=hid (fun x hx=>hxs x (List.mem_append_left _ hx))
     have XT:Hid (∀x∈t,x<256):=hid (fun x hx=>hxs x (List.mem_append_right _ hx))
     obtain ⟨q,hq⟩:∃q,q=v - 4:=⟨_,rfl⟩
     have HV:Hid (v=q+4):=hid (by omega)
     have HQ:Hid (p.length=q):=hid (by omega)
     have HT:=hid htl
     have hq9:q≤16384:=by omega
     clear hA h8 hln ht hinv hr hA0 hs1 hpt hp htl hxs hq
     go_enter Tryz.func79,Tryz.ntmps79
     go_wp2_with (first
      | (go_at_call 113;((with_reducible refine (zck A l n c _ (by omega) HLN.out H8.out HA.out).mono ?_);rintro e w' ⟨rfl,rfl⟩;rw [HR.out]))
      | (go_at_call 114;((with_reducible refine (zrU b o p t q v (c - a) _ HV.out HQ.out HT.out (by omega) hcap XP.out HS1.out XT.out HNE.out).mono ?_);rintro e w2 ⟨rfl,hb⟩;have HB:=hid hb;clear hb)))
     go_ret3
     exact ⟨rfl,HB.out⟩
 ·have he2:¬(e:Int)=0:=by omega
  clear hA h8 hln ht hr hA0
  go_enter Tryz.func79,Tryz.ntmps79
  go_wp2_with (first
   | (go_at_call 113;((with_reducible refine (zck A l n c _ (by omega) HLN.out H8.out HA.out).mono ?_);rintro e w' ⟨rfl,rfl⟩;rw [HR.out])))
  go_ret3
  exact ⟨rfl,Below.refl _ _⟩
end Go.Proofs.YtnjdckoljmgcjaaGreatDoor
