/-
  The mathematics of the order of paths: lists of lists of bytes, part by part. No program in it.
-/
import Derived.Test.YtnjdckoljmgcjaaGreatDoorW02
import Derived.Maps.OwnSet
import Derived.Maps.Views
import Derived.Maps.Ext
import Derived.DeepKeys4
import Derived.WalkArith
import Derived.Lib.Bytealg
set_option maxRecDepth 100000
set_option maxHeartbeats 4000000
namespace Go.Proofs.YtnjdckoljmgcjaaGreatDoor
open Go.ChangeShapes Go.WideShapes Go.ChangeAt Go.RowKit
set_option linter.unusedVariables false
set_option linter.unusedSimpArgs false
theorem zaI {P : Program} {d : Nat} {xs ys : Array Value} {f : Field} {fs : List Field} {w : World} {a b : Value} {x y : Bool} (hf : f.name ≠ "_") (h1 : (part f.type xs f.offset).run P w = .ok a w) (h2 : (part f.type ys f.offset).run P w = .ok b w)
  (h3:(Op.equalIn d f.type a b).run P w=.ok x w) (h4:(Op.eqFields d xs ys fs).run P w=.ok y w):(Op.eqFields d xs ys (f :: fs)).run P w=.ok (x && y) w:=by
 simp only [Op.eqFields,if_pos hf,Sem.run_bind,h1,h2,h3,Result.andThen_ok]
 cases x
 ·simp
 ·simpa using h4
theorem ziU {P:Program} {d:Nat} {xs ys:Array Value} {w:World}:(Op.eqFields d xs ys []).run P w=.ok true w:=by simp [Op.eqFields]
def rowJ (x:J):Array Value:=#[.int .i64 x.r,.int .i64 x.s,.int .i64 x.st,.int .u32 x.bal,.int .u32 x.vote,.bool x.same,.int .i64 x.c.kind,.int .u64 x.c.num,.string x.c.foot,.int .u64 x.c.req,.string x.c.path,.int .i64 x.c.mode,.int .u64 x.c.n,.int .i64 x.c.time,.int .i64 (x.f 0),.int .i64 (x.f 1),.int .i64 (x.f 2),.int .i64 (x.f 3),.int .i64 (x.f 4),.int .i64 (x.f 5),.int .i64 (x.f 6),.int .i64 (x.f 7)]
theorem zdX (x:J):(rowJ x).size=22:=rfl
theorem zrD (r s r2 s2:Int) (b:Bool) (hb:(r == r2 && s == s2)=b) (w:World) :
  (Op.equalIn 9999 55 (.agg #[.int .i64 r,.int .i64 s]) (.agg #[.int .i64 r2,.int .i64 s2])).run Tryz.prog w=.ok b w:=by
 have ht:Tryz.prog.underlying 55=some (.struct (Tryz.prog.fieldsOf 55)):=by kernel_rfl
 have hp:Tryz.prog.stoodInHeld 55=false:=by kernel_rfl
 rw [run_equalIn_struct w 9998 _ _ _ ht hp]
 have p1:=run_part_plain (P:=Tryz.prog) (w:=w) (e:=3) (by kernel_rfl) (xs:=#[.int .i64 r,.int .i64 s]) (off:=0) rfl
 have p2:=run_part_plain (P:=Tryz.prog) (w:=w) (e:=3) (by kernel_rfl) (xs:=#[.int .i64 r,.int .i64 s]) (off:=1) rfl
 have p3:=run_part_plain (P:=Tryz.prog) (w:=w) (e:=3) (by kernel_rfl) (xs:=#[.int .i64 r2,.int .i64 s2]) (off:=0) rfl
 have p4:=run_part_plain (P:=Tryz.prog) (w:=w) (e:=3) (by kernel_rfl) (xs:=#[.int .i64 r2,.int .i64 s2]) (off:=1) rfl
 have q1:=run_equalIn_int (P:=Tryz.prog) w 9997 3 .i64 .i64 r r2 Tryz.underlying3
 have q2:=run_equalIn_int (P:=Tryz.prog) w 9997 3 .i64 .i64 s s2 Tryz.underlying3
 subst hb
 cases h:(r == r2) <;> simp [Program.fieldsOf,Tryz.underlying55,Op.eqFields,p1,p2,p3,p4,q1,q2,h,Sem.run_bind,Sem.run_ite,Result.andThen_ok]
 by_cases h2:s=s2 <;> simp [h2]
theorem zsD (u:Int) (f:ByteArray) (u2:Int) (f2:ByteArray) (w:World) :
  (Op.equalIn 9998 59 (.agg #[.int .u64 u,.string f]) (.agg #[.int .u64 u2,.string f2])).run Tryz.prog w=.ok (u == u2 && decide (f=f2)) w:=by
 have ht:Tryz.prog.underlying 59=some (.struct (Tryz.prog.fieldsOf 59)):=by kernel_rfl
 have hp:Tryz.prog.stoodInHeld 59=false:=by kernel_rfl
 rw [run_equalIn_struct w 9997 _ _ _ ht hp]
 have p1:=run_part_plain (P:=Tryz.prog) (w:=w) (e:=51) (by kernel_rfl) (xs:=#[.int .u64 u,.string f]) (off:=0) rfl
 have p2:=run_part_plain (P:=Tryz.prog) (w:=w) (e:=9) (by kernel_rfl) (xs:=#[.int .u64 u,.string f]) (off:=1) rfl
 have p3:=run_part_plain (P:=Tryz.prog) (w:=w) (e:=51) (by kernel_rfl) (xs:=#[.int .u64 u2,.string f2]) (off:=0) rfl
 have p4:=run_part_plain (P:=Tryz.prog) (w:=w) (e:=9) (by kernel_rfl) (xs:=#[.int .u64 u2,.string f2]) (off:=1) rfl
 have q1:=run_equalIn_int (P:=Tryz.prog) w 9996 51 .u64 .u64 u u2 Tryz.underlying51
 have q2:=run_equalIn_string (P:=Tryz.prog) w 9996 9 f f2 Tryz.underlying9
 rw [zdz] at q2
 cases h:(u == u2) <;> simp [Program.fieldsOf,Tryz.underlying59,Op.eqFields,p1,p2,p3,p4,q1,q2,h,Sem.run_bind,Sem.run_ite,Result.andThen_ok]
 by_cases h2:f=f2 <;> simp [h2]
theorem zqN (k u:Int) (f:ByteArray) (q:Int) (s:ByteArray) (m n t k' u':Int) (f':ByteArray) (q':Int) (s':ByteArray) (m' n' t':Int) (w:World) :
  (Op.equalIn 9999 61 (val ⟨k,u,f,q,s,m,n,t⟩) (val ⟨k',u',f',q',s',m',n',t'⟩)).run Tryz.prog w=.ok ((k == k') && ((u == u' && decide (f=f')) && ((q == q') && (decide (s=s') && ((m == m') && ((n == n') && (t == t'))))))) w:=by
 have ht:Tryz.prog.underlying 61=some (.struct (Tryz.prog.fieldsOf 61)):=by kernel_rfl
 have hp:Tryz.prog.stoodInHeld 61=false:=by kernel_rfl
 rw [run_equalIn_struct w 9998 _ _ _ ht hp]
 have s1:=zc0 k u f q s m n t w
 have s2:=zc0 k' u' f' q' s' m' n' t' w
 have s3:=zsD u f u' f' w
 have a0:=run_part_plain (P:=Tryz.prog) (w:=w) (e:=3) (by kernel_rfl) (xs:=#[.int .i64 k,.int .u64 u,.string f,.int .u64 q,.string s,.int .i64 m,.int .u64 n,.int .i64 t]) (off:=0) rfl
 have b0:=run_part_plain (P:=Tryz.prog) (w:=w) (e:=3) (by kernel_rfl) (xs:=#[.int .i64 k',.int .u64 u',.string f',.int .u64 q',.string s',.int .i64 m',.int .u64 n',.int .i64 t']) (off:=0) rfl
 have e0:=run_equalIn_int (P:=Tryz.prog) w 9997 3 .i64 .i64 k k' Tryz.underlying3
 have a1:=run_part_plain (P:=Tryz.prog) (w:=w) (e:=51) (by kernel_rfl) (xs:=#[.int .i64 k,.int .u64 u,.string f,.int .u64 q,.string s,.int .i64 m,.int .u64 n,.int .i64 t]) (off:=3) rfl
 have b1:=run_part_plain (P:=Tryz.prog) (w:=w) (e:=51) (by kernel_rfl) (xs:=#[.int .i64 k',.int .u64 u',.string f',.int .u64 q',.string s',.int .i64 m',.int .u64 n',.int .i64 t']) (off:=3) rfl
 have e1:=run_equalIn_int (P:=Tryz.prog) w 9997 51 .u64 .u64 q q' Tryz.underlying51
 have a2:=run_part_plain (P:=Tryz.prog) (w:=w) (e:=9) (by kernel_rfl) (xs:=#[.int .i64 k,.int .u64 u,.string f,.int .u64 q,.string s,.int .i64 m,.int .u64 n,.int .i64 t]) (off:=4) rfl
 have b2:=run_part_plain (P:=Tryz.prog) (w:=w) (e:=9) (by kernel_rfl) (xs:=#[.int .i64 k',.int .u64 u',.string f',.int .u64 q',.string s',.int .i64 m',.int .u64 n',.int .i64 t']) (off:=4) rfl
 have e2:=run_equalIn_string (P:=Tryz.prog) w 9997 9 s s' Tryz.underlying9
 rw [zdz] at e2
 have a3:=run_part_plain (P:=Tryz.prog) (w:=w) (e:=3) (by kernel_rfl) (xs:=#[.int .i64 k,.int .u64 u,.string f,.int .u64 q,.string s,.int .i64 m,.int .u64 n,.int .i64 t]) (off:=5) rfl
 have b3:=run_part_plain (P:=Tryz.prog) (w:=w) (e:=3) (by kernel_rfl) (xs:=#[.int .i64 k',.int .u64 u',.string f',.int .u64 q',.string s',.int .i64 m',.int .u64 n',.int .i64 t']) (off:=5) rfl
 have e3:=run_equalIn_int (P:=Tryz.prog) w 9997 3 .i64 .i64 m m' Tryz.underlying3
 have a4:=run_part_plain (P:=Tryz.prog) (w:=w) (e:=51) (by kernel_rfl) (xs:=#[.int .i64 k,.int .u64 u,.string f,.int .u64 q,.string s,.int .i64 m,.int .u64 n,.int .i64 t]) (off:=6) rfl
 have b4:=run_part_plain (P:=Tryz.prog) (w:=w) (e:=51) (by kernel_rfl) (xs:=#[.int .i64 k',.int .u64 u',.string f',.int .u64 q',.string s',.int .i64 m',.int .u64 n',.int .i64 t']) (off:=6) rfl
 have e4:=run_equalIn_int (P:=Tryz.prog) w 9997 51 .u64 .u64 n n' Tryz.underlying51
 have a5:=run_part_plain (P:=Tryz.prog) (w:=w) (e:=3) (by kernel_rfl) (xs:=#[.int .i64 k,.int .u64 u,.string f,.int .u64 q,.string s,.int .i64 m,.int .u64 n,.int .i64 t]) (off:=7) rfl
 have b5:=run_part_plain (P:=Tryz.prog) (w:=w) (e:=3) (by kernel_rfl) (xs:=#[.int .i64 k',.int .u64 u',.string f',.int .u64 q',.string s',.int .i64 m',.int .u64 n',.int .i64 t']) (off:=7) rfl
 have e5:=run_equalIn_int (P:=Tryz.prog) w 9997 3 .i64 .i64 t t' Tryz.underlying3
 obtain ⟨x0,hx0⟩:∃x,(k == k')=x:=⟨_,rfl⟩
 rw [hx0] at e0 ⊢
 obtain ⟨x1,hx1⟩:∃x,(u == u' && decide (f=f'))=x:=⟨_,rfl⟩
 rw [hx1] at s3 ⊢
 obtain ⟨x2,hx2⟩:∃x,(q == q')=x:=⟨_,rfl⟩
 rw [hx2] at e1 ⊢
 obtain ⟨x3,hx3⟩:∃x,decide (s=s')=x:=⟨_,rfl⟩
 rw [hx3] at e2 ⊢
 obtain ⟨x4,hx4⟩:∃x,(m == m')=x:=⟨_,rfl⟩
 rw [hx4] at e3 ⊢
 obtain ⟨x5,hx5⟩:∃x,(n == n')=x:=⟨_,rfl⟩
 rw [hx5] at e4 ⊢
 obtain ⟨x6,hx6⟩:∃x,(t == t')=x:=⟨_,rfl⟩
 rw [hx6] at e5 ⊢
 clear hx0 hx1 hx2 hx3 hx4 hx5 hx6 ht hp
 simp only [Program.fieldsOf,Tryz.underlying61]
 cases x0 <;> cases x1 <;> cases x2 <;> cases x3 <;> cases x4 <;> cases x5 <;> simp [Op.eqFields,s1,s2,s3,a0,b0,e0,a1,b1,e1,a2,b2,e2,a3,b3,e3,a4,b4,e4,a5,b5,e5,Sem.run_bind,Sem.run_ite,Result.andThen_ok]
 cases x6 <;> rfl
theorem ztv (c d:K) (b:Bool) (hb:decide (c=d)=b) (w:World):(Op.equalIn 9999 61 (val c) (val d)).run Tryz.prog w=.ok b w:=by
 subst hb
 obtain ⟨k,u,f,q,s,m,n,t⟩:=c
 obtain ⟨k',u',f',q',s',m',n',t'⟩:=d
 rw [zqw]
 exact zqN k u f q s m n t k' u' f' q' s' m' n' t' w
theorem zsk (f g:Nat→Int) (b:Bool) (hb:eqA f g=b) (w:World):(Op.equalIn 9999 64 (.agg #[.int .i64 (f 0),.int .i64 (f 1),.int .i64 (f 2),.int .i64 (f 3),.int .i64 (f 4),.int .i64 (f 5),.int .i64 (f 6),.int .i64 (f 7)]) (.agg #[.int .i64 (g 0),.int .i64 (g 1),.int .i64 (g 2),.int .i64 (g 3),.int .i64 (g 4),.int .i64 (g 5),.int .i64 (g 6),.int .i64 (g 7)])).run Tryz.prog w=.ok b w:=by
 have ht:Tryz.prog.underlying 64=some (.struct (Tryz.prog.fieldsOf 64)):=by kernel_rfl
 have hp:Tryz.prog.stoodInHeld 64=false:=by kernel_rfl
 rw [run_equalIn_struct w 9998 _ _ _ ht hp]
 have p0:=run_part_plain (P:=Tryz.prog) (w:=w) (e:=3) (by kernel_rfl) (xs:=cs8 f) (off:=0) rfl
 have q0:=run_part_plain (P:=Tryz.prog) (w:=w) (e:=3) (by kernel_rfl) (xs:=cs8 g) (off:=0) rfl
 have p1:=zcP f w
 have q1:=zcP g w
 have e0:=run_equalIn_int (P:=Tryz.prog) w 9997 3 .i64 .i64 (f 0) (g 0) Tryz.underlying3
 have e1:=zgy f g 9996 w
 subst hb
 unfold eqA
 obtain ⟨x,hx⟩:∃x,(f 0 == g 0)=x:=⟨_,rfl⟩
 rw [hx] at e0 ⊢
 obtain ⟨y,hy⟩:∃y,eqD f g=y:=⟨_,rfl⟩
 rw [hy] at e1 ⊢
 cases x <;> cases y <;> simp [Program.fieldsOf,Tryz.underlying64,Op.eqFields,p0,p1,q0,q1,e0,e1,Sem.run_bind,Sem.run_ite,Result.andThen_ok]
theorem zpw (r s r2 s2:Int) (b:Bool) (hb:(r == r2 && s == s2)=b) (w:World) :
  (Op.equalIn 9999 78 (.agg #[.int .i64 r,.int .i64 s]) (.agg #[.int .i64 r2,.int .i64 s2])).run Tryz.prog w=.ok b w:=by
 have ht:Tryz.prog.underlying 78=some (.struct (Tryz.prog.fieldsOf 78)):=by kernel_rfl
 have hp:Tryz.prog.stoodInHeld 78=false:=by kernel_rfl
 rw [run_equalIn_struct w 9998 _ _ _ ht hp]
 have p1:=run_part_plain (P:=Tryz.prog) (w:=w) (e:=3) (by kernel_rfl) (xs:=#[.int .i64 r,.int .i64 s]) (off:=0) rfl
 have p2:=run_part_plain (P:=Tryz.prog) (w:=w) (e:=3) (by kernel_rfl) (xs:=#[.int .i64 r,.int .i64 s]) (off:=1) rfl
 have p3:=run_part_plain (P:=Tryz.prog) (w:=w) (e:=3) (by kernel_rfl) (xs:=#[.int .i64 r2,.int .i64 s2]) (off:=0) rfl
 have p4:=run_part_plain (P:=Tryz.prog) (w:=w) (e:=3) (by kernel_rfl) (xs:=#[.int .i64 r2,.int .i64 s2]) (off:=1) rfl
 have q1:=run_equalIn_int (P:=Tryz.prog) w 9997 3 .i64 .i64 r r2 Tryz.underlying3
 have q2:=run_equalIn_int (P:=Tryz.prog) w 9997 3 .i64 .i64 s s2 Tryz.underlying3
 subst hb
 cases h:(r == r2) <;> simp [Program.fieldsOf,Tryz.underlying78,Op.eqFields,p1,p2,p3,p4,q1,q2,h,Sem.run_bind,Sem.run_ite,Result.andThen_ok]
 by_cases h2:s=s2 <;> simp [h2]
theorem zmG (k u:Int) (f:ByteArray) (q:Int) (s:ByteArray) (m n t k' u':Int) (f':ByteArray) (q':Int) (s':ByteArray) (m' n' t':Int) :
  decide ((⟨k,u,f,q,s,m,n,t⟩:K)=⟨k',u',f',q',s',m',n',t'⟩)=((k == k') && ((u == u') && (decide (f=f') && ((q == q') && (decide (s=s') && ((m == m') && ((n == n') && ((t == t') && true)))))))):=by
 rw [Bool.eq_iff_iff]
 simp [and_assoc]
theorem znY (k u:Int) (f:ByteArray) (q:Int) (s:ByteArray) (m n t k' u':Int) (f':ByteArray) (q':Int) (s':ByteArray) (m' n' t':Int) (w:World) :
  (Op.equalIn 9999 80 (val ⟨k,u,f,q,s,m,n,t⟩) (val ⟨k',u',f',q',s',m',n',t'⟩)).run Tryz.prog w=.ok ((k == k') && ((u == u') && (decide (f=f') && ((q == q') && (decide (s=s') && ((m == m') && ((n == n') && ((t == t') && true)))))))) w:=by
 have ht:Tryz.prog.underlying 80=some (.struct (Tryz.prog.fieldsOf 80)):=by kernel_rfl
 have hp:Tryz.prog.stoodInHeld 80=false:=by kernel_rfl
 rw [run_equalIn_struct w 9998 _ _ _ ht hp]
 have a0:=run_part_plain (P:=Tryz.prog) (w:=w) (e:=3) (by kernel_rfl) (xs:=#[.int .i64 k,.int .u64 u,.string f,.int .u64 q,.string s,.int .i64 m,.int .u64 n,.int .i64 t]) (off:=0) rfl
 have b0:=run_part_plain (P:=Tryz.prog) (w:=w) (e:=3) (by kernel_rfl) (xs:=#[.int .i64 k',.int .u64 u',.string f',.int .u64 q',.string s',.int .i64 m',.int .u64 n',.int .i64 t']) (off:=0) rfl
 have e0:=run_equalIn_int (P:=Tryz.prog) w 9997 3 .i64 .i64 k k' Tryz.underlying3
 have a1:=run_part_plain (P:=Tryz.prog) (w:=w) (e:=51) (by kernel_rfl) (xs:=#[.int .i64 k,.int .u64 u,.string f,.int .u64 q,.string s,.int .i64 m,.int .u64 n,.int .i64 t]) (off:=1) rfl
 have b1:=run_part_plain (P:=Tryz.prog) (w:=w) (e:=51) (by kernel_rfl) (xs:=#[.int .i64 k',.int .u64 u',.string f',.int .u64 q',.string s',.int .i64 m',.int .u64 n',.int .i64 t']) (off:=1) rfl
 have e1:=run_equalIn_int (P:=Tryz.prog) w 9997 51 .u64 .u64 u u' Tryz.underlying51
 have a2:=run_part_plain (P:=Tryz.prog) (w:=w) (e:=9) (by kernel_rfl) (xs:=#[.int .i64 k,.int .u64 u,.string f,.int .u64 q,.string s,.int .i64 m,.int .u64 n,.int .i64 t]) (off:=2) rfl
 have b2:=run_part_plain (P:=Tryz.prog) (w:=w) (e:=9) (by kernel_rfl) (xs:=#[.int .i64 k',.int .u64 u',.string f',.int .u64 q',.string s',.int .i64 m',.int .u64 n',.int .i64 t']) (off:=2) rfl
 have e2:=run_equalIn_string (P:=Tryz.prog) w 9997 9 f f' Tryz.underlying9
 rw [zdz] at e2
 have a3:=run_part_plain (P:=Tryz.prog) (w:=w) (e:=51) (by kernel_rfl) (xs:=#[.int .i64 k,.int .u64 u,.string f,.int .u64 q,.string s,.int .i64 m,.int .u64 n,.int .i64 t]) (off:=3) rfl
 have b3:=run_part_plain (P:=Tryz.prog) (w:=w) (e:=51) (by kernel_rfl) (xs:=#[.int .i64 k',.int .u64 u',.string f',.int .u64 q',.string s',.int .i64 m',.int .u64 n',.int .i64 t']) (off:=3) rfl
 have e3:=run_equalIn_int (P:=Tryz.prog) w 9997 51 .u64 .u64 q q' Tryz.underlying51
 have a4:=run_part_plain (P:=Tryz.prog) (w:=w) (e:=9) (by kernel_rfl) (xs:=#[.int .i64 k,.int .u64 u,.string f,.int .u64 q,.string s,.int .i64 m,.int .u64 n,.int .i64 t]) (off:=4) rfl
 have b4:=run_part_plain (P:=Tryz.prog) (w:=w) (e:=9) (by kernel_rfl) (xs:=#[.int .i64 k',.int .u64 u',.string f',.int .u64 q',.string s',.int .i64 m',.int .u64 n',.int .i64 t']) (off:=4) rfl
 have e4:=run_equalIn_string (P:=Tryz.prog) w 9997 9 s s' Tryz.underlying9
 rw [zdz] at e4
 have a5:=run_part_plain (P:=Tryz.prog) (w:=w) (e:=3) (by kernel_rfl) (xs:=#[.int .i64 k,.int .u64 u,.string f,.int .u64 q,.string s,.int .i64 m,.int .u64 n,.int .i64 t]) (off:=5) rfl
 have b5:=run_part_plain (P:=Tryz.prog) (w:=w) (e:=3) (by kernel_rfl) (xs:=#[.int .i64 k',.int .u64 u',.string f',.int .u64 q',.string s',.int .i64 m',.int .u64 n',.int .i64 t']) (off:=5) rfl
 have e5:=run_equalIn_int (P:=Tryz.prog) w 9997 3 .i64 .i64 m m' Tryz.underlying3
 have a6:=run_part_plain (P:=Tryz.prog) (w:=w) (e:=51) (by kernel_rfl) (xs:=#[.int .i64 k,.int .u64 u,.string f,.int .u64 q,.string s,.int .i64 m,.int .u64 n,.int .i64 t]) (off:=6) rfl
 have b6:=run_part_plain (P:=Tryz.prog) (w:=w) (e:=51) (by kernel_rfl) (xs:=#[.int .i64 k',.int .u64 u',.string f',.int .u64 q',.string s',.int .i64 m',.int .u64 n',.int .i64 t']) (off:=6) rfl
 have e6:=run_equalIn_int (P:=Tryz.prog) w 9997 51 .u64 .u64 n n' Tryz.underlying51
 have a7:=run_part_plain (P:=Tryz.prog) (w:=w) (e:=3) (by kernel_rfl) (xs:=#[.int .i64 k,.int .u64 u,.string f,.int .u64 q,.string s,.int .i64 m,.int .u64 n,.int .i64 t]) (off:=7) rfl
 have b7:=run_part_plain (P:=Tryz.prog) (w:=w) (e:=3) (by kernel_rfl) (xs:=#[.int .i64 k',.int .u64 u',.string f',.int .u64 q',.string s',.int .i64 m',.int .u64 n',.int .i64 t']) (off:=7) rfl
 have e7:=run_equalIn_int (P:=Tryz.prog) w 9997 3 .i64 .i64 t t' Tryz.underlying3
 simp only [Program.fieldsOf,Tryz.underlying80]
 exact zaI (by decide) a0 b0 e0 (zaI (by decide) a1 b1 e1 (zaI (by decide) a2 b2 e2 (zaI (by decide) a3 b3 e3 (zaI (by decide) a4 b4 e4 (zaI (by decide) a5 b5 e5 (zaI (by decide) a6 b6 e6 (zaI (by decide) a7 b7 e7 ziU)))))))
theorem zsW (c d:K) (b:Bool) (hb:decide (c=d)=b) (w:World):(Op.equalIn 9999 80 (val c) (val d)).run Tryz.prog w=.ok b w:=by
 subst hb
 obtain ⟨k,u,f,q,s,m,n,t⟩:=c
 obtain ⟨k',u',f',q',s',m',n',t'⟩:=d
 rw [zmG]
 exact znY k u f q s m n t k' u' f' q' s' m' n' t' w
theorem zsw (f g:Nat→Int) (b:Bool) (hb:eqA f g=b) (w:World):(Op.equalIn 9999 81 (.agg #[.int .i64 (f 0),.int .i64 (f 1),.int .i64 (f 2),.int .i64 (f 3),.int .i64 (f 4),.int .i64 (f 5),.int .i64 (f 6),.int .i64 (f 7)]) (.agg #[.int .i64 (g 0),.int .i64 (g 1),.int .i64 (g 2),.int .i64 (g 3),.int .i64 (g 4),.int .i64 (g 5),.int .i64 (g 6),.int .i64 (g 7)])).run Tryz.prog w=.ok b w:=by
 have ht:Tryz.prog.underlying 81=some (.struct (Tryz.prog.fieldsOf 81)):=by kernel_rfl
 have hp:Tryz.prog.stoodInHeld 81=false:=by kernel_rfl
 rw [run_equalIn_struct w 9998 _ _ _ ht hp]
 have p0:=run_part_plain (P:=Tryz.prog) (w:=w) (e:=3) (by kernel_rfl) (xs:=cs8 f) (off:=0) rfl
 have q0:=run_part_plain (P:=Tryz.prog) (w:=w) (e:=3) (by kernel_rfl) (xs:=cs8 g) (off:=0) rfl
 have p1:=zcP f w
 have q1:=zcP g w
 have e0:=run_equalIn_int (P:=Tryz.prog) w 9997 3 .i64 .i64 (f 0) (g 0) Tryz.underlying3
 have e1:=zgy f g 9996 w
 subst hb
 unfold eqA
 obtain ⟨x,hx⟩:∃x,(f 0 == g 0)=x:=⟨_,rfl⟩
 rw [hx] at e0 ⊢
 obtain ⟨y,hy⟩:∃y,eqD f g=y:=⟨_,rfl⟩
 rw [hy] at e1 ⊢
 cases x <;> cases y <;> simp [Program.fieldsOf,Tryz.underlying81,Op.eqFields,p0,p1,q0,q1,e0,e1,Sem.run_bind,Sem.run_ite,Result.andThen_ok]
theorem zgU (d:Nat) (a b:Bool) (w:World):(Op.equalIn (d+1) 4 (.bool a) (.bool b)).run Tryz.prog w=.ok (a == b) w:=by
 exact run_equalIn_bool w d 4 a b Tryz.underlying4
theorem zfk (x:J) (T:TypeId) (hT:T=55∨T=78) (w:World):(part T (rowJ x) 0).run Tryz.prog w=.ok (.agg #[.int .i64 x.r,.int .i64 x.s]) w:=by
 rcases hT with rfl | rfl <;> simp [go_sem,part,rowJ]
theorem zgr (x:J) (T:TypeId) (hT:T=61∨T=80) (w:World):(part T (rowJ x) 6).run Tryz.prog w=.ok (val x.c) w:=by
 rcases hT with rfl | rfl <;> simp [go_sem,part,rowJ]
theorem zfw (x:J) (T:TypeId) (hT:T=64∨T=81) (w:World):(part T (rowJ x) 14).run Tryz.prog w=.ok (va x.f) w:=by
 rcases hT with rfl | rfl <;> simp [go_sem,part,rowJ]
theorem zqB (x y:J) (b:Bool) (hb:eqJ x y=b) (w:World):(Op.equalIn 10000 66 (.agg (rowJ x)) (.agg (rowJ y))).run Tryz.prog w=.ok b w:=by
 have ht:Tryz.prog.underlying 66=some (.struct (Tryz.prog.fieldsOf 66)):=by kernel_rfl
 have hp:Tryz.prog.stoodInHeld 66=false:=by kernel_rfl
 rw [run_equalIn_struct w 9999 _ _ _ ht hp]
 have x0:=zfk x 55 (.inl rfl) w
 have x5:=zgr x 61 (.inl rfl) w
 have x6:=zfw x 64 (.inl rfl) w
 have x1:=run_part_plain (P:=Tryz.prog) (w:=w) (e:=3) (by kernel_rfl) (xs:=rowJ x) (off:=2) (v:=.int .i64 x.st) rfl
 have x2:=run_part_plain (P:=Tryz.prog) (w:=w) (e:=57) (by kernel_rfl) (xs:=rowJ x) (off:=3) (v:=.int .u32 x.bal) rfl
 have x3:=run_part_plain (P:=Tryz.prog) (w:=w) (e:=57) (by kernel_rfl) (xs:=rowJ x) (off:=4) (v:=.int .u32 x.vote) rfl
 have x4:=run_part_plain (P:=Tryz.prog) (w:=w) (e:=4) (by kernel_rfl) (xs:=rowJ x) (off:=5) (v:=.bool x.same) rfl
 have y0:=zfk y 55 (.inl rfl) w
 have y5:=zgr y 61 (.inl rfl) w
 have y6:=zfw y 64 (.inl rfl) w
 have y1:=run_part_plain (P:=Tryz.prog) (w:=w) (e:=3) (by kernel_rfl) (xs:=rowJ y) (off:=2) (v:=.int .i64 y.st) rfl
 have y2:=run_part_plain (P:=Tryz.prog) (w:=w) (e:=57) (by kernel_rfl) (xs:=rowJ y) (off:=3) (v:=.int .u32 y.bal) rfl
 have y3:=run_part_plain (P:=Tryz.prog) (w:=w) (e:=57) (by kernel_rfl) (xs:=rowJ y) (off:=4) (v:=.int .u32 y.vote) rfl
 have y4:=run_part_plain (P:=Tryz.prog) (w:=w) (e:=4) (by kernel_rfl) (xs:=rowJ y) (off:=5) (v:=.bool y.same) rfl
 have e0:=zrD x.r x.s y.r y.s _ rfl w
 have e1:=run_equalIn_int (P:=Tryz.prog) w 9998 3 .i64 .i64 x.st y.st Tryz.underlying3
 have e2:=run_equalIn_int (P:=Tryz.prog) w 9998 57 .u32 .u32 x.bal y.bal Tryz.underlying57
 have e3:=run_equalIn_int (P:=Tryz.prog) w 9998 57 .u32 .u32 x.vote y.vote Tryz.underlying57
 have e4:=zgU 9998 x.same y.same w
 have e5:=ztv x.c y.c _ rfl w
 have e6:=zsk x.f y.f _ rfl w
 subst hb
 have hE:eqJ x y=((x.r == y.r && x.s == y.s) && ((x.st == y.st) && ((x.bal == y.bal) && ((x.vote == y.vote) && ((x.same == y.same) && (decide (x.c=y.c) && (eqA x.f y.f && true))))))):=by unfold eqJ;rw [Bool.and_true]
 rw [hE]
 clear hE
 simp only [Program.fieldsOf,Tryz.underlying66]
 exact zaI (by decide) x0 y0 e0 (zaI (by decide) x1 y1 e1 (zaI (by decide) x2 y2 e2 (zaI (by decide) x3 y3 e3 (zaI (by decide) x4 y4 e4 (zaI (by decide) x5 y5 e5 (zaI (by decide) x6 y6 e6 ziU))))))
theorem ztc (x y:J) (b:Bool) (hb:eqJ x y=b) (w:World):(Op.equalIn 10000 83 (.agg (rowJ x)) (.agg (rowJ y))).run Tryz.prog w=.ok b w:=by
 have ht:Tryz.prog.underlying 83=some (.struct (Tryz.prog.fieldsOf 83)):=by kernel_rfl
 have hp:Tryz.prog.stoodInHeld 83=false:=by kernel_rfl
 rw [run_equalIn_struct w 9999 _ _ _ ht hp]
 have x0:=zfk x 78 (.inr rfl) w
 have x5:=zgr x 80 (.inr rfl) w
 have x6:=zfw x 81 (.inr rfl) w
 have x1:=run_part_plain (P:=Tryz.prog) (w:=w) (e:=3) (by kernel_rfl) (xs:=rowJ x) (off:=2) (v:=.int .i64 x.st) rfl
 have x2:=run_part_plain (P:=Tryz.prog) (w:=w) (e:=56) (by kernel_rfl) (xs:=rowJ x) (off:=3) (v:=.int .u32 x.bal) rfl
 have x3:=run_part_plain (P:=Tryz.prog) (w:=w) (e:=56) (by kernel_rfl) (xs:=rowJ x) (off:=4) (v:=.int .u32 x.vote) rfl
 have x4:=run_part_plain (P:=Tryz.prog) (w:=w) (e:=4) (by kernel_rfl) (xs:=rowJ x) (off:=5) (v:=.bool x.same) rfl
 have y0:=zfk y 78 (.inr rfl) w
 have y5:=zgr y 80 (.inr rfl) w
 have y6:=zfw y 81 (.inr rfl) w
 have y1:=run_part_plain (P:=Tryz.prog) (w:=w) (e:=3) (by kernel_rfl) (xs:=rowJ y) (off:=2) (v:=.int .i64 y.st) rfl
 have y2:=run_part_plain (P:=Tryz.prog) (w:=w) (e:=56) (by kernel_rfl) (xs:=rowJ y) (off:=3) (v:=.int .u32 y.bal) rfl
 have y3:=run_part_plain (P:=Tryz.prog) (w:=w) (e:=56) (by kernel_rfl) (xs:=rowJ y) (off:=4) (v:=.int .u32 y.vote) rfl
 have y4:=run_part_plain (P:=Tryz.prog) (w:=w) (e:=4) (by kernel_rfl) (xs:=rowJ y) (off:=5) (v:=.bool y.same) rfl
 have e0:=zpw x.r x.s y.r y.s _ rfl w
 have e1:=run_equalIn_int (P:=Tryz.prog) w 9998 3 .i64 .i64 x.st y.st Tryz.underlying3
 have e2:=run_equalIn_int (P:=Tryz.prog) w 9998 56 .u32 .u32 x.bal y.bal Tryz.underlying56
 have e3:=run_equalIn_int (P:=Tryz.prog) w 9998 56 .u32 .u32 x.vote y.vote Tryz.underlying56
 have e4:=zgU 9998 x.same y.same w
 have e5:=zsW x.c y.c _ rfl w
 have e6:=zsw x.f y.f _ rfl w
 subst hb
 have hE:eqJ x y=((x.r == y.r && x.s == y.s) && ((x.st == y.st) && ((x.bal == y.bal) && ((x.vote == y.vote) && ((x.same == y.same) && (decide (x.c=y.c) && (eqA x.f y.f && true))))))):=by unfold eqJ;rw [Bool.and_true]
 rw [hE]
 clear hE
 simp only [Program.fieldsOf,Tryz.underlying83]
 exact zaI (by decide) x0 y0 e0 (zaI (by decide) x1 y1 e1 (zaI (by decide) x2 y2 e2 (zaI (by decide) x3 y3 e3 (zaI (by decide) x4 y4 e4 (zaI (by decide) x5 y5 e5 (zaI (by decide) x6 y6 e6 ziU))))))
theorem zib:Tryz.prog.eqGuardType Tryz.prog.depth 66=false:=by kernel_rfl
theorem zno:Tryz.prog.eqGuardType Tryz.prog.depth 83=false:=by kernel_rfl
end Go.Proofs.YtnjdckoljmgcjaaGreatDoor
namespace Go.Proofs.YtnjdckoljmgcjaaGreatDoor
set_option linter.unusedVariables false
def zeV (r s:Int) (x:J):Bool:=decide (x.r=r∧x.s=s)
theorem zdl {r s:Int} {x:J}:zeV r s x=true ↔ x.r=r∧x.s=s:=by simp [zeV]
def zeh (l:List J) (r s:Int):Option J:=l.reverse.find? (zeV r s)
theorem zqo (r s:Int):zeh [] r s=none:=rfl
theorem zc4 (l:List J) (x:J) (r s:Int):zeh (l ++ [x]) r s=if zeV r s x=true then some x else zeh l r s:=by
 unfold zeh
 rw [List.reverse_append]
 show List.find? (zeV r s) (x :: l.reverse)=_
 rw [List.find?_cons]
 cases zeV r s x <;> rfl
theorem zdD {l:List J} {r s:Int} {x:J} (h:zeh l r s=some x):x∈l∧x.r=r∧x.s=s:=by
 unfold zeh at h
 exact ⟨by simpa using List.mem_of_find?_eq_some h,zdl.1 (List.find?_some h)⟩
theorem zo5 {l:List J} {x:J} (h:x∈l):(zeh l x.r x.s).isSome=true:=by
 unfold zeh
 rw [List.find?_isSome]
 exact ⟨x,by simpa using h,zdl.2 ⟨rfl,rfl⟩⟩
def getV (l:List J) (r s:Int):J:=(zeh l r s).getD (newJ r s)
theorem zcN {l:List J} {r s:Int} {x:J} (h:zeh l r s=some x):getV l r s=x:=by unfold getV;rw [h];rfl
theorem zek {l:List J} {r s:Int} (h:zeh l r s=none):getV l r s=newJ r s:=by unfold getV;rw [h];rfl
theorem ztI (l:List J) (r s:Int):(getV l r s).r=r∧(getV l r s).s=s:=by
 cases h:zeh l r s with
 | none=>rw [zek h];exact ⟨rfl,rfl⟩
 | some x=>rw [zcN h];exact (zdD h).2
def hasV (l:List J) (r s:Int):Bool:=(zeh l r s).isSome
theorem zhw (l:List J) (x:J) (r s:Int):hasV (l ++ [x]) r s=(hasV l r s || zeV r s x):=by
 unfold hasV
 rw [zc4]
 cases zeV r s x <;> simp
theorem zms {l:List J} {r s:Int}:hasV l r s=true ↔ ∃x∈l,x.r=r∧x.s=s:=by
 unfold hasV
 constructor
 ·intro h
  obtain ⟨x,hx⟩:=Option.isSome_iff_exists.1 h
  exact ⟨x,zdD hx⟩
 ·rintro ⟨x,h,rfl,rfl⟩
  exact zo5 h
theorem zhO (l:List J) (x:J):getV (l ++ [x]) x.r x.s=x:=zcN (by rw [zc4,if_pos (zdl.2 ⟨rfl,rfl⟩)])
theorem zgD (l:List J) (x:J) {r s:Int} (h:zeV r s x=false):getV (l ++ [x]) r s=getV l r s:=by
 unfold getV
 rw [zc4,h]
 simp
def mayV (l:List J) (more:List J):Bool:=match more with
 | []=>true
 | x :: m=>zbf x (getV l x.r x.s) && mayV (l ++ [x]) m
theorem zl7:∀(more l:List J) (k:Nat) (hk:k<more.length),mayV l more=true→zbf more[k] (getV (l ++ more.take k) more[k].r more[k].s)=true
 | x :: m,l,0,_,h=>by
  unfold mayV at h
  simp only [Bool.and_eq_true] at h
  simpa using h.1
 | x :: m,l,k+1,hk,h=>by
  unfold mayV at h
  simp only [Bool.and_eq_true] at h
  have h2:=zl7 m (l ++ [x]) k (by simpa using hk) h.2
  simpa [List.take_succ_cons,List.append_assoc] using h2
theorem zi9:∀(more l:List J) (k:Nat) (hk:k<more.length),zbf more[k] (getV (l ++ more.take k) more[k].r more[k].s)=false→mayV l more=false
 | x :: m,l,0,_,h=>by
  unfold mayV
  simp at h
  rw [h]
  rfl
 | x :: m,l,k+1,hk,h=>by
  unfold mayV
  have h2:=zi9 m (l ++ [x]) k (by simpa using hk) (by simpa [List.take_succ_cons,List.append_assoc] using h)
  rw [h2,Bool.and_false]
theorem zmL:∀(more l:List J),(∀(k:Nat) (hk:k<more.length),zbf more[k] (getV (l ++ more.take k) more[k].r more[k].s)=true)→mayV l more=true
 | [],_,_=>rfl
 | x :: m,l,h=>by
  unfold mayV
  simp only [Bool.and_eq_true]
  refine ⟨(by
   have h0:=h 0 (by simp)
   rw [List.take_zero,List.append_nil] at h0
   exact h0),zmL m (l ++ [x]) fun k hk=>?_⟩
  have:=h (k+1) (by simpa using hk)
  simpa [List.take_succ_cons,List.append_assoc] using this
theorem ziX {x y:J} (h:zbf x y=true):zbr x=true:=by
 unfold zbf at h
 simp only [Bool.and_eq_true] at h
 exact h.1.1.1.1
theorem zit {more l:List J} (h:mayV l more=true):∀x∈more,zbr x=true:=fun x hx=>by
 obtain ⟨k,hk,rfl⟩:=List.mem_iff_getElem.1 hx
 exact ziX (zl7 more l k hk h)
abbrev IdT:Type:=Int × Int
def cmpI (x y:IdT):Int:=zky x.1 x.2 y.1 y.2
theorem zgI {x y:IdT}:cmpI x y<0 ↔ x.1<y.1∨(x.1=y.1∧x.2<y.2):=by
 unfold cmpI zky cmpN
 (repeat' split) <;> omega
theorem zqp {x y:IdT}:cmpI x y=0 ↔ x=y:=by
 rw [Prod.ext_iff]
 unfold cmpI zky cmpN
 (repeat' split) <;> omega
theorem zcM (x:IdT):cmpI x x=0:=zqp.2 rfl
theorem zmR {x y:IdT} (h:¬cmpI x y<0) (hne:x≠y):cmpI y x<0:=by
 rw [zgI] at *
 have:¬(x.1=y.1∧x.2=y.2):=fun h=>hne (Prod.ext h.1 h.2)
 omega
theorem zfL {x y z:IdT} (h1:cmpI x y<0) (h2:cmpI y z<0):cmpI x z<0:=by
 rw [zgI] at *
 omega
def zcl (l:List IdT):Prop:=l.Pairwise fun a b=>cmpI a b<0
theorem zia:∀{a b:List IdT},zcl a→zcl b→(∀x,x∈a ↔ x∈b)→a=b
 | [],[],_,_,_=>rfl
 | [],y :: b,_,_,h=>absurd ((h y).2 (by simp)) (by simp)
 | x :: a,[],_,_,h=>absurd ((h x).1 (by simp)) (by simp)
 | x :: a,y :: b,ha,hb,h=>by
  unfold zcl at ha hb
  rw [List.pairwise_cons] at ha hb
  have e:x=y:=by
   rcases List.mem_cons.1 ((h x).1 (by simp)) with h1 | h1
   ·exact h1
   ·rcases List.mem_cons.1 ((h y).2 (by simp)) with h2 | h2
    ·exact h2.symm
    ·have h3:=zfL (ha.1 y h2) (hb.1 x h1)
     rw [zcM] at h3
     omega
  subst e
  rw [zia ha.2 hb.2 fun z=>?_]
  constructor
  ·intro hz
   rcases List.mem_cons.1 ((h z).1 (by simp [hz])) with h1 | h1
   ·subst h1
    have:=ha.1 z hz
    rw [zcM] at this
    omega
   ·exact h1
  ·intro hz
   rcases List.mem_cons.1 ((h z).2 (by simp [hz])) with h1 | h1
   ·subst h1
    have:=hb.1 z hz
    rw [zcM] at this
    omega
   ·exact h1
def EntV (l:List J) (ks:List IdT):Prop:=zcl ks∧∀y:IdT,y∈ks ↔ hasV l y.1 y.2=true
theorem EntV.nil:EntV [] []:=⟨List.Pairwise.nil,fun y=>by simp [hasV,zqo]⟩
theorem EntV.ext {l:List J} {ks ks':List IdT} (h:EntV l ks) (h':EntV l ks'):ks=ks':=zia h.1 h'.1 fun x=>(h.2 x).trans (h'.2 x).symm
theorem zks (l:List J) (n:J) (y:IdT):hasV (l ++ [n]) y.1 y.2=true ↔ hasV l y.1 y.2=true∨y=(n.r,n.s):=by
 rw [zhw,Bool.or_eq_true,zdl]
 constructor
 ·rintro (h | ⟨h1,h2⟩)
  ·exact Or.inl h
  ·exact Or.inr (Prod.ext h1.symm h2.symm)
 ·rintro (h | rfl)
  ·exact Or.inl h
  ·exact Or.inr ⟨rfl,rfl⟩
theorem EntV.same {l:List J} {ks:List IdT} (h:EntV l ks) {n:J} (hk:(n.r,n.s)∈ks):EntV (l ++ [n]) ks:=⟨h.1,fun y=>by
 rw [zks]
 constructor
 ·intro hy;exact Or.inl ((h.2 y).1 hy)
 ·rintro (hy | rfl)
  ·exact (h.2 y).2 hy
  ·exact hk⟩
def zfg (ks:List IdT) (y:IdT) (k:Nat):Prop:=k≤ks.length∧(∀x∈ks.take k,cmpI x y<0)
theorem zfg.zero (ks:List IdT) (y:IdT):zfg ks y 0:=⟨Nat.zero_le _,fun x hx=>by simp at hx⟩
theorem zfg.succ {ks:List IdT} {y:IdT} {k:Nat} (h:zfg ks y k) (hk:k<ks.length) (hc:cmpI ks[k] y<0):zfg ks y (k+1):=⟨hk,fun x hx=>by
 rw [List.take_succ_eq_append_getElem hk,List.mem_append] at hx
 rcases hx with hx | hx
 ·exact h.2 x hx
 ·rw [List.mem_singleton.1 hx];exact hc⟩
theorem zge {ks:List IdT} {k:Nat} (hr:zcl ks):zcl (ks.take k)∧zcl (ks.drop k)∧∀a∈ks.take k,∀b∈ks.drop k,cmpI a b<0:=by
 have h:=hr
 unfold zcl at h
 rw [←List.take_append_drop k ks,List.pairwise_append] at h
 exact h
def NotV (ks:List IdT) (k:Nat) (y:IdT):Prop:=∀h:k<ks.length,¬cmpI ks[k] y<0∧ks[k]≠y
theorem zhB {ks:List IdT} {k:Nat} {y:IdT} (hr:zcl ks) (hk:NotV ks k y):∀x∈ks.drop k,cmpI y x<0:=by
 intro x hx
 by_cases hlt:k<ks.length
 ·obtain ⟨h1,h2⟩:=hk hlt
  have h3:=zmR h1 h2
  rw [List.drop_eq_getElem_cons hlt] at hx
  rcases List.mem_cons.1 hx with rfl | hx
  ·exact h3
  ·have h4:=(zge (k:=k) hr).2.1
   unfold zcl at h4
   rw [List.drop_eq_getElem_cons hlt,List.pairwise_cons] at h4
   exact zfL h3 (h4.1 x hx)
 ·rw [List.drop_eq_nil_of_le (by omega)] at hx
  simp at hx
theorem zfO {ks:List IdT} {k:Nat} {y:IdT} (hr:zcl ks) (hp:zfg ks y k) (hk:NotV ks k y):y ∉ ks:=by
 intro hy
 rw [←List.take_append_drop k ks,List.mem_append] at hy
 rcases hy with hy | hy
 ·have:=hp.2 y hy
  rw [zcM] at this
  omega
 ·have:=zhB hr hk y hy
  rw [zcM] at this
  omega
theorem EntV.new {l:List J} {ks:List IdT} (h:EntV l ks) {n:J} {k:Nat} (hp:zfg ks (n.r,n.s) k) (hk:NotV ks k (n.r,n.s)) :
  EntV (l ++ [n]) (ks.take k ++ [(n.r,n.s)] ++ ks.drop k):=by
 have hd:=zhB h.1 hk
 obtain ⟨h1,h2,h3⟩:=zge (k:=k) h.1
 refine ⟨?_,fun y=>?_⟩
 ·unfold zcl at *
  rw [List.append_assoc,List.pairwise_append]
  refine ⟨h1,?_,?_⟩
  ·rw [List.singleton_append,List.pairwise_cons]
   exact ⟨hd,h2⟩
  ·intro a ha b hb
   rw [List.singleton_append] at hb
   rcases List.mem_cons.1 hb with rfl | hb
   ·exact hp.2 a ha
   ·exact h3 a ha b hb
 ·rw [zks,←h.2 y]
  simp only [List.mem_append,List.mem_singleton]
  have hsplit:y∈ks ↔ y∈ks.take k∨y∈ks.drop k:=by rw [←List.mem_append,List.take_append_drop]
  rw [hsplit]
  constructor
  ·rintro ((h | h) | h)
   ·exact Or.inl (Or.inl h)
   ·exact Or.inr h
   ·exact Or.inl (Or.inr h)
  ·rintro ((h | h) | h)
   ·exact Or.inl (Or.inl h)
   ·exact Or.inr h
   ·exact Or.inl (Or.inr h)
def mkV (l:List J) (y:IdT):J:=getV l y.1 y.2
theorem zsY (l:List J) (y:IdT):(mkV l y).r=y.1∧(mkV l y).s=y.2:=ztI l y.1 y.2
theorem zj5 {l:List J} {n:J} {y:IdT} (h:y≠(n.r,n.s)):mkV (l ++ [n]) y=mkV l y:=by
 unfold mkV
 refine zgD l n ?_
 cases hc:zeV y.1 y.2 n with
 | false=>rfl
 | true=>obtain ⟨h1,h2⟩:=zdl.1 hc;exact absurd (Prod.ext h1.symm h2.symm) h
theorem zmp (l:List J) (n:J):mkV (l ++ [n]) (n.r,n.s)=n:=zhO l n
theorem zoK {l:List J} {n:J} {ks:List IdT} (hr:zcl ks) {k:Nat} (hk:k<ks.length) (he:ks[k]=(n.r,n.s)):ks.map (mkV (l ++ [n]))=(ks.map (mkV l)).set k n:=by
 apply List.ext_getElem (by simp)
 intro i h1 h2
 simp at h1
 rw [List.getElem_map,List.getElem_set]
 by_cases hi:k=i
 ·subst hi
  rw [if_pos rfl,he,zmp]
 ·rw [if_neg hi,List.getElem_map]
  refine zj5 fun e=>?_
  rw [←he] at e
  unfold zcl at hr
  rw [List.pairwise_iff_getElem] at hr
  rcases Nat.lt_or_ge k i with h | h
  ·have:=hr k i hk h1 h
   rw [e,zcM] at this
   omega
  ·have:=hr i k h1 hk (by omega)
   rw [e,zcM] at this
   omega
theorem zji {l:List J} {n:J} {ks:List IdT} {k:Nat} (hn:(n.r,n.s) ∉ ks):(ks.take k ++ [(n.r,n.s)] ++ ks.drop k).map (mkV (l ++ [n]))=(ks.map (mkV l)).take k ++ [n] ++ (ks.map (mkV l)).drop k:=by
 have ho:∀(ks':List IdT),(∀y∈ks',y∈ks)→ks'.map (mkV (l ++ [n]))=ks'.map (mkV l):=fun ks' h=>List.map_congr_left fun y hy=>zj5 fun e=>hn (by rw [←e];exact h y hy)
 rw [List.map_append,List.map_append,List.map_cons,List.map_nil,zmp,←List.map_take,←List.map_drop,ho _ (fun y hy=>List.mem_of_mem_take hy),ho _ (fun y hy=>List.mem_of_mem_drop hy)]
def zaq:List IdT→Int→Int
 | [],_=>0
 | y :: ks,r=>if y.1=r then max (zaq ks r) (y.2+1) else zaq ks r
theorem ziA {ks:List IdT} {r:Int}:0≤zaq ks r∧∀y∈ks,y.1=r→y.2+1≤zaq ks r:=by
 induction ks with
 | nil=>exact ⟨Int.le_refl _,fun y h=>by simp at h⟩
 | cons z ks ih =>
  unfold zaq
  refine ⟨by split <;> omega,fun y hy hr=>?_⟩
  rcases List.mem_cons.1 hy with rfl | hy
  ·rw [if_pos hr];omega
  ·have:=ih.2 y hy hr
   split <;> omega
theorem zjl {ks:List IdT} {r:Int}:zaq ks r=0∨∃y∈ks,y.1=r∧zaq ks r=y.2+1:=by
 induction ks with
 | nil=>exact .inl rfl
 | cons z ks ih =>
  unfold zaq
  split
  ·next h =>
   rcases (show max (zaq ks r) (z.2+1)=zaq ks r∨max (zaq ks r) (z.2+1)=z.2+1 by omega) with e | e
   ·rw [e]
    rcases ih with h0 | ⟨y,hy,h1,h2⟩
    ·exact .inl h0
    ·exact .inr ⟨y,by simp [hy],h1,h2⟩
   ·exact .inr ⟨z,by simp,h,e⟩
  ·rcases ih with h0 | ⟨y,hy,h1,h2⟩
   ·exact .inl h0
   ·exact .inr ⟨y,by simp [hy],h1,h2⟩
theorem zf0 {a b:List IdT} (h:∀y,y∈a ↔ y∈b) (r:Int):zaq a r=zaq b r:=by
 have le:∀{a b:List IdT},(∀y,y∈a→y∈b)→zaq a r≤zaq b r:=fun {a b} h=>by
  rcases zjl (ks:=a) (r:=r) with e | ⟨y,hy,h1,e⟩
  ·rw [e];exact ziA.1
  ·rw [e];exact ziA.2 y (h y hy) h1
 have h1:=le fun y=>(h y).1
 have h2:=le fun y=>(h y).2
 omega
theorem zm2 {ks:List IdT} {y:IdT} (h:zcl (ks ++ [y])) (h0:0≤y.2) (r:Int):zaq (ks ++ [y]) r=if y.1=r then y.2+1 else zaq ks r:=by
 have hx:∀x∈ks,cmpI x y<0:=by
  unfold zcl at h
  rw [List.pairwise_append] at h
  exact fun x hx=>h.2.2 x hx y (by simp)
 have e:zaq (ks ++ [y]) r=zaq (y :: ks) r:=zf0 (fun z=>by simp [or_comm]) r
 rw [e]
 show (if y.1=r then max (zaq ks r) (y.2+1) else zaq ks r)=_
 split
 ·next hr =>
  rcases zjl (ks:=ks) (r:=r) with e | ⟨z,hz,h1,e⟩
  ·omega
  ·have:=hx z hz
   rw [zgI] at this
   omega
 ·rfl
def jC (x:J):List Value:=(rowJ x).toList
theorem zgH (x:J):(jC x).length=22:=rfl
def zaQ (l:List J):List Value:=l.flatMap jC
theorem zbd:∀l:List J,(zaQ l).length=l.length * 22
 | []=>rfl
 | n :: l=>by
  have:=zbd l
  simp only [zaQ,List.flatMap_cons,List.length_append,List.length_cons] at *
  rw [this,zgH]
  omega
theorem zeQ (l:List J) (n:J):zaQ (l ++ [n])=zaQ l ++ jC n:=by simp [zaQ]
theorem zdk (l m:List J):zaQ (l ++ m)=zaQ l ++ zaQ m:=by simp [zaQ]
theorem zf5 (n:J):∀y∈jC n,y.oneCell'=true:=by
 intro y hy
 simp [jC,rowJ] at hy
 rcases hy with rfl | rfl | rfl | rfl | rfl | rfl | rfl | rfl | rfl | rfl | rfl | rfl | rfl | rfl | rfl | rfl | rfl | rfl | rfl | rfl | rfl | rfl <;> rfl
theorem zdN (l:List J):∀y∈zaQ l,y.oneCell'=true:=by
 intro y hy
 obtain ⟨n,_,hn⟩:=List.mem_flatMap.1 hy
 exact zf5 n y hn
theorem zd1:∀{l:List J} {j i:Nat} (hj:j<l.length),i<22→(zaQ l)[j * 22+i]?=(jC l[j])[i]?
 | n :: l,0,i,_,hi=>by
  simp only [zaQ,List.flatMap_cons,Nat.zero_mul,Nat.zero_add,List.getElem_cons_zero]
  rw [List.getElem?_append_left (by rw [zgH];exact hi)]
 | n :: l,j+1,i,hj,hi=>by
  have ih:=zd1 (l:=l) (j:=j) (i:=i) (by simpa using hj) hi
  simp only [zaQ,List.flatMap_cons,List.getElem_cons_succ] at *
  rw [List.getElem?_append_right (by rw [zgH];omega),←ih]
  congr 1
  rw [zgH]
  omega
theorem zh0 (l:List J):∀k,k≤l.length→zaQ (l.take k)=(zaQ l).take (k * 22):=by
 induction l with
 | nil=>intro k hk;simp at hk;subst hk;rfl
 | cons n l ih =>
  intro k hk
  cases k with
  | zero=>rfl
  | succ k =>
   have h:=ih k (by simpa using hk)
   have e:(k+1) * 22=(jC n).length+k * 22:=by rw [zgH];omega
   show jC n ++ zaQ (l.take k)=(jC n ++ zaQ l).take ((k+1) * 22)
   rw [e,List.take_length_add_append,h]
theorem znW (l:List J) (k:Nat) (hk:k≤l.length):zaQ (l.drop k)=(zaQ l).drop (k * 22):=by
 have h1:=zdk (l.take k) (l.drop k)
 rw [List.take_append_drop,zh0 l k hk] at h1
 have h2:(zaQ l).take (k * 22) ++ (zaQ l).drop (k * 22)=(zaQ l).take (k * 22) ++ zaQ (l.drop k):=by rw [List.take_append_drop];exact h1
 exact (List.append_cancel_left h2).symm
theorem zqH {l:List J} {xs:List Value} (hl:xs.length=l.length * 22) (h:∀j i (hj:j<l.length),i<22→xs[j * 22+i]?=(jC l[j])[i]?):xs=zaQ l:=by
 apply List.ext_getElem?
 intro p
 by_cases hp:p<l.length * 22
 ·have hj:p / 22<l.length:=by omega
  have e:p / 22 * 22+p % 22=p:=by omega
  rw [←e,h _ _ hj (by omega),zd1 hj (by omega)]
 ·rw [List.getElem?_eq_none (by omega),List.getElem?_eq_none (by rw [zbd];omega)]
theorem zrK {x y:J} (h:eqJ x y=true):rowJ x=rowJ y:=by
 unfold eqJ at h
 simp only [Bool.and_eq_true,beq_iff_eq,decide_eq_true_eq,zdG] at h
 obtain ⟨⟨h1,h2⟩,h3,h4,h5,h6,h7,h8⟩:=h
 unfold rowJ
 rw [h1,h2,h3,h4,h5,h6,h7,h8 0 (by omega),h8 1 (by omega),h8 2 (by omega),h8 3 (by omega),h8 4 (by omega),h8 5 (by omega),h8 6 (by omega),h8 7 (by omega)]
end Go.Proofs.YtnjdckoljmgcjaaGreatDoor
namespace Go.Proofs.YtnjdckoljmgcjaaGreatDoor
open Go.ChangeShapes Go.WideShapes Go.ChangeAt Go.RowKit Go.Maps Go.WideMaps
set_option linter.unusedVariables false
theorem zoR:laidOutB Tryz.prog=true:=by kernel_rfl
theorem zs3:(55:TypeId)<Tryz.prog.types.size:=of_decide_eq_true (by kernel_rfl)
theorem ztW:(match Tryz.prog.underlying 55 with | some (.array _ _) | some (.struct _)=>true | _=>false)=true:=by kernel_rfl
theorem zfD:Keyed Tryz.prog 55:=Keyed.of_law (deep_law_laid zoR (m:=3) (by omega) zs3 (by kernel_rfl) ztW)
def zbl (x:Int):Prop:=-9223372036854775808≤x∧x≤9223372036854775807
theorem zsZ {x:Int} (h:zbl x):(Lit.int .i64 x).wf=true:=by
 unfold zbl at h
 simp [Lit.wf,IntKind.min,IntKind.max,IntKind.bits,IntKind.signed]
 omega
theorem zir {x:Int} (h:(Lit.int .i64 x).wf=true):zbl x:=by
 simp [Lit.wf,IntKind.min,IntKind.max,IntKind.bits,IntKind.signed] at h
 unfold zbl
 omega
def ilit (r s:Int):Lit:=.string (keyBytes [.int .i64 r,.int .i64 s])
theorem zjd:Tryz.prog.cellsOf 55=2:=by kernel_rfl
theorem ztE:Tryz.prog.keyType 55=true:=by kernel_rfl
theorem zmd:∃n,Tryz.prog.types.size+1=n+2:=by
 obtain ⟨s,hs⟩:∃s:Nat,Tryz.prog.types.size=s:=⟨_,rfl⟩
 have h:(55:Nat)<s:=hs ▸ zs3
 rw [hs]
 exact ⟨s - 1,by omega⟩
theorem zqy:Tryz.prog.cellsOf 3=1:=by kernel_rfl
theorem zos (n:Nat) (v0 v1:Value):Tryz.prog.keyLits (n+2) 55 [v0,v1] =
  (match v0 with | .int q0 u0=>if q0=.i64∧(Lit.int .i64 u0).wf=true then (match v1 with | .int q u=>if q=.i64∧(Lit.int .i64 u).wf=true then some [.int .i64 u0,.int .i64 u] else none | _=>none) else none | _=>none):=by
 unfold Program.keyLits
 rw [Tryz.underlying55]
 simp only [zjd,List.length_cons,List.length_nil]
 rw [if_pos ⟨by decide,by simp⟩]
 simp [List.mapM_cons,zqy,Program.keyLits,Tryz.underlying3]
 cases v0 <;> simp
 split
 ·cases v1 <;> simp
  split <;> simp
 ·simp
theorem zeR {r s:Int} (hr:zbl r) (hs:zbl s):keyOf Tryz.prog 55 (nm r s)=some (ilit r s):=by
 obtain ⟨n,hn⟩:=zmd
 unfold keyOf
 rw [Tryz.underlying55]
 simp only
 rw [if_pos (by rw [ztE];simp [Value.formed,Tryz.underlying55,zjd]),hn]
 show (Tryz.prog.keyLits (n+2) 55 [.int .i64 r,.int .i64 s]).map _=_
 rw [zos]
 show (if IntKind.i64=.i64∧(Lit.int .i64 r).wf=true then (if IntKind.i64=.i64∧(Lit.int .i64 s).wf=true then some [Lit.int .i64 r,Lit.int .i64 s] else none) else none).map (fun ls=>Lit.string (keyBytes ls))=some (ilit r s)
 rw [if_pos ⟨rfl,zsZ hr⟩,if_pos ⟨rfl,zsZ hs⟩]
 rfl
theorem zeB {v:Value} {kl:Lit} (h:keyOf Tryz.prog 55 v=some kl):∃r s,v=nm r s∧zbl r∧zbl s∧kl=ilit r s:=by
 obtain ⟨n,hn⟩:=zmd
 unfold keyOf at h
 rw [Tryz.underlying55] at h
 simp only at h
 split at h
 ·next hc =>
  simp only [Bool.and_eq_true] at hc
  have h2:=hc.2
  cases v <;> simp [Value.formed,Tryz.underlying55,zjd] at h2
  rename_i cs
  obtain ⟨l⟩:=cs
  match l,h2 with
  | [v0,v1],_ =>
   rw [hn] at h
   change (Tryz.prog.keyLits (n+2) 55 [v0,v1]).map _=_ at h
   rw [zos] at h
   cases v0 with
   | int q0 u0 =>
    cases v1 with
    | int q u =>
     simp at h
     obtain ⟨ls,⟨⟨rfl,h1⟩,⟨rfl,h3⟩,rfl⟩,rfl⟩:=h
     exact ⟨u0,u,rfl,zir h1,zir h3,rfl⟩
    | _=>simp at h
   | _=>simp at h
 ·cases h
theorem zme {r s r' s':Int} (h1:zbl r) (h2:zbl s) (h3:zbl r') (h4:zbl s') (h:ilit r s=ilit r' s'):r=r'∧s=s':=by
 have k1:=zeR h1 h2
 have k2:=zeR h3 h4
 rw [h] at k1
 have k3:=zfD.inj k1 k2
 simp [nm] at k3
 exact k3
def idR (v:Value):Option (DataW Value × List MemPlace):=some (.held v,[])
def zfR (l:List J):Prop:=∀x∈l,zbl x.r∧zbl x.s
def StM (w:World) (m n:Nat) (l:List J):Prop :=
 ∃D:DataW Value,w.ownsMap Tryz.prog 55 idR m n D∧(∀r s,zbl r→zbl s→Maps.has D (ilit r s)=hasV l r s∧∀x,zeh l r s=some x→∀z,D.atKey (ilit r s) z=.held (.agg (rowJ x))) ∧
  ∀kl,Maps.has D kl=true→∃x∈l,kl=ilit x.r x.s
theorem StM.made (w:World):StM (w.alloc (.map #[] 0)) w.heap.size 0 [] :=
 ⟨.map [],World.ownsMap_made _ _ _ _,fun _ _ _ _=>⟨rfl,fun _ h=>by cases h⟩,fun _ h=>by simp [Maps.has] at h⟩
theorem StM.lt {w:World} {b n:Nat} {l:List J} (h:StM w b n l):b<w.heap.size:=by
 obtain ⟨D,h1,_⟩:=h;exact h1.lt
theorem StM.same {w w':World} {b n:Nat} {l:List J} (h:StM w b n l) (he:w'.heap[b]?=w.heap[b]?):StM w' b n l:=by
 obtain ⟨D,⟨es,clock,hb,hr⟩,h2⟩:=h
 exact ⟨D,⟨es,clock,he.trans hb,hr⟩,h2⟩
theorem StM.isMap {w:World} {b n:Nat} {l:List J} (h:StM w b n l):∃es clock,w.heap[b]?=some (.map es clock):=by
 obtain ⟨D,⟨es,clock,hb,_⟩,_⟩:=h
 exact ⟨es,clock,hb⟩
theorem zuu (w:World):(zeroValue 66).run Tryz.prog w=.ok (.agg (rowJ zau)) w:=by kernel_rfl
def zhx (l:List J) (r s:Int):J:=(zeh l r s).getD zau
theorem zd2 {l:List J} {r s:Int} (h:hasV l r s=true):zhx l r s=getV l r s:=by
 unfold zhx getV
 unfold hasV at h
 obtain ⟨x,hx⟩:=Option.isSome_iff_exists.1 h
 rw [hx]
 rfl
theorem StM.look {w:World} {b n:Nat} {l:List J} (h:StM w b n l) {r s:Int} (hr:zbl r) (hs:zbl s) :
  (Instr.lookup 92 (.map (some b)) (nm r s) true).run Tryz.prog w=.ok (.tuple #[.agg (rowJ (zhx l r s)),.bool (hasV l r s)]) w:=by
 obtain ⟨D,h1,h2,_⟩:=h
 obtain ⟨h3,h4⟩:=h2 r s hr hs
 obtain ⟨v,ps,hrun,hv⟩:=h1.look_ok zfD Tryz.underlying92 (zuu w) (zd:=.held (.agg (rowJ zau))) (zp:=[]) rfl (zeR hr hs)
 rw [h3] at hrun
 have e:v=.agg (rowJ (zhx l r s)):=by
  unfold zhx
  cases hl:zeh l r s with
  | some x =>
   rw [h4 x hl] at hv
   unfold idR at hv
   injection hv with hv
   injection hv with hv _
   injection hv
  | none =>
   have hh:Maps.has D (ilit r s)=false:=by rw [h3];unfold hasV;rw [hl];rfl
   rw [atKey_of_not_has hh] at hv
   unfold idR at hv
   injection hv with hv
   injection hv with hv _
   injection hv
 rw [←e]
 exact hrun
theorem StM.put {w:World} {b n:Nat} {l:List J} (h:StM w b n l) (hn:n<maxLen) (x:J) (hl:zfR l) (hr:zbl x.r) (hs:zbl x.s) :
  ∃w',(Instr.mapUpdate 92 (.map (some b)) (nm x.r x.s) (.agg (rowJ x))).run Tryz.prog w=.ok () w'∧StM w' b (n+1) (l ++ [x])∧w.grownBy w' (some b):=by
 obtain ⟨D,h1,h2,h5⟩:=h
 obtain ⟨w',hrun,h3,h4⟩:=h1.update zfD Tryz.underlying92 hn (zeR hr hs) (val:=.agg (rowJ x)) (d:=.held (.agg (rowJ x))) (ps:=[]) rfl
 refine ⟨w',hrun,⟨_,h3,fun f u hf hu=>?_,fun kl hk=>?_⟩,h4⟩
 ·have hk:WideAt.IsKeyLit (ilit x.r x.s):=zfD.key (zeR hr hs)
  by_cases e:ilit f u=ilit x.r x.s
  ·obtain ⟨rfl,rfl⟩:=zme hf hu hr hs e
   have ho:zeV x.r x.s x=true:=zdl.2 ⟨rfl,rfl⟩
   refine ⟨by rw [has_put_same h1.isMap hk,zhw,ho];simp,fun y hy z=>?_⟩
   rw [zc4,if_pos ho] at hy
   injection hy with hy
   subst hy
   rw [atKey_put_same h1.isMap hk]
  ·have ho:zeV f u x=false:=by
    cases hc:zeV f u x
    ·rfl
    ·obtain ⟨rfl,rfl⟩:=zdl.1 hc
     exact absurd rfl e
   obtain ⟨k1,k2⟩:=h2 f u hf hu
   refine ⟨by rw [has_put_other e,zhw,ho,k1];simp,fun y hy z=>?_⟩
   rw [zc4,ho,if_neg (by simp)] at hy
   rw [atKey_put_other e]
   exact k2 y hy z
 ·by_cases e:kl=ilit x.r x.s
  ·exact ⟨x,by simp,e⟩
  ·rw [has_put_other e] at hk
   obtain ⟨m,hm,hk⟩:=h5 kl hk
   exact ⟨m,by simp [hm],hk⟩
end Go.Proofs.YtnjdckoljmgcjaaGreatDoor
namespace Go.Proofs.YtnjdckoljmgcjaaGreatDoor
def zi8 (a b:UInt8):Int:=if a<b then -1 else if b<a then 1 else 0
def lexC {α:Type} (f:α→α→Int):List α→List α→Int
 | [],[]=>0
 | [],_ :: _=>-1
 | _ :: _,[]=>1
 | a :: as1,b :: bs=>if f a b=0 then lexC f as1 bs else f a b
structure zll {α:Type} (f:α→α→Int):Prop where
 three:∀a b,f a b=-1∨f a b=0∨f a b=1
 swap:∀a b,f b a=- f a b
 same:∀a b,f a b=0 ↔ a=b
 trans:∀a b c,f a b≤0→f b c≤0→f a c≤0
theorem zgS:zll zi8:=by
 constructor
 ·intro a b;unfold zi8;split
  ·simp
  ·split <;> simp
 ·intro a b;unfold zi8
  simp only [UInt8.lt_iff_toNat_lt]
  by_cases h1:a.toNat<b.toNat
  ·rw [if_neg (by omega),if_pos h1,if_pos h1];rfl
  ·by_cases h2:b.toNat<a.toNat
   ·rw [if_pos h2,if_neg h1,if_pos h2]
   ·rw [if_neg h2,if_neg h1,if_neg h1,if_neg h2];rfl
 ·intro a b;unfold zi8
  simp only [UInt8.lt_iff_toNat_lt,←UInt8.toNat_inj]
  by_cases h1:a.toNat<b.toNat
  ·rw [if_pos h1];constructor
   ·intro h;cases h
   ·intro h;omega
  ·rw [if_neg h1]
   by_cases h2:b.toNat<a.toNat
   ·rw [if_pos h2];constructor
    ·intro h;cases h
    ·intro h;omega
   ·rw [if_neg h2];constructor
    ·intro _;omega
    ·intro _;rfl
 ·intro a b c;unfold zi8
  simp only [UInt8.lt_iff_toNat_lt]
  intro h1 h2
  by_cases k1:b.toNat<a.toNat
  ·rw [if_neg (by omega),if_pos k1] at h1;omega
  ·by_cases k2:c.toNat<b.toNat
   ·rw [if_neg (by omega),if_pos k2] at h2;omega
   ·by_cases k3:a.toNat<c.toNat
    ·rw [if_pos k3];decide
    ·rw [if_neg k3,if_neg (by omega)];decide
theorem zgY {α:Type} [DecidableEq α] {f:α→α→Int} (hf:zll f) (a b:α) (as1 bs:List α):lexC f (a :: as1) (b :: bs)=if a=b then lexC f as1 bs else f a b:=by
 by_cases h:a=b
 ·rw [if_pos h];simp only [lexC];rw [if_pos ((hf.same a b).2 h)]
 ·rw [if_neg h];simp only [lexC];rw [if_neg (fun e=>h ((hf.same a b).1 e))]
theorem zsa {α:Type} [DecidableEq α] {f:α→α→Int} (hf:zll f):zll (lexC f):=by
 constructor
 ·intro a
  induction a with
  | nil=>intro b;cases b <;> simp [lexC]
  | cons x a ih =>
   intro b
   cases b with
   | nil=>simp [lexC]
   | cons y b =>
    simp only [lexC]
    split
    ·exact ih b
    ·exact hf.three x y
 ·intro a
  induction a with
  | nil=>intro b;cases b <;> simp [lexC]
  | cons x a ih =>
   intro b
   cases b with
   | nil=>simp [lexC]
   | cons y b =>
    simp only [lexC]
    rw [hf.swap x y]
    by_cases h:f x y=0
    ·rw [if_pos (by omega),if_pos h];exact ih b
    ·rw [if_neg (by omega),if_neg h]
 ·intro a
  induction a with
  | nil=>intro b;cases b <;> simp [lexC]
  | cons x a ih =>
   intro b
   cases b with
   | nil=>simp [lexC]
   | cons y b =>
    simp only [lexC]
    by_cases h:f x y=0
    ·rw [if_pos h,ih b]
     have:=(hf.same x y).1 h
     subst this;simp
    ·rw [if_neg h]
     constructor
     ·intro e;exact absurd e h
     ·intro e
      injection e with e1 e2
      exact absurd ((hf.same x y).2 e1) h
 ·intro a
  induction a with
  | nil=>intro b c _ _;cases c <;> simp [lexC]
  | cons x a ih =>
   intro b c h1 h2
   cases b with
   | nil=>simp [lexC] at h1
   | cons y b =>
    cases c with
    | nil=>simp [lexC] at h2
    | cons z c =>
     rw [zgY hf] at h1 h2 ⊢
     by_cases hxy:x=y
     ·subst hxy
      rw [if_pos rfl] at h1
      by_cases hxz:x=z
      ·rw [if_pos hxz] at h2 ⊢;exact ih b c h1 h2
      ·rw [if_neg hxz] at h2 ⊢;exact h2
     ·rw [if_neg hxy] at h1
      by_cases hyz:y=z
      ·subst hyz
       rw [if_neg hxy];exact h1
      ·rw [if_neg hyz] at h2
       have h3:=hf.trans x y z h1 h2
       by_cases hxz:x=z
       ·subst hxz
        have h4:=hf.swap x y
        have h5:f x y=0:=by omega
        exact absurd ((hf.same x y).1 h5) hxy
       ·rw [if_neg hxz];exact h3
theorem zc9:∀a b:List UInt8,Lib.compareBytes a b=lexC zi8 a b
 | [],[]=>rfl
 | [],_ :: _=>rfl
 | _ :: _,[]=>rfl
 | a :: as1,b :: bs=>by
  rw [zgY zgS]
  simp only [Lib.compareBytes]
  by_cases h:a=b
  ·subst h
   rw [if_pos rfl,if_neg (UInt8.lt_irrefl a),if_neg (UInt8.lt_irrefl a),zc9 as1 bs]
  ·rw [if_neg h]
   unfold zi8
   by_cases h1:a<b
   ·rw [if_pos h1,if_pos h1]
   ·rw [if_neg h1,if_neg h1]
    by_cases h2:b<a
    ·rw [if_pos h2,if_pos h2]
    ·exfalso
     rw [UInt8.lt_iff_toNat_lt] at h1 h2
     exact h (UInt8.toNat_inj.1 (by omega))
def ziF:List UInt8→List UInt8→Int:=lexC zi8
theorem zbD:zll ziF:=zsa zgS
end Go.Proofs.YtnjdckoljmgcjaaGreatDoor
