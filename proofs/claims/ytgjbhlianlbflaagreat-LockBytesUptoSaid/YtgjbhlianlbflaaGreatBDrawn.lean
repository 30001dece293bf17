/-
  Whatever runs draws, and never gives back: behind a call of any function that returns as many draws have been made as ahead of it, or more.
-/
import Derived.Calls
import GoSem.Step
namespace Go.Proofs.YtgjbhlianlbflaaGreat.Drawn
open Go
set_option linter.unusedVariables false
set_option linter.unusedSimpArgs false
set_option maxHeartbeats 4000000
theorem ask_up {α : Type} : ∀ (a : Ask α) (w : World), w.drawn ≤ (w.ask a).2.drawn
  | .done a, w => Nat.le_refl _
  | .ask what range k, w => by
    unfold World.ask
    dsimp only
    split
    · exact ask_up (k 0) w
    · exact Nat.le_trans (Nat.le_succ _) (ask_up (k _) { w with drawn := w.drawn + 1 })
theorem sys_up (c : Sys) (w : World) : w.drawn ≤ (w.sys c).2.drawn := by
  have h := ask_up (Kernel.perform c w.os) w
  unfold World.sys
  split
  · exact Nat.le_refl _
  · next r os w' e => rw [e] at h; exact h
theorem view_up {p : Program} {w w' : World} {at_ : Addr} {u : TypeId} {k : Addr} {v : Value} {a : Bool} {l : List Addr} (h : w.viewStore p at_ u k v a = .ok (w', l)) : w'.drawn = w.drawn := by
  unfold World.viewStore at h
  simp only [bind, Except.bind, pure, Except.pure, throw, throwThe, MonadExceptOf.throw] at h
  repeat' (first | (cases h; done) | (cases h; rfl) | (split at h) | (injection h with h; injection h with h _; subst h; rfl))
theorem far_up {p : Program} {w w' : World} {a : Addr} {v : Value} {b : Bool} {l : List Addr} (h : w.farStore p a v b = .ok (w', l)) : w'.drawn = w.drawn := by
  unfold World.farStore at h
  split at h
  · split at h
    · next r e => injection h with h; subst h; exact view_up e
    · cases h
  · cases h
def wOf {α : Type} : Result α → World
  | .ok _ w => w
  | .halt _ w => w
theorem run_up {α : Type} (p : Program) : ∀ (s : Sem α) (w : World), w.drawn ≤ (wOf (s.run p w)).drawn := by
  intro s
  induction s with
  | pure a => intro w; exact Nat.le_refl _
  | load m a k ih =>
    intro w
    unfold Sem.run
    split
    · exact ih _ w
    · split
      · exact ih _ w
      · exact Nat.le_refl _
  | store m a v k ih =>
    intro w
    cases v <;> simp only [Sem.run]
    all_goals first | exact Nat.le_refl _ | skip
    all_goals
      split
      · split
        · exact Nat.le_refl _
        · exact ih (w.setCell a _)
      · split
        · next w1 _ e => have := ih w1; rw [far_up e] at this; exact this
        · exact Nat.le_refl _
  | new o k ih => intro w; exact ih _ { w with heap := w.heap.push o }
  | shape r k ih => intro w; exact ih _ w
  | freeze a n k ih => intro w; have := ih (w.freeze a n); have e : (w.freeze a n).drawn = w.drawn := by { unfold World.freeze; split <;> rfl }; rw [e] at this; exact this
  | frozen a k ih => intro w; exact ih _ w
  | getObj r k ih =>
    intro w
    unfold Sem.run
    split
    · exact Nat.le_refl _
    · exact ih _ w
    · exact Nat.le_refl _
  | setObj r o k ih =>
    intro w
    unfold Sem.run
    split
    · exact Nat.le_refl _
    · exact ih { w with heap := w.heap.setIfInBounds r o }
    · exact Nat.le_refl _
  | choose q k ih =>
    intro w
    unfold Sem.run
    split
    · exact ih _ w
    · exact Nat.le_trans (Nat.le_succ _) (ih _ { w with drawn := w.drawn + 1 })
  | sys c k ih => intro w; exact Nat.le_trans (sys_up c w) (ih _ _)
  | program k ih => intro w; exact ih _ w
  | mark m k ih => intro w; exact ih w
  | halt h => intro w; exact Nat.le_refl _
theorem runT_up {α : Type} (p : Program) : ∀ (s : Sem α) (w : World) (es : Array Event), w.drawn ≤ (wOf (s.runT p w es).1).drawn := by
  intro s
  induction s with
  | pure a => intro w es; exact Nat.le_refl _
  | load m a k ih =>
    intro w es
    unfold Sem.runT
    split
    · exact ih _ w _
    · split
      · exact ih _ w _
      · exact Nat.le_refl _
  | store m a v k ih =>
    intro w es
    cases v <;> simp only [Sem.runT]
    all_goals first | exact Nat.le_refl _ | skip
    all_goals
      split
      · split
        · exact Nat.le_refl _
        · exact ih (w.setCell a _) _
      · split
        · next w1 _ e => exact Nat.le_trans (Nat.le_of_eq (far_up e).symm) (ih w1 _)
        · exact Nat.le_refl _
  | new o k ih => intro w es; exact ih _ { w with heap := w.heap.push o } es
  | shape r k ih => intro w es; exact ih _ w es
  | freeze a n k ih => intro w es; have := ih (w.freeze a n) es; have e : (w.freeze a n).drawn = w.drawn := by { unfold World.freeze; split <;> rfl }; rw [e] at this; exact this
  | frozen a k ih => intro w es; exact ih _ w es
  | getObj r k ih =>
    intro w es
    unfold Sem.runT
    split
    · exact Nat.le_refl _
    · exact ih _ w _
    · exact Nat.le_refl _
  | setObj r o k ih =>
    intro w es
    unfold Sem.runT
    split
    · exact Nat.le_refl _
    · exact ih { w with heap := w.heap.setIfInBounds r o } _
    · exact Nat.le_refl _
  | choose q k ih =>
    intro w es
    unfold Sem.runT
    split
    · exact ih _ w es
    · exact Nat.le_trans (Nat.le_succ _) (ih _ { w with drawn := w.drawn + 1 } es)
  | sys c k ih => intro w es; exact Nat.le_trans (sys_up c w) (ih _ _ _)
  | program k ih => intro w es; exact ih _ w es
  | mark m k ih => intro w es; exact ih w _
  | halt h => intro w es; exact Nat.le_refl _
theorem run_ok {α : Type} {p : Program} {s : Sem α} {w w' : World} {a : α} (h : s.run p w = .ok a w') : w.drawn ≤ w'.drawn := by
  have := run_up p s w; rw [h] at this; exact this
theorem run_halt {α : Type} {p : Program} {s : Sem α} {w w' : World} {a : Halt} (h : s.run p w = .halt a w') : w.drawn ≤ w'.drawn := by
  have := run_up p s w; rw [h] at this; exact this
theorem runT_ok {α : Type} {p : Program} {s : Sem α} {w w' : World} {a : α} {es es' : Array Event} (h : s.runT p w es = (.ok a w', es')) : w.drawn ≤ w'.drawn := by
  have := runT_up p s w es; rw [h] at this; exact this
theorem runT_halt {α : Type} {p : Program} {s : Sem α} {w w' : World} {a : Halt} {es es' : Array Event} (h : s.runT p w es = (.halt a w', es')) : w.drawn ≤ w'.drawn := by
  have := runT_up p s w es; rw [h] at this; exact this
theorem runT_ok1 {α : Type} {p : Program} {s : Sem α} {w w' : World} {a : α} {es : Array Event} (h : (s.runT p w es).1 = .ok a w') : w.drawn ≤ w'.drawn := runT_ok (Prod.ext h rfl)
theorem runT_halt1 {α : Type} {p : Program} {s : Sem α} {w w' : World} {a : Halt} {es : Array Event} (h : (s.runT p w es).1 = .halt a w') : w.drawn ≤ w'.drawn := runT_halt (Prod.ext h rfl)
def UpG (w : World) : GStep → Prop
  | .ended _ _ _ => True
  | .go _ w' _ => w.drawn ≤ w'.drawn
  | .comm _ _ _ _ w' _ => w.drawn ≤ w'.drawn
  | .spawn _ _ w' _ => w.drawn ≤ w'.drawn
  | .count _ w' _ => w.drawn ≤ w'.drawn
  | .timer _ _ w' _ => w.drawn ≤ w'.drawn
  | .alone _ _ w' _ => w.drawn ≤ w'.drawn
  | .newcoro _ _ _ w' _ => w.drawn ≤ w'.drawn
  | .coroswitch _ _ _ w' _ => w.drawn ≤ w'.drawn
  | .collect _ w' _ => w.drawn ≤ w'.drawn
  | .watch _ w' _ => w.drawn ≤ w'.drawn
theorem UpG.after {w : World} {es : Array Event} {s : GStep} (h : UpG w s) : UpG w (GStep.after es s) := by
  cases s <;> exact h
theorem UpG.trans {w w' : World} {s : GStep} (h : UpG w' s) (k : w.drawn ≤ w'.drawn) : UpG w s := by
  cases s <;> first | trivial | exact Nat.le_trans k h
theorem UpG.ite {w : World} {c : Prop} [Decidable c] {a b : GStep} (ha : UpG w a) (hb : UpG w b) : UpG w (if c then a else b) := by split <;> assumption
theorem UpG.go_heap {w w' : World} {g : Goroutine} {es : Array Event} {h : Array Obj} (k : w.drawn ≤ w'.drawn) : UpG w (.go g { w' with heap := h } es) := k
theorem UpG.elim {α : Type} {w : World} {o : Option α} {a : GStep} {f : α → GStep} (ha : UpG w a) (hf : ∀ x, UpG w (f x)) : UpG w (o.elim a f) := by cases o; exact ha; exact hf _
theorem doReturn_up (p : Program) (main : Bool) (fr : Frame) (cs : List Frame) (d : Option Dying) (v : Value) (w : World) : UpG w (doReturn p main fr cs d v w) := by
  unfold doReturn
  repeat' (first | exact Nat.le_refl _ | trivial | split)
theorem dieOf_up (fr : Frame) (a : List ByteArray) (m : String) (b : Bool) (w : World) : UpG w (dieOf fr a m b w) := Nat.le_refl _
theorem endThrow_up (fr : Frame) (m : String) (w : World) : UpG w (endThrow fr m w) := Nat.le_refl _
theorem endWith_up (w : World) (fd : Nat) (t : ByteArray) (o : Outcome) : UpG w (endWith w fd t o) := by
  unfold endWith
  dsimp only
  repeat' (first | trivial | split)
theorem endPrinting_up (p : Program) (fr : Frame) (v : Value) (w : World) : UpG w (endPrinting p fr v w) := by
  unfold endPrinting
  dsimp only
  split
  · exact endThrow_up _ _ _
  · trivial
theorem endFatal_up (p : Program) (fr : Frame) (cs : List Frame) (d : Option Dying) (m : String) (w : World) : UpG w (endFatal p fr cs d m w) := by
  unfold endFatal
  dsimp only
  split
  · next h => exact (dieOf_up _ _ _ _ _).trans (run_ok h)
  · trivial
  · trivial
theorem writeOn_up (p : Program) (fr : Frame) (d : Dying) (f : Fatal) (w : World) : UpG w (writeOn p fr d f w) := by
  unfold writeOn
  dsimp only
  split
  · trivial
  · split
    · next h => exact runT_ok h
    · next h => exact runT_halt h
    · trivial
    · trivial
theorem die_up (p : Program) (fr : Frame) (d : Dying) (w : World) : UpG w (die p fr d w) := by
  unfold die
  split
  · exact writeOn_up _ _ _ _ _
  · split
    · split
      · exact Nat.le_refl _
      · exact endWith_up _ _ _ _
    · dsimp only
      split
      · exact Nat.le_refl _
      · split
        · next h => exact run_ok h
        · trivial
      · refine UpG.after ?_
        split
        · next h => exact runT_ok (Prod.ext h rfl)
        · next h => exact runT_ok (Prod.ext h rfl)
        · trivial
        · next h => exact (endPrinting_up _ _ _ _).trans (runT_halt (Prod.ext h rfl))
        · trivial
      · trivial
theorem early_up (p : Program) (fr : Frame) (cs : List Frame) (d : Option Dying) (g : Nat) (w : World) : UpG w (early p fr cs d g w) := by
  unfold early
  dsimp only
  repeat' (first | exact Nat.le_refl _ | exact True.intro | exact run_ok (by assumption) | exact UpG.go_heap (run_ok (by assumption)) | split)
theorem callDeferred_up (p : Program) (fr : Frame) (cs : List Frame) (dy : Option Dying) (d : Deferred) (w : World) : UpG w (callDeferred p fr cs dy d w) := by
  unfold callDeferred
  dsimp only
  generalize hr : (invoke d.target d.args).runT p w #[] = R
  obtain ⟨r, es⟩ := R
  dsimp only
  refine UpG.ite True.intro ?_
  refine UpG.after ?_
  repeat' (first
      | exact True.intro
      | exact runT_ok hr
      | exact runT_halt hr
      | exact (endFatal_up _ _ _ _ _ _).trans (runT_halt hr)
      | exact (endThrow_up _ _ _).trans (runT_halt hr)
      | split)
theorem unwind_up (p : Program) (main : Bool) (fr : Frame) (cs : List Frame) (dy : Option Dying) (w : World) : UpG w (unwind p main fr cs dy w) := by
  unfold unwind
  dsimp only
  repeat' (first
      | exact True.intro
      | exact Nat.le_refl _
      | refine UpG.after ?_
      | exact callDeferred_up _ _ _ _ _ _
      | exact doReturn_up _ _ _ _ _ _ _
      | exact endPrinting_up _ _ _ _
      | exact runT_ok1 (by assumption)
      | exact run_ok (by assumption)
      | exact (doReturn_up _ _ _ _ _ _ _).trans (runT_ok1 (by assumption))
      | split)
theorem apply_up (p : Program) (listen : Bool) (fr : Frame) (cs : List Frame) (dy : Option Dying) (s : Sem Next) (w : World) : UpG w (stepG.apply p listen fr cs dy s w) := by
  unfold stepG.apply
  dsimp only
  generalize hr : (if listen then s.runT p w #[] else (s.run p w, #[])) = R
  have H : w.drawn ≤ (wOf R.1).drawn := by
    rw [← hr]
    split
    · exact runT_up _ _ _ _
    · exact run_up _ _ _
  clear hr
  obtain ⟨r, es⟩ := R
  dsimp only at H ⊢
  refine UpG.after ?_
  repeat' (first
      | exact True.intro
      | exact H
      | exact (endFatal_up _ _ _ _ _ _).trans H
      | exact (endThrow_up _ _ _).trans H
      | exact (early_up _ _ _ _ _ _).trans H
      | split)
theorem oper_up (p : Program) (listen : Bool) (fr : Frame) (cs : List Frame) (dy : Option Dying) (w : World) : UpG w (stepG.oper p listen fr cs dy w) := by
  unfold stepG.oper
  repeat' (first
      | exact True.intro
      | exact apply_up _ _ _ _ _ _ _
      | split)
theorem exec_up (p : Program) (main listen : Bool) (fr : Frame) (cs : List Frame) (dy : Option Dying) (w : World) : UpG w (stepG.exec p main listen fr cs dy w) := by
  unfold stepG.exec
  dsimp only
  repeat' (first
      | exact True.intro
      | exact Nat.le_refl _
      | with_reducible refine UpG.after ?_
      | refine UpG.elim ?_ (fun _ => ?_)
      | exact (doReturn_up _ _ _ _ _ _ _).trans (runT_ok1 (by assumption))
      | exact apply_up _ _ _ _ _ _ _
      | exact oper_up _ _ _ _ _ _
      | exact runT_ok1 (by assumption)
      | exact runT_halt1 (by assumption)
      | exact run_ok (by assumption)
      | exact (apply_up _ _ _ _ _ _ _).trans (runT_ok1 (by assumption))
      | split)
theorem stepG_up (p : Program) (main : Bool) (g : Goroutine) (w : World) (listen : Bool) : UpG w (stepG p main g w listen) := by
  unfold stepG
  dsimp only
  split
  · exact die_up _ _ _ _
  · exact exec_up _ _ _ _ _ _ _
  · exact unwind_up _ _ _ _ _ _
def UpM (w : World) : Stepped → Prop
  | .ended _ _ => True
  | .next m => w.drawn ≤ m.world.drawn
theorem UpM.trans {w w' : World} {s : Stepped} (h : UpM w' s) (k : w.drawn ≤ w'.drawn) : UpM w s := by
  cases s <;> first | trivial | exact Nat.le_trans k h
theorem UpM.heap {w w' : World} {h : Array Obj} {gs : Array Goroutine} {rest : Rest} (k : w.drawn ≤ w'.drawn) : UpM w (.next { world := { w' with heap := h }, gs := gs, rest := rest }) := k
theorem endThrow_go {fr : Frame} {m : String} {w w' : World} {g : Goroutine} {es : Array Event} (h : endThrow fr m w = .go g w' es) : w.drawn ≤ w'.drawn := by
  have := endThrow_up fr m w; rw [h] at this; exact this
theorem look_up (p : Program) (gs : Array Goroutine) (rest : Rest) (w : World) : UpM w (look p gs rest w) := by
  unfold look
  dsimp only
  repeat' (first
      | exact True.intro
      | exact run_ok (by assumption)
      | exact UpM.heap (run_ok (by assumption))
      | split)
theorem waitingAt_up {rest : Rest} {cs : Array CommCase} {w w' : World} (h : waitingAt rest cs w = some w') : w'.drawn = w.drawn := by
  unfold waitingAt at h
  split at h
  · split at h
    · injection h with h; subst h; rfl
    · cases h
  · injection h with h; subst h; rfl
theorem comm_up (p : Program) (rest : Rest) (gs : Array Goroutine) (i : Nat) (g : Goroutine) (cs : Array CommCase) (b : Bool) (sh : CommShape) (w : World) : UpM w (communicate p rest gs i g cs b sh w).1 := by
  unfold communicate
  dsimp only
  split
  · exact True.intro
  split
  · split
    · split
      · exact Nat.le_of_eq (waitingAt_up (by assumption)).symm
      · exact True.intro
    · exact Nat.le_refl _
  split
  · exact True.intro
  next h =>
    have H := run_ok h
    clear h
    repeat' (first
      | exact True.intro
      | exact H
      | exact Nat.le_trans H (run_halt (by assumption))
      | exact UpM.heap H
      | exact UpM.heap (Nat.le_trans H (run_ok (by assumption)))
      | split)
theorem serve_up (p : Program) (m : Machine) (k : Nat) : UpM m.world (serve p m k) := by
  unfold serve
  dsimp only
  repeat' (first
      | exact True.intro
      | exact Nat.le_refl _
      | split)
theorem drain_up (w : World) (c : Nat) : (drain w c).2.drawn = w.drawn := by
  unfold drain
  split <;> rfl
theorem retime_up (m : Machine) (k : Nat) (t : Timer) (a b : Nat) : (retime m k t a b).2.world.drawn = m.world.drawn := by
  unfold retime
  dsimp only
  cases t.chan with
  | none => rfl
  | some c => exact drain_up _ _
theorem named_up {m : Machine} {var : Addr} {f : Nat → Timer → Value × Machine} {v : Value} {m' : Machine} (h : timerOp.named m var f = .ok (v, m')) (hf : ∀ k t, (f k t).2.world.drawn = m.world.drawn) : m'.world.drawn = m.world.drawn := by
  unfold timerOp.named at h
  split at h
  · injection h with h
    rw [← hf, h]
  · cases h
theorem opened_up {m m' : Machine} {var : Addr} (h : timerOp.opened m var = some m') : m'.world.drawn = m.world.drawn := by
  unfold timerOp.opened at h
  split at h
  · split at h
    · injection h with h; subst h; rfl
    · cases h
  · injection h with h; subst h; rfl
theorem timer_up {m m' : Machine} {op : TimerOp} {v : Value} (h : timerOp m op = .ok (v, m')) : m'.world.drawn = m.world.drawn := by
  unfold timerOp at h
  split at h
  · split at h
    · injection h with h; injection h with _ h; subst h; rfl
    · split at h
      · split at h
        · cases h
        · injection h with h; injection h with _ h; subst h; rfl
      · cases h
  · exact named_up h (fun _ _ => retime_up _ _ _ _ _)
  · split at h
    · next e => rw [named_up h (fun _ _ => (retime_up _ _ _ _ _).trans (opened_up e))]
    · cases h
  · injection h with h; injection h with _ h; subst h; rfl
theorem mrun_up (p : Program) (m : Machine) (i : Nat) (listen : Bool) : UpM m.world (runT p m i listen).1 := by
  unfold runT
  dsimp only
  have H := stepG_up p (i == 0) (m.gs.swapAt! i { (default : Goroutine) with status := .finished }).1 m.world listen
  revert H
  generalize stepG p (i == 0) (m.gs.swapAt! i { (default : Goroutine) with status := .finished }).1 m.world listen = s
  intro H
  cases s with
  | ended o w es => exact True.intro
  | comm g cs b sh w es => exact (comm_up _ _ _ _ _ _ _ _ _).trans H
  | go g w es => exact H
  | spawn g c w es => exact H
  | count g w es =>
    dsimp only
    split
    · exact True.intro
    · exact H
  | alone g on w es => exact H
  | collect g w es => exact (look_up _ _ _ _).trans H
  | watch g w es => exact H
  | newcoro g c d w es => exact H
  | coroswitch g c e w es =>
    dsimp only
    split
    · exact H
    · split
      · next h => exact Nat.le_trans H (endThrow_go h)
      · exact True.intro
    · exact True.intro
  | timer g op w es =>
    dsimp only
    split
    · next h => exact Nat.le_trans H (Nat.le_of_eq (timer_up h).symm)
    · split
      · next h => exact Nat.le_trans H (endThrow_go h)
      · exact True.intro
    · exact True.intro
    · exact True.intro
def UpV (w : World) : Move → Prop
  | .goroutine m _ => w.drawn ≤ m.world.drawn
  | .machine s _ => UpM w s
theorem UpV.trans {w w' : World} {s : Move} (h : UpV w' s) (k : w.drawn ≤ w'.drawn) : UpV w s := by
  cases s
  · exact Nat.le_trans k h
  · exact UpM.trans h k
theorem adv_up {w : World} {m : Machine} {t : Nat} {ops : Array MemOp} (h : w.drawn ≤ m.world.drawn) : UpV w (.machine (.next (m.advanceTo t)) ops) := h
theorem pick_up (p : Program) (rs : List Nat) (m : Machine) : UpV m.world (match (choose (.sched rs.length)).run p m.world with
      | .halt _ w => .machine (.ended (.stuck "sched" "") w)
      | .ok k world =>
        if rs.length ≤ 1 then .goroutine { m with world } (rs.getD k 0) else
        match (choose (.extern "sched.slice" 65536)).run p world with
        | .halt _ w => .machine (.ended (.stuck "sched.slice" "") w)
        | .ok n world => .goroutine { m with world, rest := { m.rest with slice := if n = 0 then none else some (rs.getD k 0, n) } } (rs.getD k 0)) := by
  split
  · exact True.intro
  next h =>
    have H := run_ok h
    clear h
    split
    · exact H
    · split
      · exact True.intro
      · next h2 => exact Nat.le_trans H (run_ok h2)
theorem askOn_up (p : Program) (m : Machine) : UpV m.world (askOn p m) := by
  unfold askOn
  dsimp only
  split
  · exact True.intro
  next k w h =>
    have H : m.world.drawn ≤ w.drawn := run_ok h
    clear h
    split
    · exact (serve_up _ _ _).trans H
    split
    · split
      · exact adv_up H
      · split
        · exact H
        · split <;> exact True.intro
    · split
      · exact (pick_up p _ { m with world := w }).trans H
      · split
        · exact True.intro
        · next h2 => exact (pick_up p _ { m with world := _ }).trans (Nat.le_trans H (run_ok h2))
        · next h2 => exact adv_up (Nat.le_trans H (run_ok h2))
        · next h2 =>
          have K := Nat.le_trans H (run_ok h2)
          exact (pick_up p _ (Machine.advanceTo { m with world := _ } _)).trans K
theorem ask_m (p : Program) (m : Machine) : UpV m.world (ask p m) := by
  unfold ask
  split
  · split
    · exact True.intro
    · next w h =>
      have K := run_ok h
      have H := look_up p m.gs m.rest w
      split
      · next m1 e => rw [e] at H; exact (askOn_up p m1).trans (Nat.le_trans K H)
      · exact H.trans K
    · next h => exact (askOn_up p { m with world := _ }).trans (run_ok h)
  · exact askOn_up p m
theorem move_up (p : Program) (m : Machine) : UpV m.world (move p m) := by
  unfold move
  split
  · split
    · exact Nat.le_refl _
    · exact True.intro
  · split
    · split
      · exact Nat.le_refl _
      · exact ask_m p { m with rest := { m.rest with slice := none } }
    · exact ask_m p m
theorem step_up {p : Program} {m m' : Machine} (h : step p m = .next m') : m.world.drawn ≤ m'.world.drawn := by
  unfold step stepT at h
  have H := move_up p m
  split at h
  · next m1 i e =>
    rw [e] at H
    have K := mrun_up p m1 i true
    rw [h] at K
    exact Nat.le_trans H K
  · next s ops e =>
    rw [e] at H
    dsimp only at h
    subst h
    exact H
theorem runN_up {p : Program} : ∀ {n : Nat} {m m' : Machine}, runN p n m = .next m' → m.world.drawn ≤ m'.world.drawn
  | 0, m, m', h => by injection h with h; subst h; exact Nat.le_refl _
  | n + 1, m, m', h => by
    unfold runN at h
    split at h
    · next e => exact Nat.le_trans (step_up e) (runN_up h)
    · next e k => exact absurd h (k _)
theorem steps_up {p : Program} {m m' : Machine} (h : Steps p m m') : m.world.drawn ≤ m'.world.drawn := by
  obtain ⟨n, hn⟩ := h
  exact runN_up hn
theorem calls_up {P : Program} {f : FuncId} {args : Array Value} {w : World} {v : Value} {R : World → Prop} (h : Calls P f args w fun e w' => e = .returned v ∧ R w') : Calls P f args w fun e w' => e = .returned v ∧ R w' ∧ w.drawn ≤ w'.drawn := fun cs => by
  obtain ⟨e, w', fr, ⟨he, hR⟩, hc, hf⟩ := h cs
  subst he
  exact ⟨_, w', fr, ⟨rfl, hR, steps_up hc⟩, hc, hf⟩
end Go.Proofs.YtgjbhlianlbflaaGreat.Drawn
