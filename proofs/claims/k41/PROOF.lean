import PyProof.Rows.All
import Wide.All
import OpenK.AllK
import Wide.FinOn
import HandS.ForMost
import HandS.Exc
import HandS.ExcOwn
import HandS.OwnEq
import HandS.TryMany
import HandS.ExcInit
import HandS.ExcIs
import HandS.ExcField
import KE.KExcIs
import HandS.SetKeys
import HandS.SetFor
import HandS.DictComp
import HandS.DeepEq
import HandS.Nested
import HandS.Comp
import KE.KDictCopyH
import PyProof.StrOps2
import KE.GoesEnum
import HandS.Walk
import HandS.IsInst
import HandS.EndTab
import HandS.Deep
import HandS.Star
import HandS.TupAny
import HandS.StrMore
import HandS.Conv
import HandS.WordsExc
import HandS.More
import PySem.Challenge.RW_changetables_k41_whole_kinds_and_changes
set_option Elab.async false
set_option linter.all false
set_option maxRecDepth 100000
section
set_option Elab.async false
set_option linter.all false
set_option maxRecDepth 100000
set_option maxHeartbeats 2000000
/-! Operators of instances with their own methods; a list's item changed in place. -/
namespace KX
open PySem PySem.Spec PyProof.Rows L2

section
variable {X : Cx} {CX : CXT} {k : Nat} {f C : Addr} {fd : FuncData} {ps : List Str} {sp : Sp} {E : XK}

/-- a def of one's own called by the machine itself, at any depth below the body -/
theorem own_run (F : FnOk X.prog X.w X.K X.mg X.base CX k f fd ps sp) (hb : Binds X.K fd ps []) (hx : Passes CX X E) {A : Around} (sb : Sub X k A)
    {pins : List (Addr × Obj)} {σ : L2.St} {H : Hp} {s : Shared} {us : List Value} {vs : List V} {Q : VK} (I : Inv X pins σ H s) (r : Vals vs us) (h : sp vs H Q E) :
    wpAny (model X.prog X.w) A (call (.ref f) us) (EP X pins σ Q) X.xe s := by
  have hl : us.length = ps.length := by rw [← r.length]; exact F.len _ _ _ _ h
  have e0 : Env0 X.prog X.w X.K X.mg X.base A X.stack s H := by
    have e := I.env0
    exact ⟨by rw [sb.fr]; exact e.frames, e.mod, e.bs, e.bsz, e.funs, e.frf, e.hok, e.bare⟩
  have hb' : BindsTo s fd ⟨us, []⟩ (ps.zip us) := by
    have q := hb s us I.kIn (by rw [List.append_nil]; exact hl)
    rw [List.append_nil] at q
    exact q
  refine wpAny_call (codeAny_mono (F.run A X.stack s H ⟨us, []⟩ us vs Q E sb.room e0 hb' r h) fun r' s' hq => ?_)
  cases r' with
  | error e => exact hx pins σ H s e s' I hq
  | ok fl =>
    cases fl with
    | ret u => exact I.after hq
    | next => exact False.elim hq
    | brk => exact False.elim hq
    | cont => exact False.elim hq

/-- x in o, x not in o: o's own __contains__ answers a bool -/
def rOwnIn (C : Addr) (neg : Bool) (sp : Sp) (E : XK) : R2 := fun x y H Q => ∃ a dx fs, y = .ref a ∧ H a = some (.ins C dx fs) ∧ sp [.ref a, x] H (fun v H' => ∃ b, v = .bl b ∧ Q (.bl (if neg then !b else b)) H') E
theorem op_ownIn (F : FnOk X.prog X.w X.K X.mg X.base CX k f fd ps sp) (hr : Room k X.A) (hb : Binds X.K fd ps []) (hx : Passes CX X E)
    (hs : PySem.W.findIn X.K (.ref C) "__contains__" = some (some (.ref f))) (hf : PySem.W.isFn X.K (.ref f) = true) : OpR X (compareOp .In) (rOwnIn C false sp E) := by
  intro pins s σ H x y v u Q I rx ry h
  obtain ⟨a, dx, fs, rfl, ha, q⟩ := h
  cases ry
  obtain ⟨mA, J, _⟩ := ins_get I.hok ha
  obtain ⟨od, J, _⟩ := J.look
  obtain ⟨m, hF⟩ := I.fr
  refine PySem.W.in_K hF I.ok.mod.kin J hs hf (thn (own_run (us := [.ref a, v]) (vs := [.ref a, x]) F hb hx ⟨hr, rfl⟩ I (.cons rfl (.cons rx .nil)) q) fun w s1 hh => ?_)
  obtain ⟨z, H1, I1, rz, b, ez, q1⟩ := hh
  subst ez
  cases rz
  exact wpAny_truthy_bool ⟨.bl _, H1, I1, rfl, q1⟩
theorem op_ownNotIn (F : FnOk X.prog X.w X.K X.mg X.base CX k f fd ps sp) (hr : Room k X.A) (hb : Binds X.K fd ps []) (hx : Passes CX X E)
    (hs : PySem.W.findIn X.K (.ref C) "__contains__" = some (some (.ref f))) (hf : PySem.W.isFn X.K (.ref f) = true) : OpR X (compareOp .NotIn) (rOwnIn C true sp E) := by
  intro pins s σ H x y v u Q I rx ry h
  obtain ⟨a, dx, fs, rfl, ha, q⟩ := h
  cases ry
  obtain ⟨mA, J, _⟩ := ins_get I.hok ha
  obtain ⟨od, J, _⟩ := J.look
  obtain ⟨m, hF⟩ := I.fr
  refine PySem.W.notIn_K hF I.ok.mod.kin J hs hf (thn (own_run (us := [.ref a, v]) (vs := [.ref a, x]) F hb hx ⟨hr, rfl⟩ I (.cons rfl (.cons rx .nil)) q) fun w s1 hh => ?_)
  obtain ⟨z, H1, I1, rz, b, ez, q1⟩ := hh
  subst ez
  cases rz
  exact wpAny_truthy_bool ⟨.bl _, H1, I1, rfl, q1⟩

/-- len(o) by its own __len__ -/
def rOwnLen (C : Addr) (sp : Sp) (E : XK) : List V → Hp → VK → Prop := fun xs H Q => ∃ a dx fs, xs = [.ref a] ∧ H a = some (.ins C dx fs) ∧ sp [.ref a] H (fun v H' => ∃ n : Int, v = .int n ∧ 0 ≤ n ∧ n < 2 ^ 63 ∧ Q (.int n) H') E
theorem call_ownLen (F : FnOk X.prog X.w X.K X.mg X.base CX k f fd ps sp) (hr : Room (k + 1) X.A) (hb : Binds X.K fd ps []) (hx : Passes CX X E)
    (hs : PySem.W.findIn X.K (.ref C) "__len__" = some (some (.ref f))) (hf : PySem.W.isFn X.K (.ref f) = true) : CallR X (.builtin "len") (rOwnLen C sp E) := by
  intro pins s σ H xs us Q I r h
  obtain ⟨a, dx, fs, rfl, ha, q⟩ := h
  obtain ⟨u, rfl, ru⟩ := vals1 r
  cases ru
  obtain ⟨mA, J, _⟩ := ins_get I.hok ha
  obtain ⟨od, J, _⟩ := J.look
  obtain ⟨m, hF⟩ := I.fr
  have sb : Sub X k X.A.in1 := ⟨hr.in1, rfl⟩
  refine PySem.W.len_K hF I.ok.mod.kin J hs hf (thn (own_run (us := [.ref a]) (vs := [.ref a]) F hb hx sb I (.cons rfl .nil) q) fun w s1 hh => ?_)
  obtain ⟨z, H1, I1, rz, n, ez, h0, h1, q1⟩ := hh
  subst ez
  obtain ⟨t, rfl⟩ := rz
  exact ⟨⟨h0, h1⟩, .int n, H1, I1.tok _, ⟨_, rfl⟩, q1⟩

/-- o[i] by its own __getitem__ -/
def rOwnIx (C : Addr) (sp : Sp) (E : XK) : R2 := fun x y H Q => ∃ a dx fs, x = .ref a ∧ H a = some (.ins C dx fs) ∧ sp [.ref a, y] H Q E
theorem pe_ownIx {a b : Expr} {ta tb : TE} {pos : Pos} (F : FnOk X.prog X.w X.K X.mg X.base CX k f fd ps sp) (hr : Room (k + 1) X.A) (hb : Binds X.K fd ps []) (hx : Passes CX X E)
    (hs : PySem.W.findIn X.K (.ref C) "__getitem__" = some (some (.ref f))) (hf : PySem.W.isFn X.K (.ref f) = true) (hfn : PySem.W.fnIn X.K f = true) (ha : PE X a ta) (hb' : PE X b tb)
    (hsl : ∀ x i, subscripted b true (.ref x) i = runValue (.builtin "lifetime.subscript" ⟨[.ref x, i], []⟩)) : PE X (.Subscript a b pos) (tOp (rOwnIx C sp E) ta tb) := by
  refine ⟨fun pins s σ H Q I h => ?_⟩
  refine Subscript_ (binT ha hb' I h fun v u s2 x y H2 I2 rx ry q => ?_)
  obtain ⟨p, dx, fs, rfl, hp, q⟩ := q
  cases rx
  obtain ⟨mA, J, _⟩ := ins_get I2.hok hp
  obtain ⟨od, J, _⟩ := J.look
  obtain ⟨m, hF⟩ := I2.fr
  exact PySem.W.sub_K hF I2.ok.mod.kin J hs hfn hf (own_run (us := [.ref p, u]) (vs := [.ref p, y]) F hb hx (⟨hr.in1, rfl⟩ : Sub X k X.A.in1) I2 (.cons rfl (.cons ry .nil)) q) (hsl _ _)

/-- o == p, o != p by o's own __eq__ (p of any kind that has no == to be asked first) -/
def rOwnEq (C : Addr) (neg : Bool) (sp : Sp) (E : XK) : R2 := fun x y H Q => ∃ a dx fs, x = .ref a ∧ H a = some (.ins C dx fs) ∧ sp [.ref a, y] H (fun v H' => ∃ b, v = .bl b ∧ Q (.bl (if neg then !b else b)) H') E
end

/-- xs[i] of a list, to be changed in place -/
theorem get_list {X : Cx} : PGet X (rIxL X.K) := by
  intro pins s σ H o i ov iv Q I ro ri h
  obtain ⟨p, xs, j, z, rfl, rfl, hq, he, q⟩ := h
  cases ro
  obtain ⟨t, rfl⟩ := ri
  obtain ⟨its, r, pl, hz⟩ := I.list hq
  obtain ⟨n, h1, h2, h3, h4, h5⟩ := atI_get he
  obtain ⟨w, ew, rw'⟩ := r.get h2
  have hl := r.length
  have hn := line63
  have hfin : EP X pins σ Q w s := ⟨z, H, I, rw', q⟩
  by_cases h0 : 0 ≤ j
  · have hj : j.toNat = n := by
      rw [seqIndex_of h0 h5] at h1
      exact Option.some.inj h1
    exact wpAny_getItem_list (x := w) pl.isList h0 (by omega) (by rw [hj]; simpa using ew) hfin
  · have hj : (j + (its.toArray.size : Int)).toNat = n := by
      rw [seqIndex_neg (by omega) h4] at h1
      rw [List.size_toArray, ← hl]
      exact Option.some.inj h1
    exact wpAny_getItem_list_neg (x := w) pl.isList (by omega) (by rw [List.size_toArray] <;> omega) (by omega) (by rw [hj]; simpa using ew) hfin
end KX

end

section
set_option Elab.async false
set_option linter.all false
set_option maxRecDepth 100000
set_option maxHeartbeats 2000000
/-! Several except clauses that name what they caught; isinstance of a caught error that has fields. -/
namespace KX
open PySem PySem.Spec PyProof.Rows L2

/-- one clause: the class that it names, the slot of its name, its suite -/
structure Clause where
  c : Value
  i : Nat
  ts : Addr → Value → Option Addr → TS
/-- the ends of a suite whose slot i is forgotten behind it -/
def forget (i : Nat) (D : Ends) : Ends := { nx := fun σ H => D.nx (σ.set i none) H, rt := D.rt, bk := fun σ H => D.bk (σ.set i none) H, ct := fun σ H => D.ct (σ.set i none) H }
/-- what the clauses wish of an exception of the body -/
def wClauses (K : PySem.W.Frag) (Wz : WX) (D : Ends) : List Clause → WX
  | [] => Wz
  | k :: r => fun cls d σ H => ∃ b, PySem.W.exmOne K cls k.c = some b ∧ (b = true → ∀ a, H a = none → k.ts a cls d (forget k.i D) (σ.set k.i (some (.ref a))) H) ∧ (b = false → wClauses K Wz D r cls d σ H)
inductive Clauses (X : Cx) : List ExceptHandler → List Clause → Prop
  | nil : Clauses X [] []
  | cons {x n : Str} {k : Clause} {st₀ : Stmt} {sts : List Stmt} {q1 q2 : Pos} {hds : List ExceptHandler} {l : List Clause} (nm : Names X x k.c) (hi : X.N[k.i]? = some n) (hk : X.env.kindOf n = some .local)
      (su : ∀ (a : Addr) (oe : Obj) (cls : Value) (d : Option Addr) (pn : List (Addr × Obj)), Zc cls d oe → (∃ vs, oe.data = .fields vs) → PSs (X.suite a ((a, oe) :: pn)) (st₀ :: sts) (k.ts a cls d)) (r : Clauses X hds l) :
      Clauses X (.ExceptHandler (some (.Name x q1)) (some n) (st₀ :: sts) q2 :: hds) (k :: l)

section
variable {X : Cx} {body : List Stmt} {h₀ : ExceptHandler} {hds : List ExceptHandler} {l : List Clause} {pos : Pos} {tb : WX → TS} {Wz : WX} {pins : List (Addr × Obj)}

/-- the clauses looked through, one by one, for an exception at a that has landed in this frame -/
theorem clauses_run (ok : X.Ok) (fr : X.A.frames = some (X.env :: X.outer)) (stk : X.stack = X.env :: X.outer) (hf : X.env.frame = some X.env.locals) (nd : X.N.Nodup) (tk : Takes X Wz)
    {a : Addr} {B : Heap} {sI : Shared} {σ : L2.St} {H : Hp} {cls : Value} {d : Option Addr} {D : Ends} {s' : Shared} (J : Inv X pins σ H sI)
    (nb : ∀ b o, sI.heap.get? b = some o → b ∉ frs X.stack → B.get? b = some o) (os : s'.os = sI.os) (ag : AllBare s'.gens) (na : H a = none)
    {g : Heap} (up : sI.heap.UpToSlots g) (fl : HandSPX.FlyingZ B (X.env :: X.outer) a (Zc cls d) g) :
    ∀ {hds : List ExceptHandler} {l : List Clause}, Clauses X hds l → wClauses X.K Wz D l cls d σ H → wpAny (model X.prog X.w) X.A (handleBy (.ref a) X.env hds) (SP X pins D) X.xe { s' with heap := g } := by
  have Jg : Inv X pins σ H { s' with heap := g } := J.landed nb fl.1 up os ag
  obtain ⟨oe, vs, hoe, hz, hdat⟩ := fl.there
  have out : a ∉ frs (X.env :: X.outer) := fun hm => by
    obtain ⟨_, o2, e2, hnf⟩ := fl.2.2.1.mem hm
    rw [hoe] at e2
    cases e2
    exact hnf _ hdat
  have nL : a ≠ X.env.locals := fun z => out (List.mem_filterMap.mpr ⟨X.env, List.mem_cons_self, by rw [hf, z]⟩)
  have nF : a ∉ X.fs := fun hm => by
    obtain ⟨env, he, q⟩ := List.mem_filterMap.mp hm
    exact out (List.mem_filterMap.mpr ⟨env, List.mem_cons_of_mem _ he, q⟩)
  have Su := Jg.suite hoe hdat na nL nF
  intro hds l hc
  induction hc with
  | nil =>
    intro w
    refine wpAny_handleBy_nil ?_
    obtain ⟨_, _, _, oe2, vs2, T, oT, ts2, g1, _, g3, g4, _⟩ := id fl
    have last : wpAny (model X.prog X.w) X.A (setFlight (.ref a) X.env.frame) (fun _ s4 => wpAny (model X.prog X.w) X.A (throw (.ref a) : Sem Flow) (SP X pins D) X.xe s4) X.xe { s' with heap := g } := by
      rw [hf]
      refine HandSPX.setFlight_upZ fl fun g' held up' => wpAny_throw (tk _ _ ⟨a, B, sI, pins, σ, H, cls, d, rfl, J, nb, up.trans up', .inr (.inr ?_), na, os, ag, w⟩)
      rw [stk]
      exact held
    unfold PySem.passOn
    refine wpAny_bind (wpAny_field g1 g3 g4 ?_)
    rw [if_neg (by simp : ¬ ((Value.ref T == Value.none) = true))]
    first
      | exact wpAny_bind (wpAny_pure (wpAny_bind last))
      | exact wpAny_bind last
  | @cons x n k st₀ sts q1 q2 hds2 l2 nm hi hk su r ih =>
    intro w
    obtain ⟨b, hb, yes, no⟩ := w
    refine wpAny_handleBy_cons (codeAny_handlers_test ?_) (fun q => nomatch q)
    have isCls : PySem.W.Looks (model X.prog X.w) g (typeOf (.ref a)) cls := fun A Q E s kk q => wpAny_typeOf_ref (kk _ _ hoe) (by rw [hz.1]; exact q)
    have isOne := PySem.W.exm_one (M := model X.prog X.w) Jg.kIn isCls hb
    have named : ∀ {Q : Value → Shared → Prop} {E : Value → Shared → Prop}, Q k.c { s' with heap := g } → wpAny (model X.prog X.w) (X.A.mark (some (.ref a))) (eval (.Name x q1) X.env) Q E { s' with heap := g } := fun {Q E} q => by
      obtain ⟨hg, hdb, m | ⟨m, bt, nn⟩⟩ := nm
      · exact ld_glob (X := X.suite a ((a, oe) :: (X.pn ++ pins))) Su hg m q hdb
      · exact ld_blt (X := X.suite a ((a, oe) :: (X.pn ++ pins))) Su hg m bt q nn hdb
    refine named (isOne.here ?_)
    cases b with
    | false =>
      show wpAny _ X.A (handleBy (.ref a) X.env hds2) _ _ _
      exact ih (no rfl)
    | true =>
      refine codeAny_handlers_suite_as (HandSPX.lands_againZ fl fun g' fl' up' => ?_)
      obtain ⟨oe2, vs2, e2, z2, d2⟩ := fl'.there
      have J2 : Inv X pins σ H { s' with heap := g' } := J.landed nb fl'.1 (up.trans up') os ag
      have Su2 := J2.suite e2 d2 na nL nF
      refine store_ok (X := X.suite a ((a, oe2) :: (X.pn ++ pins))) (v := .ref a) Su2 nd hi (.inl hk) rfl (fun s5 S5 => ?_) (.inr hk)
      have body := (su a oe2 cls d (X.pn ++ pins) z2 ⟨_, d2⟩).run [] s5 _ H _ S5 (yes rfl a na)
      refine wpAny_mono body (fun f s6 hsp => ?_) (fun _ _ z => False.elim z)
      have gone : ∀ {σ6 : L2.St} {H6 : Hp} {Q : Shared → Prop}, Inv (X.suite a ((a, oe2) :: (X.pn ++ pins))) [] σ6 H6 s6 → (∀ s7, Inv X pins (σ6.set k.i none) H6 s7 → Q s7) →
          wpAny (model X.prog X.w) X.A (do bindName X.env n .none; unbindBehindTheSuite X.env n q2) (fun _ s7 => Q s7) X.xe s6 := fun {σ6 H6 Q} S6 hq => gone_ok (S6.unsuite ok) nd hi hk hq
      cases f with
      | ret u =>
        obtain ⟨v6, σ6, H6, S6, r6, q6⟩ := hsp
        exact gone S6 fun s7 J7 => ⟨v6, _, H6, J7, r6, q6⟩
      | next =>
        obtain ⟨σ6, H6, S6, q6⟩ := hsp
        exact gone S6 fun s7 J7 => ⟨_, H6, J7, q6⟩
      | brk =>
        obtain ⟨σ6, H6, S6, q6⟩ := hsp
        exact gone S6 fun s7 J7 => ⟨_, H6, J7, q6⟩
      | cont =>
        obtain ⟨σ6, H6, S6, q6⟩ := hsp
        exact gone S6 fun s7 J7 => ⟨_, H6, J7, q6⟩

/-- try: body, then clauses «except x as n» -/
theorem ps_try_clauses (stk : X.stack = X.env :: X.outer) (hf : X.env.frame = some X.env.locals) (nd : X.N.Nodup) (tk : Takes X Wz)
    (hb : ∀ (W : WX) (pn : List (Addr × Obj)) (xe : Value → Shared → Prop), Takes (X.tr pn xe) W → PassesOwn (model X.prog X.w) X.A X.env xe → PSs (X.tr pn xe) body (tb W))
    (hh : Clauses X (h₀ :: hds) l) : PS X (.Try body (h₀ :: hds) [] [] pos) (fun D σ H => tb (wClauses X.K Wz D l) D σ H) := by
  refine ⟨fun pins s σ H D I h => ?_⟩
  have ok := I.ok
  have fr : X.A.frames = some (X.env :: X.outer) := by rw [ok.frames, stk]
  let catch_ : Value → Shared → Prop := fun e s₁ => wpAny (model X.prog X.w) X.A (noteFrame e X.env) (fun _ s₂ => wpAny (model X.prog X.w) X.A (setFlight e none)
    (fun _ s₃ => wpAny (model X.prog X.w) X.A (handleBy e X.env (h₀ :: hds)) (SP X pins D) X.xe s₃) X.xe s₂) X.xe s₁
  have caught : Takes (X.tr (X.pn ++ pins) catch_) (wClauses X.K Wz D l) := by
    rintro u s' ⟨a, B, sI, pins', σ', H', cls, d, rfl, J', nb, up, sky, na, os, ag, w⟩
    have J : Inv X pins σ' H' sI := J'.ofTry ok
    have sky' : Sky B (X.env :: X.outer) a (Zc cls d) X.env.locals s'.heap := by
      rw [← stk]
      exact sky
    show wpAny (model X.prog X.w) X.A (noteFrame (.ref a) X.env) _ _ _
    exact Sky.land Zc.steady fr hf sky' fun g fl up2 => clauses_run ok fr stk hf nd tk J nb os ag na (up.trans up2) fl hh w
  refine wpAny_Try_except (wpAny_mono ((hb _ (X.pn ++ pins) catch_ caught PassesOwn.looking).run [] s σ H D (I.toTry _) h) (fun f s1 hsp => ?_) fun _ _ z => z)
  cases f with
  | ret u =>
    obtain ⟨v, σ1, H1, J1, r1, q1⟩ := hsp
    exact ⟨v, σ1, H1, J1.ofTry ok, r1, q1⟩
  | next =>
    obtain ⟨σ1, H1, J1, q1⟩ := hsp
    exact wpAny_execs_nil ⟨σ1, H1, J1.ofTry ok, q1⟩
  | brk =>
    obtain ⟨σ1, H1, J1, q1⟩ := hsp
    exact ⟨σ1, H1, J1.ofTry ok, q1⟩
  | cont =>
    obtain ⟨σ1, H1, J1, q1⟩ := hsp
    exact ⟨σ1, H1, J1.ofTry ok, q1⟩
end
end KX

end

section
set_option Elab.async false
set_option linter.all false
set_option maxRecDepth 100000
set_option maxHeartbeats 2000000
namespace KX
open PySem PySem.Spec PyProof.Rows L2
/-- what the class at D must say for isinstance and for fields -/
structure ErrC (K : PySem.W.Frag) (D : Addr) : Prop where
  cl : (PySem.W.clsIn K D).isSome = true
  ga : PySem.W.findIn K (.ref D) "__getattribute__" = some (some (.builtin "BaseException.__getattribute__"))
  gg : PySem.W.findIn K (.ref D) "__getattr__" = some none
  ex : PySem.W.subIn K (.ref D) (.type "BaseException") = some true
  hd : PySem.W.hasDictIn K D = true
  cc : PySem.W.findIn K (.ref D) "__class__" = some (some (.builtin "object.__class__"))
  cg : PySem.W.specialIn K (.builtin "object.__class__") "__get__" = some (some (.builtin "getset_descriptor.__get__"))
  ct : PySem.W.takesIn K (.builtin "object.__class__") = some true
  mo : PySem.W.mroIn K D (.type "object") = some true
theorem ErrC.xf {K : PySem.W.Frag} {D : Addr} (T : ErrC K D) : XfC K D := ⟨T.ga, T.gg, T.ex, T.hd⟩
/-- the error's own dict, if it has one, is known -/
def DictKnown (d : Option Addr) (H : Hp) : Prop := d = none ∨ ∃ dd fs, d = some dd ∧ H dd = some (.xd fs)
/-- isinstance(error, c), error the one that the suite holds (at a; its class D, its dict d) -/
def rIsErr (K : PySem.W.Frag) (a D : Addr) (cls : Value) (d : Option Addr) : List V → Hp → VK → Prop := fun xs H Q => ∃ (c : V) (cv : Value) (b : Bool), cls = .ref D ∧ xs = [.ref a, c] ∧ (∀ u, RelV c u → u = cv) ∧ PySem.W.kitOne K (.ref D) cv = some b ∧ DictKnown d H ∧ Q (.bl b) H
theorem call_isErr {X : Cx} {a D : Addr} {oe : Obj} {cls : Value} {d : Option Addr} {pn : List (Addr × Obj)} (T : ErrC X.K D) (hz : Zc cls d oe) (hf : ∃ vs, oe.data = .fields vs) : CallR (X.suite a ((a, oe) :: pn)) (.builtin "isinstance") (rIsErr X.K a D cls d) := by
  intro pins s σ H xs us Q I r h
  obtain ⟨c, cv, b, ec, rfl, hcv, hk, dk, q⟩ := h
  subst ec
  obtain ⟨u, w', rfl, ru, rw'⟩ := vals2 r
  cases ru
  have ew := hcv _ rw'
  subst ew
  obtain ⟨hget, _⟩ := I.pin (a, oe) (List.mem_append_left _ List.mem_cons_self)
  obtain ⟨vs, hv⟩ := hf
  have nc : PySem.W.notCls oe = true := by
    unfold PySem.W.notCls
    rw [hv]
    all_goals rfl
  have fin : ∀ od : Option Obj, PySem.W.InstAt s.heap a oe D od → wpAny (model X.prog X.w) (X.suite a ((a, oe) :: pn)).A (call (.builtin "isinstance") [.ref a, w']) (EP (X.suite a ((a, oe) :: pn)) pins σ Q) (fun _ _ => False) s := fun od J =>
    PySem.W.kia_one (PySem.W.kitx_exc (od := od) (ox := oe) (gt := none) T.cl T.ga T.gg T.ex T.cc T.cg T.ct T.mo) I.kIn J hk (fun z => nomatch z) fun tk => ⟨.bl b, H, I.kept (t' := tk) fun _ _ z => z, rfl, q⟩
  rcases dk with e | ⟨dd, fs, e, hx⟩
  · subst e
    exact fin none ⟨hget, hz.1, nc, by rw [hz.2]; trivial⟩
  · subst e
    have ob : ObjOk X.prog X.w H s.heap dd (.xd fs) := I.hok dd _ hx
    obtain ⟨mA, hns, _⟩ := ob
    obtain ⟨od, ho, _⟩ := lookIn_ns hns
    exact fin (some od) ⟨hget, hz.1, nc, by rw [hz.2]; exact ho⟩
end KX

end

section
set_option Elab.async false
set_option linter.all false
set_option maxRecDepth 100000
set_option maxHeartbeats 4000000
/-! len(set(t)) of a tuple of keys (ints and texts): how many differ. -/
namespace KX
open PySem PySem.Spec PyProof.Rows L2

/-- j stands in l -/
def has {α : Type} [DecidableEq α] (l : List α) (j : α) : Bool := decide (j ∈ l)
theorem has_app {α : Type} [DecidableEq α] (l : List α) (k j : α) : has (l ++ [k]) j = (has l j || decide (j = k)) := by
  unfold has
  simp [List.mem_append]
/-- how many of the first i differ -/
def nDiff {α : Type} [DecidableEq α] (ks : List α) : Nat → Nat
  | 0 => 0
  | i + 1 => match ks[i]? with
    | some k => if has (ks.take i) k = true then nDiff ks i else nDiff ks i + 1
    | none => nDiff ks i
theorem nDiff_succ {α : Type} [DecidableEq α] {ks : List α} {i : Nat} {k : α} (h : ks[i]? = some k) : nDiff ks (i + 1) = if has (ks.take i) k = true then nDiff ks i else nDiff ks i + 1 := by
  rw [nDiff.eq_2, h]
theorem nDiff_le {α : Type} [DecidableEq α] (ks : List α) : ∀ i, nDiff ks i ≤ i
  | 0 => Nat.le_refl _
  | i + 1 => by
    have ih := nDiff_le ks i
    unfold nDiff
    split
    · split <;> omega
    · omega
theorem nDiff_nodup {α : Type} [DecidableEq α] (ks : List α) : ∀ i, i ≤ ks.length → (nDiff ks i = i ↔ (ks.take i).Nodup)
  | 0, _ => by simp [nDiff]
  | i + 1, h => by
    have ih := nDiff_nodup ks i (by omega)
    have le := nDiff_le ks i
    have hg : ks[i]? = some (ks[i]'(by omega)) := List.getElem?_eq_getElem (by omega)
    unfold nDiff
    rw [hg, List.take_add_one, hg]
    simp only [Option.toList_some]
    split
    · rename_i hm
      have hm : ks[i]'(by omega) ∈ ks.take i := of_decide_eq_true hm
      constructor
      · intro e
        omega
      · intro hn
        exact absurd rfl ((List.nodup_append.mp hn).2.2 _ hm _ (by simp))
    · rename_i hm
      have hm : ¬ ks[i]'(by omega) ∈ ks.take i := fun z => hm (decide_eq_true z)
      constructor
      · intro e
        have e' : nDiff ks i = i := by omega
        refine List.nodup_append.mpr ⟨ih.mp e', by simp, fun a ha b hb z => ?_⟩
        simp at hb
        rw [hb] at z
        exact hm (z ▸ ha)
      · intro hn
        rw [ih.mpr (List.nodup_append.mp hn).1]

/-- the object of a set just made -/
abbrev set0 (w : World) : Obj := { cls := .type "set", dict := none, data := .set #[] 0 (.fresh 0 0 (!w.params.followText "set-order")) }
section
variable {P : Program} {w : World} {A : Around} {E : Value → Shared → Prop} {s : Shared}
/-- the turns of an update by a walk that yields the keys ks -/
theorem keys_update {I : Addr} {fp wr : List Addr} {G : Array GenState → Array GenState → Prop} {n : Nat} {Pv : Nat → Value → Prop} {St : Nat → Shared → Prop} {R : Result → Shared → Prop} (W : WalksS P w A.in1 I fp wr G n Pv St) (S : Addr) (out : S ∉ fp) (ks : List Key)
    (hn : n = ks.length) (room : ks.length + 1 < scanBound) (yields : ∀ i v, Pv i v → ∃ k, ks[i]? = some k ∧ keyIs k v = true ∧ v.scannable = true) :
    ∀ (m i : Nat) (s : Shared), n - i = m → i ≤ n → St i s → s.heap.SetOf (mixKind P w) S (has (ks.take i)) (nDiff ks i) →
      (∀ s', Moved (S :: wr) G s s' → s'.heap.SetOf (mixKind P w) S (has ks) (nDiff ks n) → R (.ok (.ret .none)) s') → codeAny (model P w) A (.builtin "set.update.loop" ⟨[.ref S, .ref I], []⟩) R s := by
  have outw : S ∉ wr := fun h => out (W.sub _ h)
  have more : ∀ b ∈ wr, b ∈ S :: wr := fun b hb => List.mem_cons_of_mem _ hb
  intro m
  induction m with
  | zero =>
    intro i s hm hi st hS fin
    obtain rfl : i = n := by omega
    refine codeAny_builtin F.entry_set_update_loop ?_
    rw [Around.under_plainId F.plain_set_update_loop _]
    show wpAny _ A.in1 (pyNext (.ref I) >>= _) _ _ s
    refine wpAny_bind (W.done s _ _ st fun s' mv => ?_)
    rw [show ks.take i = ks from List.take_of_length_le (by omega)] at hS
    show wpAny _ A.in1 (ret Value.none) _ _ s'
    exact wpAny_pure (fin s' (mv.mono more) (setOf_at hS fun o e => mv.heap S o outw e))
  | succ m ih =>
    intro i s hm hi st hS fin
    have lt : i < n := by omega
    refine codeAny_builtin F.entry_set_update_loop ?_
    rw [Around.under_plainId F.plain_set_update_loop _]
    show wpAny _ A.in1 (pyNext (.ref I) >>= _) _ _ s
    refine wpAny_bind (W.item i s _ _ lt st fun v s' pv st' mv => ?_)
    obtain ⟨k, hk, ik, sc⟩ := yields i v pv
    have hS' := setOf_at hS fun o e => mv.heap S o outw e
    show wpAny _ A.in1 (holding [v] (setAdd S v) >>= _) _ _ s'
    refine wpAny_bind (wpAny_holding ?_)
    unfold setAdd
    refine wpAny_holding (wpAny_bind ((mixKind P w).pyHash (k := k) ik ?_))
    have le := nDiff_le ks i
    refine wpAny_setAddHashed_of (knd := mixKind P w) (s := { s' with toks := s'.toks + 1 }) ik sc hS' (by omega) fun h' sb hS2 => ?_
    have ei : nDiff ks (i + 1) = if has (ks.take i) k = true then nDiff ks i else nDiff ks i + 1 := by
      exact nDiff_succ hk
    have ej : has (ks.take (i + 1)) = fun j => has (ks.take i) j || decide (j = k) := by
      funext j
      rw [List.take_add_one, hk]
      exact has_app _ _ _
    have hS3 : h'.SetOf (mixKind P w) S (has (ks.take (i + 1))) (nDiff ks (i + 1)) := by
      rw [ei, ej]
      exact hS2
    refine wpAny_pure ⟨plainId_quiet F.plain_set_update_loop _, ih (i + 1) _ (by omega) lt (W.frame _ s' _ _ st' (Nat.le_succ _) fun b hb o e => ?_) hS3 fun s2 mv2 hS4 => ?_⟩
    · rw [sb.2 b fun z => out (by rw [← z]; exact hb)]
      exact e
    · refine fin s2 (Moved.trans W.gtrans ((mv.mono more).then_heap (Nat.le_succ _) fun b o hb e => ?_) mv2) hS4
      rw [sb.2 b fun z => hb (by rw [z]; exact List.mem_cons_self)]
      exact e
/-- the keys of a tuple's items -/
def KeysAre (us : List Value) (ks : List Key) : Prop := Paired (fun v k => keyIs k v = true ∧ v.scannable = true) us ks
theorem KeysAre.get : ∀ {us : List Value} {ks : List Key} {i : Nat} {v : Value}, KeysAre us ks → us[i]? = some v → ∃ k, ks[i]? = some k ∧ keyIs k v = true ∧ v.scannable = true
  | _, _, _, _, .nil, e => by simp at e
  | _, _, 0, v, .cons h _, e => by
    simp at e
    subst e
    exact ⟨_, rfl, h⟩
  | _, _, i + 1, v, .cons _ t, e => by
    obtain ⟨k, h1, h2⟩ := KeysAre.get (i := i) t (by simpa using e)
    exact ⟨k, by simpa using h1, h2⟩
theorem set0_of {h : Heap} {a : Addr} (e : h.get? a = some (set0 w)) : h.SetOf (mixKind P w) a (has []) (nDiff ([] : List Key) 0) :=
  ⟨_, #[], 0, _, e, ⟨rfl, rfl, rfl⟩, rfl, (fun e he => by simp at he), (fun k => by simp [has]), (by decide), (by rfl), rfl⟩
theorem set_of_tuple {l : Addr} {its : List Value} (ks : List Key) {Q : Value → Shared → Prop} (hh : A.handled = none) (hl : s.heap.IsTuple l its.toArray) (hk : KeysAre its ks) (hb : ks.length + 1 < scanBound)
    (h : ∀ (h' : Heap) (tk : Nat), h'.SetOf (mixKind P w) s.heap.objs.size (has ks) (nDiff ks ks.length) → (∀ b o, s.heap.get? b = some o → h'.get? b = some o) → Q (.ref s.heap.objs.size) { s with heap := h', toks := tk }) :
    wpAny (model P w) A (call (.type "set") [.ref l]) Q E s := by
  have hsz : its.toArray.size = ks.length := by
    rw [List.size_toArray]
    exact Paired.length hk
  obtain ⟨c, tl, hmro⟩ := F.called_set.mro
  have t1 := F.called_set.made
  have t2 := F.called_set.sub
  have t3 := F.called_set.notType
  have t4 := F.called_set.canCreate
  have t5 := F.typeCall_set_1 (.ref l)
  let N : Addr := s.heap.objs.size
  refine wpAny_call (codeAny_of_tree ?_)
  show wpAny _ _ (callAny (.type "set") _) _ _ _
  refine wpAny_pure ⟨Code.quiet_builtin _ (by decide +kernel), codeAny_builtin F.entry_type_call ?_⟩
  rw [Around.under_plain (weight_type_call_type "set" [.ref l] []) rfl]
  repeat (any_goals (first | assumption | wp_step))
  have new := code_set_led1 (P := P) (w := w) (A := A.in1) (s := s) (.ref l) (E := E) (Q₁ := fun obj s₁ => obj = .ref s.heap.objs.size ∧ s₁ = { s with heap := s.heap.push (set0 w) }) ⟨rfl, rfl⟩
  refine codeAny_mono new fun r s₁ hr => ?_
  cases r with
  | error e => exact hr
  | ok fl =>
    cases fl with
    | next => exact hr.elim
    | brk => exact hr.elim
    | cont => exact hr.elim
    | ret obj =>
      obtain ⟨rfl, rfl⟩ := hr
      have at0 : (s.heap.push (set0 w)).get? s.heap.objs.size = some (set0 w) := Heap.get?_push_size _ rfl
      have ty0 : Shared.TypeIs { s with heap := s.heap.push (set0 w) } (.ref s.heap.objs.size) "set" := ⟨_, at0, rfl⟩
      have u1 := F.called_set.init.lookup
      have u2 := F.called_set.init.bind (.ref s.heap.objs.size)
      repeat (any_goals (first | assumption | wp_step))
      refine codeAny_mono (codeAny_call_builtin (R := wants (fun r s₂ => r = .none ∧ ∃ h' tk, s₂ = { s with heap := h', toks := tk } ∧ h'.SetOf (mixKind P w) s.heap.objs.size (has ks) (nDiff ks ks.length) ∧
        ∀ b o, s.heap.get? b = some o → h'.get? b = some o) E) F.called_set.init.plain F.entry_set_init (check_set_init_1 ty0 ?_)) fun r₂ s₂ hr₂ => ?_
      · obtain ⟨⟨oc, odd, oda, osl⟩, ho, hc, nl, hd⟩ := hl
        simp only at hc hd
        subst hc hd
        have ho1 : (s.heap.push (set0 w)).get? l = some { cls := .type "tuple", dict := odd, data := .seq its.toArray nl, slots := osl } := Heap.get?_push_of_some _ ho
        have tup1 : (s.heap.push (set0 w)).IsTuple l its.toArray := ⟨_, ho1, rfl, nl, rfl⟩
        have v1 := F.sub_tuple_set
        have v2 := F.sub_tuple_frozenset
        have v3 : (Value.type "tuple" == Value.type "dict") = false := by decide
        have hlS : l < s.heap.objs.size := Heap.lt_size ho
        have hh3 : A.in1.in1.in1.handled = none := by simp [hh]
        have sz1 : (s.heap.push (set0 w)).objs.size = s.heap.objs.size + 1 := Heap.size_push ..
        unfold Builtin.«set.__init__» noKeywords Builtin.Frozenset.updateFrom
        generalize hPI : pyIter = PI
        wp_walk
        subst hPI
        refine wpAny_pyIter_tuple tup1 (wpAny_bind (wpAny_runValue ?_))
        refine keys_update ((Walks.tuple hh3 (s.heap.push (set0 w)).objs.size l (by rw [sz1]; exact Nat.ne_of_lt (Nat.lt_succ_of_lt hlS)) its.toArray).toS) s.heap.objs.size ?out ks hsz hb (fun i v hv => hk.get (by simpa using hv)) (its.toArray.size - 0) 0 _ (by omega) (Nat.zero_le _)
          ⟨⟨_, Heap.get?_push_size _ rfl, rfl, rfl⟩, tup1.push _⟩ (set0_of (Heap.get?_push_of_some _ at0)) fun s' mv hS' => ?fin
        case out =>
          rw [sz1]
          simp only [List.mem_cons, List.not_mem_nil, or_false, not_or]
          exact ⟨Nat.ne_of_lt (Nat.lt_succ_self _), Nat.ne_of_gt hlS⟩
        case fin =>
          rw [hsz] at hS'
          obtain ⟨h', g2, d', tk', os'⟩ := s'
          have e1 : g2 = s.gens := mv.gens
          have e2 : d' = s.drawn := mv.drawn
          have e3 : os' = s.os := mv.os
          subst e1 e2 e3
          show wpAny _ _ _ _ _ _
          refine wpAny_pure ?_
          show wpAny _ _ (ret Value.none) _ _ _
          refine wpAny_pure ⟨rfl, h', tk', rfl, hS', fun b o e => mv.heap b o ?_ (Heap.get?_push_of_some _ (Heap.get?_push_of_some _ e))⟩
          have lt : b < s.heap.objs.size := Heap.lt_size e
          rw [sz1]
          simp only [List.mem_cons, List.not_mem_nil, or_false, not_or]
          exact ⟨Nat.ne_of_lt lt, Nat.ne_of_lt (Nat.lt_succ_of_lt lt)⟩
      · cases r₂ with
        | error e => exact hr₂
        | ok fl₂ =>
          cases fl₂ with
          | next => exact hr₂.elim
          | brk => exact hr₂.elim
          | cont => exact hr₂.elim
          | ret r =>
            obtain ⟨rfl, h', tk, rfl, hS', old⟩ := hr₂
            repeat (any_goals (first | assumption | wp_step))
            exact h _ _ hS' old
end
theorem keys_of_vals (P : Program) (w : World) : ∀ {ks : List Key} {us : List Value}, Vals (ks.map kV) us → KeysAre us ks
  | [], _, .nil => .nil
  | k :: ks, _, .cons r t => .cons ⟨kV_is (P := P) (w := w) r, key_scan r⟩ (keys_of_vals P w t)
/-- len(set(t)), t a tuple of keys -/
def tLenSetK (K : PySem.W.Frag) (ta : TE) : TE := fun σ H Q => ta σ H fun x H1 => ∃ (l : Addr) (ks : List Key), x = .ref l ∧ SqT K H1 l (ks.map kV) ∧ ks.length ≤ 4000 ∧ Q (.int (nDiff ks ks.length : Nat)) H1
theorem pe_lenSetK {X : Cx} {a : Expr} {ta : TE} {p p2 q pos : Pos} (hg : Gl X "len") (hm : X.mg "len" = none) (hg2 : Gl X "set") (hm2 : X.mg "set" = none) (ha : PE X a ta) (hc : X.calm = true := by rfl)
    (na : starEach [a] X.env = (false, eval a X.env) :: starEach [] X.env := by rfl) : PE X (.Call (.Name "len" p) [.Call (.Name "set" p2) [a] [] q] [] pos) (tLenSetK X.K ta) := by
  refine ⟨fun pins s σ H Q I h => ?_⟩
  refine Call_ (ld_blt I hg hm boot_len (PyProof.Rows.callWith_builtin1 (PyProof.Rows.args_cons ?_ rfl) rfl rfl))
  refine Call_ (ld_blt I hg2 hm2 boot_set ?_)
  refine PyProof.Rows.callWith_type1 (PyProof.Rows.args_cons (thn (ha.run pins s σ H _ I h) fun v s1 hh => PyProof.Rows.args_nil ?_) na) na rfl
  obtain ⟨x, H1, I1, r1, l, ks, rfl, hs, hl, q1⟩ := hh
  cases r1
  obtain ⟨its, r, tp, hz⟩ := I1.tuple hs
  refine set_of_tuple ks (I1.ok.hd hc) tp (keys_of_vals X.prog X.w r) (by unfold scanBound; omega) fun h' tk hS old => PyProof.Rows.args_nil ?_
  obtain ⟨o, es, ep, t, ho, hex, hd, _, _, _, hf, hn⟩ := hS
  have I2 : Inv X pins σ H1 { s1 with heap := h', toks := tk } := I1.kept old
  have le := nDiff_le ks ks.length
  exact call_len_set ho hex hd hf (by rw [hn] <;> omega) ⟨.int (nDiff ks ks.length : Nat), H1, I2.tok _, ⟨_, by rw [hn]⟩, q1⟩
end KX

end

section
set_option Elab.async false
set_option linter.all false
set_option maxRecDepth 100000
set_option maxHeartbeats 2000000
/-! Dicts that hold the very same objects: !=. The own == and != of instances. -/
namespace KX
open PySem PySem.Spec PyProof.Rows L2

def isRef : V → Bool
  | .ref _ => true
  | _ => false
theorem hits_very {A : Around} {s : Shared} {ls : List (Key × V)} {vb : List (Key × Value)} (rb : KV ls vb) : ∀ {ks : List (Key × V)} {va : List (Key × Value)}, KV ks va → (∀ p ∈ ks, valV ls p.1 = some p.2 ∧ isRef p.2 = true) →
    PySem.W.KeqHits A s vb va true
  | [], _, .nil, _ => .nil
  | p :: ps, _, .cons (b := q) (l₂ := qs) h t, hp => by
    obtain ⟨e1, e2⟩ := hp p List.mem_cons_self
    obtain ⟨k, v⟩ := p
    obtain ⟨k', v'⟩ := q
    obtain ⟨z1, z2⟩ := h
    have z1 : k = k' := z1
    subst z1
    have rr : RelO (some v) (valueAt vb k) := by rw [← e1]; exact rb.val k
    obtain ⟨y, hy, ry⟩ := rr.some_of
    cases v with
    | ref a =>
      cases z2
      cases ry
      show PySem.W.KeqHits A s vb ((k, Value.ref a) :: qs) (true && true)
      exact .hit hy (SeqAt.EqAt.same _) (hits_very rb t fun p' hm => hp p' (List.mem_cons_of_mem _ hm))
    | _ => cases e2
section
variable {X : Cx}
/-- d != e of two dicts with the same keys that hold the same objects -/
def rNeVery : R2 := fun x y H Q => ∃ a b ks ls, x = .ref a ∧ y = .ref b ∧ H a = some (.dK ks) ∧ H b = some (.dK ls) ∧ ks.length = ls.length ∧ (∀ p ∈ ks, valV ls p.1 = some p.2 ∧ isRef p.2 = true) ∧ Q (.bl false) H
theorem op_neVery (hu : X.A.units < cLine) : OpR X (compareOp .NotEq) rNeVery := by
  intro pins s σ H x y v u Q I rx ry h
  obtain ⟨a, b, ks, ls, rfl, rfl, ea, eb, hlen, hp, q⟩ := h
  cases rx
  cases ry
  obtain ⟨_, ya, va, ra, da⟩ := (show ObjOk X.prog X.w H s.heap a (.dK ks) from I.hok a _ ea)
  obtain ⟨_, yb, vb, rb, db⟩ := (show ObjOk X.prog X.w H s.heap b (.dK ls) from I.hok b _ eb)
  have hl : va.length = vb.length := by rw [← ra.length, ← rb.length, hlen]
  exact PySem.W.keq_ne (knd := mixKind X.prog X.w) (r := true) ya yb da db hu (fun _ => hits_very rb ra hp) (fin_bl I q (by simp [hl]))
end
end KX

end

section
set_option Elab.async false
set_option linter.all false
set_option maxRecDepth 100000
set_option maxHeartbeats 2000000
namespace KX
open PySem PySem.Spec PyProof.Rows L2
section
variable {prog : Program} {w : World} {A : Around} {E : Value → Shared → Prop} {s : Shared} {K : PySem.W.Frag} {x C f : Addr} {ox : Obj} {od : Option Obj} {b tb : Value}
theorem own_ne {Q : Value → Shared → Prop} (hu : A.units + 1 < cLine) (X : K.In s.heap) (I : PySem.W.InstAt s.heap x ox C od) (hb : PySem.W.Looks (model prog w) s.heap (typeOf b) tb) (hn : PySem.W.notFirst K C tb = true)
    (hne : PySem.W.findIn K (.ref C) "__ne__" = some (some (.builtin "object.__ne__"))) (heq : PySem.W.findIn K (.ref C) "__eq__" = some (some (.ref f))) (hf : PySem.W.isFn K (.ref f) = true) (hm : PySem.W.mroIn K C (.type "object") = some true)
    (h : wpAny (model prog w) A.in1 (call (.ref f) [.ref x, b]) (fun v s' => ∃ r, v = .bool r ∧ Q (.bool (!r)) s') E s) : wpAny (model prog w) A (richCompare .NotEq (.ref x) b) Q E s := by
  have body : wpAny (model prog w) A (call (.builtin "object.__ne__") [.ref x, b]) (fun v s' => v ≠ .notImplemented ∧ Q v s') E s := by
    have sub : PySem.W.Looks (model prog w) s.heap (isInstance (.ref x) (.type "object")) true := I.type.andThen (PySem.W.looks_mroIn X hm)
    refine wpAny_call (codeAny_call_builtin (by decide +kernel) PySem.F.cmpEntry_ne (PySem.W.check_slot PySem.F.cmpKind_ne PySem.F.cmpSplit_ne sub (PySem.F.cmpArgs_ne _ _) ?_))
    unfold Builtin.«object.__ne__»
    refine wpAny_bind (wpAny_of_eq (a := ((Value.ref x : Value), [b])) (by first | rfl | (simp only [Builtin.slotArgs]; rfl)) ?_)
    refine wpAny_bind (wpAny_cRoomFor hu ?_)
    refine wpAny_bind (PySem.W.ifBound_K X I heq hf (wpAny_mono h (fun v s' hv => ?_) fun _ _ e => e))
    obtain ⟨r, rfl, q⟩ := hv
    exact wpAny_bind (wpAny_truthy_bool (wpAny_pure ⟨(fun z => nomatch z), q⟩))
  have one : wpAny (model prog w) A (tryCompare (.ref x) "__ne__" b) (fun r s' => ∃ v, r = some v ∧ Q v s') E s := by
    unfold tryCompare
    simp only [callSpecialIfBound?, bindSpecialIfBound?]
    have go : ∀ k : Option Value → Sem (Option Value), (∀ v, v ≠ Value.notImplemented → k (some v) = pure (some v)) → wpAny (model prog w) A (call (.builtin "object.__ne__") ([.ref x] ++ [b]) >>= fun v => pure (some v)) (fun r s' => wpAny (model prog w) A (k r) (fun r s' => ∃ v, r = some v ∧ Q v s') E s') E s := fun k hk =>
      wpAny_bind (wpAny_mono body (fun v s' hv => wpAny_pure (by
        obtain ⟨h1, h2⟩ := hv
        rw [hk v h1]
        exact wpAny_pure ⟨_, rfl, h2⟩)) fun _ _ e => e)
    refine wpAny_bind (wpAny_holding (wpAny_bind (wpAny_bind (wpAny_bind (I.type.here ((PySem.W.looks_findIn X hne).here ?_))))))
    simp only [PySem.F.cmp_object.ne.bind]
    refine wpAny_bind (wpAny_askSetting (wpAny_ite ?_))
    split
    · exact wpAny_bind (wpAny_pure (wpAny_pure (go _ fun v hv => by cases v <;> first | rfl | exact absurd rfl hv)))
    · exact wpAny_tryCatch (wpAny_bind (wpAny_pure (wpAny_pure (go _ fun v hv => by cases v <;> first | rfl | exact absurd rfl hv))))
  unfold richCompare
  simp only [oneThing_ref]
  refine wpAny_holding (wpAny_bind (wpAny_cRoomFor (Nat.lt_of_succ_lt hu) ?_))
  rw [cmpInfo_NotEq]
  dsimp only
  refine wpAny_bind (I.type.here (wpAny_bind (hb.here ?_)))
  have last : ∀ {k : Option Value → Sem Value}, (∀ v, k (some v) = pure v) → wpAny (model prog w) A (tryCompare (.ref x) "__ne__" b >>= k) Q E s := fun hk =>
    wpAny_bind (wpAny_mono one (fun r s' z => by
      obtain ⟨v, rfl, q⟩ := z
      rw [hk]
      exact wpAny_pure q) fun _ _ e => e)
  split
  · rename_i q
    have e : PySem.W.subIn K tb (.ref C) = some false := by
      rcases Bool.or_eq_true_iff.mp hn with e | e
      · rw [beq_iff_eq.mp e] at q
        simp at q
      · exact beq_iff_eq.mp e
    refine wpAny_bind ((PySem.W.looks_subIn X e).here ?_)
    simp only [Bool.false_eq_true, if_false]
    exact last fun v => rfl
  · refine wpAny_bind (wpAny_pure ?_)
    simp only [Bool.false_eq_true, if_false]
    exact last fun v => rfl
end
section
variable {X : Cx} {CX : CXT} {k : Nat} {f C : Addr} {fd : FuncData} {ps : List Str} {sp : Sp} {E : XK}
/-- the type of a value that has no own order in comparisons with the class at C -/
def TyB (X : Cx) (H : Hp) (C : Addr) (y : V) : Prop := ∀ (pins : List (Addr × Obj)) (σ : L2.St) (s : Shared) (u : Value), Inv X pins σ H s → RelV y u → ∃ tb, PySem.W.Looks (model X.prog X.w) s.heap (typeOf u) tb ∧ PySem.W.notFirst X.K C tb = true
theorem TyB.same {H : Hp} {a dx : Addr} {fs : List (Str × V)} (h : H a = some (.ins C dx fs)) : TyB X H C (.ref a) := fun pins σ s u I r => by
  cases r
  obtain ⟨mA, J, _⟩ := ins_get I.hok h
  obtain ⟨od, J, _⟩ := J.look
  exact ⟨_, J.type, by simp [PySem.W.notFirst]⟩
theorem TyB.dict {H : Hp} {a : Addr} {kvs : List (Key × V)} (h : H a = some (.dK kvs)) (hs : PySem.W.subIn X.K (.type "dict") (.ref C) = some false) : TyB X H C (.ref a) := fun pins σ s u I r => by
  cases r
  obtain ⟨_, _, vs, _, o, es, ep, ho, hx, _⟩ := (show ObjOk X.prog X.w H s.heap a (.dK kvs) from I.hok a _ h)
  refine ⟨.type "dict", fun A Q E s' kk q => wpAny_typeOf_ref (kk _ _ ho) (by rw [hx.1]; exact q), ?_⟩
  unfold PySem.W.notFirst
  rw [hs]
  simp
/-- o == p, o != p: o's own __eq__ answers a bool -/
def rOwnCmp (X : Cx) (C : Addr) (neg : Bool) (sp : Sp) (E : XK) : R2 := fun x y H Q => ∃ a dx fs, x = .ref a ∧ H a = some (.ins C dx fs) ∧ TyB X H C y ∧ sp [.ref a, y] H (fun v H' => ∃ b, v = .bl b ∧ Q (.bl (if neg then !b else b)) H') E
theorem op_ownEq (F : FnOk X.prog X.w X.K X.mg X.base CX k f fd ps sp) (hr : Room k X.A) (hb : Binds X.K fd ps []) (hx : Passes CX X E)
    (hs : PySem.W.findIn X.K (.ref C) "__eq__" = some (some (.ref f))) (hf : PySem.W.isFn X.K (.ref f) = true) : OpR X (compareOp .Eq) (rOwnCmp X C false sp E) := by
  intro pins s σ H x y v u Q I rx ry h
  obtain ⟨a, dx, fs, rfl, ha, ty, q⟩ := h
  cases rx
  obtain ⟨mA, J, _⟩ := ins_get I.hok ha
  obtain ⟨od, J, _⟩ := J.look
  obtain ⟨m, hF⟩ := I.fr
  obtain ⟨tb, lt, nf⟩ := ty _ _ _ _ I ry
  show wpAny _ _ (richCompare .Eq (.ref a) u) _ _ _
  refine PySem.W.cmp_K (op := .Eq) hr.units0 hF I.ok.mod.kin J lt nf hs hf (thn (own_run (us := [.ref a, u]) (vs := [.ref a, y]) F hb hx ⟨hr, rfl⟩ I (.cons rfl (.cons ry .nil)) q) fun w s1 hh => ?_)
  obtain ⟨z, H1, I1, rz, b, ez, q1⟩ := hh
  subst ez
  cases rz
  exact ⟨.bl _, H1, I1, rfl, q1⟩
theorem op_ownNe (F : FnOk X.prog X.w X.K X.mg X.base CX k f fd ps sp) (hr : Room (k + 1) X.A) (hb : Binds X.K fd ps []) (hx : Passes CX X E)
    (hne : PySem.W.findIn X.K (.ref C) "__ne__" = some (some (.builtin "object.__ne__"))) (hs : PySem.W.findIn X.K (.ref C) "__eq__" = some (some (.ref f))) (hf : PySem.W.isFn X.K (.ref f) = true) (hm : PySem.W.mroIn X.K C (.type "object") = some true) :
    OpR X (compareOp .NotEq) (rOwnCmp X C true sp E) := by
  intro pins s σ H x y v u Q I rx ry h
  obtain ⟨a, dx, fs, rfl, ha, ty, q⟩ := h
  cases rx
  obtain ⟨mA, J, _⟩ := ins_get I.hok ha
  obtain ⟨od, J, _⟩ := J.look
  obtain ⟨tb, lt, nf⟩ := ty _ _ _ _ I ry
  have hu : X.A.units + 1 < cLine := Nat.lt_of_le_of_lt (Nat.add_le_add_left (by decide : 1 ≤ 64) _) hr.units
  show wpAny _ _ (richCompare .NotEq (.ref a) u) _ _ _
  refine own_ne hu I.kIn J lt nf hne hs hf hm (thn (own_run (us := [.ref a, u]) (vs := [.ref a, y]) F hb hx (⟨hr.in1, rfl⟩ : Sub X k X.A.in1) I (.cons rfl (.cons ry .nil)) q) fun w s1 hh => ?_)
  obtain ⟨z, H1, I1, rz, b, ez, q1⟩ := hh
  subst ez
  cases rz
  exact ⟨b, rfl, .bl _, H1, I1, rfl, q1⟩
end
end KX

end

section
set_option Elab.async false
set_option linter.all false
set_option maxRecDepth 100000
set_option maxHeartbeats 2000000
/-! A lambda without parameters as a value: made, kept, called by another def. -/
namespace KX
open PySem PySem.Spec PyProof.Rows L2 LamX NdefX

/-- a lambda's words, the cells that it captured, its code object -/
structure LF where
  qual : Str
  params : Arguments
  body : Expr
  scope : Scope
  cl : List (Str × Addr)
  c : Addr
def LamO (f : Addr) (F : LF) : HO := .ext fun h => ∃ pm ctv : Value, h.get? f = some (PySem.W.kla_obj "<lambda>" F.qual F.params F.body F.scope F.cl pm F.c ctv)
theorem lamO_at {P : Program} {w : World} {H : Hp} {h : Heap} {f : Addr} {F : LF} (hok : HOk P w H h) (e : H f = some (LamO f F)) : ∃ pm ctv : Value, h.get? f = some (PySem.W.kla_obj "<lambda>" F.qual F.params F.body F.scope F.cl pm F.c ctv) := by
  obtain ⟨z, _, _⟩ := hok f _ e
  exact z
section
variable {X : Cx} {pins : List (Addr × Obj)} {σ : L2.St} {H : Hp} {s : Shared}
theorem inv_lam {F : LF} {t' : Nat} {pm ctv : Value} (I : Inv X pins σ H s) :
    Inv X pins σ (upd H s.heap.objs.size (LamO s.heap.objs.size F)) { s with heap := s.heap.push (PySem.W.kla_obj "<lambda>" F.qual F.params F.body F.scope F.cl pm F.c ctv), toks := t' } := by
  refine I.laid (a := s.heap.objs.size) (fun b u e => Heap.get?_push_of_some _ e) (Nat.le_refl _) ?_
  have e : (s.heap.push (PySem.W.kla_obj "<lambda>" F.qual F.params F.body F.scope F.cl pm F.c ctv)).get? s.heap.objs.size = some (PySem.W.kla_obj "<lambda>" F.qual F.params F.body F.scope F.cl pm F.c ctv) := Heap.get?_push_size _ rfl
  exact ⟨⟨pm, ctv, e⟩, ⟨_, e⟩, fun h1 h2 ⟨p, t, z⟩ st => ⟨p, t, st _ z⟩⟩
/-- the lambda's object is made: tracked from then on -/
theorem lam_made {T : List (Addr × Str)} {c P : Addr} {params : Arguments} {body : Expr} {scope : Scope} {pos : Pos} {E : Value → Shared → Prop} {Q : Value → Shared → Prop} (I : Inv X pins σ H s) (TB : TabB X.base X.mg c P) (hcode : X.env.code = .ref c)
    (hm : (P, X.env.qual ++ "<lambda>") ∈ T) (hu : ∀ p ∈ T, p.1 = P → p.2 = X.env.qual ++ "<lambda>") (hT : Tabs T H) (hdef : defaultsOf params X.env = ([], [])) (hfree : ∀ y ∈ scope.names, y.2 = .free → ∃ c, X.env.cells.lookup y.1 = some c)
    (h : ∀ (f c' : Addr) (H1 : Hp) (s' : Shared), Inv X pins σ H1 s' → ExtN H H1 → Tabs T H1 → H f = none → (∀ b, H1 b = none → H b = none) → H1 f = some (LamO f ⟨X.env.qual ++ "<lambda>", params, body, scope, cloFrom X.env.cells scope.names [], c'⟩) →
      H1 c' = some (CodeO c' (X.env.qual ++ "<lambda>")) → Q (.ref f) s') : wpAny (model X.prog X.w) X.A (eval (.Lambda params body scope pos) X.env) Q E s := by
  obtain ⟨ps, hP, tr, known⟩ := hT _ hm
  have bP : s.heap.BuiltinsAt X.mg P := TB.bm.keeps I.bk
  have oP : s.heap.get? P = some { cls := .none, data := .fields ps } := I.hok P _ hP
  refine PySem.W.kla_eval hdef ?_
  cases hc : codeAmong pos ps.toList with
  | some cv =>
    obtain ⟨c', ec, kc⟩ := known pos cv hc
    subst ec
    refine PySem.W.kla_makeFunctionHit (mg := X.mg) (c := c) (P := P) (ps := ps) (closure_ok hfree) I.ok.glob (I.mod.glob.keeps I.bk) hcode (TB.code.keeps I.bk) oP tr hc bP fun ctv h' tk keep big => ?_
    have I1 : Inv X pins σ H { s with heap := h', toks := tk } := I.kept keep
    have nf : H h'.objs.size = none := I1.hok.fresh (Nat.le_refl _)
    have ne : ∀ b o, H b = some o → b ≠ h'.objs.size := fun b o e => ne_of_none e nf
    refine h h'.objs.size c' _ _ (inv_lam (F := ⟨X.env.qual ++ "<lambda>", params, body, scope, cloFrom X.env.cells scope.names [], c'⟩) (t' := tk) I1) (fun b o e _ => by rw [upd_ne (ne b o e)]; exact e) (hT.ext fun b o e => by rw [upd_ne (ne b o e)]; exact e) nf
      (fun b e => upd_none e) upd_same (by rw [upd_ne (ne _ _ kc)]; exact kc)
  | none =>
    refine PySem.W.kla_makeFunction (mg := X.mg) (c := c) (P := P) (ps := ps) (closure_ok hfree) I.ok.glob (I.mod.glob.keeps I.bk) hcode (TB.code.keeps I.bk) oP tr hc TB.gP bP fun c' ctv h' tk ext ge lt rec_ tab => ?_
    obtain ⟨c2, oc, vs, t, e2, hoc, hd, hv⟩ := rec_
    cases e2
    have nC : H c' = none := I.hok.fresh ge
    have I1 := inv_table (t' := tk) (more := #[rawInt pos.line, rawInt pos.col, .ref c']) (h' := h') I hP (fun b o hb e => ext b o hb e) tab ge ⟨oc, vs, t, hoc, hd, hv⟩
    generalize eH : upd (upd H P (.tbl (ps ++ #[rawInt pos.line, rawInt pos.col, .ref c']))) c' (CodeO c' (X.env.qual ++ "<lambda>")) = Hc at I1
    have cC : Hc c' = some (CodeO c' (X.env.qual ++ "<lambda>")) := by rw [← eH]; exact upd_same
    have cP : Hc P = some (.tbl (ps ++ #[rawInt pos.line, rawInt pos.col, .ref c'])) := by rw [← eH, upd_ne (ne_of_none hP nC)]; exact upd_same
    have off : ∀ b o, H b = some o → b ≠ P → Hc b = some o := fun b o e hb => by rw [← eH, upd_ne (ne_of_none e nC), upd_ne hb]; exact e
    have eN : ExtN H Hc := fun b o e n => off b o e fun z => n ps (Option.some.inj (e.symm.trans (by rw [z]; exact hP)))
    have back : ∀ b, Hc b = none → H b = none := fun b e => by
      rw [← eH] at e
      exact upd_none (upd_none e)
    have T1 : Tabs T Hc := fun p hp => by
      by_cases hb : p.1 = P
      · rw [hu p hp hb, hb]
        have eL : (ps ++ #[rawInt pos.line, rawInt pos.col, .ref c']).toList = ps.toList ++ [rawInt pos.line, rawInt pos.col, .ref c'] := by simp
        refine ⟨_, cP, by rw [eL]; exact PySem.TriplesOk_snoc _ _ _ _ tr, fun p' cv hcv => ?_⟩
        rw [eL] at hcv
        rcases among_app _ tr hcv with z | z
        · obtain ⟨c0, z1, z2⟩ := known p' cv z
          exact ⟨c0, z1, eN _ _ z2 codeO_ne⟩
        · exact ⟨c', z, cC⟩
      · obtain ⟨ps', a1, a2, a3⟩ := hT p hp
        refine ⟨ps', off _ _ a1 hb, a2, fun p' cv hcv => ?_⟩
        obtain ⟨c0, z1, z2⟩ := a3 p' cv hcv
        exact ⟨c0, z1, eN _ _ z2 codeO_ne⟩
    have nf : Hc h'.objs.size = none := I1.hok.fresh (Nat.le_refl _)
    have ne : ∀ b o, Hc b = some o → b ≠ h'.objs.size := fun b o e => ne_of_none e nf
    refine h h'.objs.size c' _ _ (inv_lam (F := ⟨X.env.qual ++ "<lambda>", params, body, scope, cloFrom X.env.cells scope.names [], c'⟩) (t' := tk) I1) (fun b o e n => by rw [upd_ne (ne _ _ (eN b o e n))]; exact eN b o e n) (T1.ext fun b o e => by rw [upd_ne (ne b o e)]; exact e) (back _ nf)
      (fun b e => back b (upd_none e)) upd_same (by rw [upd_ne (ne _ _ cC)]; exact cC)
end
/-- a lambda as a value -/
def tLamV (T : List (Addr × Str)) (mk : Addr → LF) : TE := fun σ H Q => Tabs T H ∧ ∀ (f c' : Addr) (H1 : Hp), ExtN H H1 → Tabs T H1 → H f = none → (∀ b, H1 b = none → H b = none) → H1 f = some (LamO f (mk c')) → H1 c' = some (CodeO c' (mk c').qual) → Q (.ref f) H1
theorem pe_lam {X : Cx} {T : List (Addr × Str)} {c P : Addr} {params : Arguments} {body : Expr} {scope : Scope} {pos : Pos} (TB : TabB X.base X.mg c P) (hcode : X.env.code = .ref c) (hm : (P, X.env.qual ++ "<lambda>") ∈ T) (hu : ∀ p ∈ T, p.1 = P → p.2 = X.env.qual ++ "<lambda>")
    (L : LamS X.env.scope scope) (hdef : defaultsOf params X.env = ([], [])) : PE X (.Lambda params body scope pos) (tLamV T fun c' => ⟨X.env.qual ++ "<lambda>", params, body, scope, cloFrom X.env.cells scope.names [], c'⟩) := by
  refine ⟨fun pins s σ H Q I h => ?_⟩
  obtain ⟨hT, h⟩ := h
  exact lam_made I TB hcode hm hu hT hdef (L.has I.ok) fun f c' H1 s' I1 eN T1 f0 back f1 c1 => ⟨.ref f, H1, I1, rfl, h f c' H1 eN T1 f0 back f1 c1⟩
end KX

end

section
set_option Elab.async false
set_option linter.all false
set_option maxRecDepth 100000
set_option maxHeartbeats 2000000
/-! A lambda called: by its body; what a def may do that is handed one. -/
namespace KX
open PySem PySem.Spec PyProof.Rows L2 LamX NdefX

abbrev LF.nf (F : LF) : NF := ⟨"<lambda>", F.qual, F.params, [], F.scope, F.cl, F.c⟩
section
variable {P : Program} {w : World} {K : PySem.W.Frag} {mg : Str → Option Value} {base : Heap} {N fr : List Str} {F : LF} {f : Addr} {k : Nat} {tb : XK → TE}
/-- f() of a lambda, by its body's reading; ws what its captured cells hold -/
theorem lam_run (S : NScope N [] fr F.scope) (hb : ∀ pm ctv : Value, bindArgs (PySem.W.kla_fn "<lambda>" F.qual F.params F.body F.scope F.cl pm (.ref F.c) ctv) ⟨[], []⟩ = pure [])
    (hbody : ∀ (A : Around) (outer : List Env) (s : Shared) (H : Hp) (E : XK), Room k (A.deeper (envF F.nf f s.heap.objs.size)) → PE (ncx (L2.CX P w) P w K mg base N F.nf f A outer s H E) F.body (tb E))
    {A : Around} {outer : List Env} {s : Shared} {H : Hp} {ws : List (Option V)} {Q : VK} {E : XK} (hr : Room (k + 1) A) (e0 : Env0 P w K mg base A outer s H) (hf : H f = some (LamO f F)) (hc : H F.c = some (CodeO F.c F.qual))
    (C : CellsAt F.cl fr ws s.heap H) (q : tb E (startF N [] ws) H Q) : codeAny (model P w) A (.call (.ref f) ⟨[], []⟩) (CR (L2.CX P w) outer P w H s Q E) s := by
  have lim : s.heap.NoLimit := e0.mod.nolimit.keeps fun b o e => (e0.bs b o e).1
  obtain ⟨pm, ctv, ho⟩ := lamO_at e0.hok hf
  refine PySem.W.kla_callFunE hr.depth ho rfl S.co S.gen rfl (codeO_at e0.hok hc) ?_
  rw [hb pm ctv]
  refine wpAny_pure (wpAny_newFunctionEnv S.nocell (fun y hy => absurd hy (by simp)) (fun h₁ hns hsb => ⟨lim.fresh _ hsb, ?_⟩) S.kind)
  show codeAny _ _ (.expr F.body (envF F.nf f s.heap.objs.size)) _ _
  have kp : ∀ b o, s.heap.get? b = some o → h₁.get? b = some o := fun b o e => hsb.extBut b o (Nat.ne_of_lt (Heap.lt_size e)) (Heap.get?_push_of_some _ e)
  have J : Inv (ncx (L2.CX P w) P w K mg base N F.nf f A outer s H E) [] (startF N [] ws) H { s with heap := h₁, toks := s.toks + ([] : List (Str × Value)).length } :=
    inv_startN (ps := []) (us := []) S hr.hd e0 rfl .nil C hns kp
  refine PySem.W.kla_codeExpr (wpAny_mono ((hbody A outer s H E (hr.deeper _)).run [] _ _ H Q J q) (fun v s' hq => ?_) fun _ _ z => z)
  obtain ⟨v', H', J', rv, q'⟩ := hq
  exact ⟨v', H', J'.os, J'.bare, J'.base, J'.hok, rv, q'⟩

/-- cells stay while the callers' frames may change -/
theorem cells_un {cl : List (Str × Addr)} {ws : List (Option V)} {fs ex : List Addr} {h h' : Heap} {H H' : Hp} (C : CellsAt cl fr ws h H) (u : Un fs ex H H' h h') (hx : ∀ y c, cl.lookup y = some c → c ∉ ex) : CellsAt cl fr ws h' H' := by
  have st : ∀ {y : Str} {c : Addr} {v : Option Value}, cl.lookup y = some c → h.IsCell c v → h'.IsCell c v := fun {y c v} e ⟨o, ho, hd⟩ => by
    obtain ⟨sl, q⟩ := u.any ho (C.all y c e).1 (hx y c e)
    exact ⟨_, q, hd⟩
  refine ⟨C.len, fun y c e => ?_, C.inj, fun i y e => ?_⟩
  · obtain ⟨n, v, o, ho, hd⟩ := C.all y c e
    exact ⟨u.free c o ho n (hx y c e), v, st e ⟨o, ho, hd⟩⟩
  · obtain ⟨c, hc, hv⟩ := C.has i y e
    refine ⟨c, hc, fun v ev => ?_⟩
    obtain ⟨u', r, z⟩ := hv v ev
    exact ⟨u', r, st hc z⟩

/-- what a called def may do with the thing at f while it runs: call it -/
def Act (P : Program) (w : World) (K : PySem.W.Frag) (mg : Str → Option Value) (base : Heap) (k : Nat) (f : Addr) (outer : List Env) (s : Shared) (H : Hp) (tl : XK → Hp → VK → Prop) : Prop :=
  ∀ (A' : Around) (outer' : List Env) (s' : Shared) (H' : Hp) (Q' : VK) (E' : XK), Room k A' → Env0 P w K mg base A' outer' s' H' → Un (frs outer) [] H H' s.heap s'.heap → tl E' H' Q' →
    codeAny (model P w) A' (.call (.ref f) ⟨[], []⟩) (CR (L2.CX P w) outer' P w H' s' Q' E') s'
theorem act_lam (S : NScope N [] fr F.scope) (hb : ∀ pm ctv : Value, bindArgs (PySem.W.kla_fn "<lambda>" F.qual F.params F.body F.scope F.cl pm (.ref F.c) ctv) ⟨[], []⟩ = pure [])
    (hbody : ∀ (A : Around) (outer : List Env) (s : Shared) (H : Hp) (E : XK), Room k (A.deeper (envF F.nf f s.heap.objs.size)) → PE (ncx (L2.CX P w) P w K mg base N F.nf f A outer s H E) F.body (tb E))
    {outer : List Env} {s : Shared} {H : Hp} {ws : List (Option V)} (C : CellsAt F.cl fr ws s.heap H) :
    Act P w K mg base (k + 1) f outer s H (fun E' H' Q' => H' f = some (LamO f F) ∧ H' F.c = some (CodeO F.c F.qual) ∧ tb E' (startF N [] ws) H' Q') :=
  fun A' outer' s' H' Q' E' hr e0 u ⟨h1, h2, h3⟩ => lam_run S hb hbody hr e0 h1 h2 (cells_un C u fun _ _ _ => by simp) h3
/-- a(), a the name of what was handed in, in the running def -/
theorem pe_actV {X : Cx} {outer : List Env} {s : Shared} {H : Hp} {W : WX} {E : XK} {tl : XK → Hp → VK → Prop} {a : Str} {i : Nat} {p1 p2 : Pos} (act : Act X.prog X.w X.K X.mg X.base k f outer s H tl) (h0 : X.s_0 = s) (hH : X.H_0 = H) (ho : X.outer = outer) (hex : X.ex = []) (hr : Room k X.A)
    (tk : Takes X W) (hW : ∀ cls d σ' H', E cls d H' → W cls d σ' H') (hN : X.N[i]? = some a) (hv : Vis X.env.scope a) (hd : (a == ("__debug__" : Str)) = false := by decide) (hcd : (a == ("__classdict__" : Str)) = false := by decide)
    (isF : ∀ (pins : List (Addr × Obj)) (σ : L2.St) (H' : Hp) (s' : Shared) (Q : VK), Inv X pins σ H' s' → tl E H' Q → PySem.W.FnAt f s'.heap) :
    PE X (.Call (.Name a p1) [] [] p2) (fun σ H' Q => σ[i]? = some (some (.ref f)) ∧ tl E H' Q) := by
  subst h0 hH ho
  refine ⟨fun pins s' σ H' Q I h => ?_⟩
  obtain ⟨hs, ht⟩ := h
  refine wpAny_Call_Name_kw (thn ((pe_var (pos := p1) (i := i) hN hv hd hcd).run pins s' σ H' (fun v H1 => v = .ref f ∧ H1 = H') I ⟨.ref f, hs, rfl, rfl⟩) fun u s1 ⟨v, H1, I1, r1, ev, eH⟩ => ?_)
  subst ev
  rw [eH] at I1
  cases r1
  refine PySem.W.callWith_F0 (isF _ _ _ _ _ I1 ht) ?_
  have un : Un (frs X.outer) [] X.H_0 H' X.s_0.heap s1.heap := by
    have u := I1.base
    rw [hex] at u
    exact u
  have rc := act X.A X.stack s1 H' Q E hr I1.env0 un ht
  have hx : Passes (L2.CX X.prog X.w) X E := passes_call tk hW
  refine wpAny_call (codeAny_mono rc fun r s2 hq => ?_)
  cases r with
  | error e => exact hx pins σ H' s1 e s2 I1 hq
  | ok fl =>
    cases fl with
    | ret u => exact I1.after hq
    | next => exact False.elim hq
    | brk => exact False.elim hq
    | cont => exact False.elim hq
end
end KX

end

section
set_option Elab.async false
set_option linter.all false
set_option maxRecDepth 100000
set_option maxHeartbeats 2000000
/-! A def that is handed a lambda and calls it, called. -/
namespace KX
open PySem PySem.Spec PyProof.Rows L2 LamX NdefX

/-- what is known of a lambda that the running def made -/
structure LamGood (X : Cx) (k : Nat) (F : LF) (N fr : List Str) (js : List Nat) (tb : XK → TE) : Prop where
  S : NScope N [] fr F.scope
  hb : ∀ pm ctv : Value, bindArgs (PySem.W.kla_fn "<lambda>" F.qual F.params F.body F.scope F.cl pm (.ref F.c) ctv) ⟨[], []⟩ = pure []
  body : ∀ (f : Addr) (A : Around) (outer : List Env) (s : Shared) (H : Hp) (E : XK), Room k (A.deeper (envF F.nf f s.heap.objs.size)) → PE (ncx (L2.CX X.prog X.w) X.prog X.w X.K X.mg X.base N F.nf f A outer s H E) F.body (tb E)
  caps : X.Ok → Caps X F.cl fr js
/-- the lambda's own call, ws what its cells hold -/
def lamTl (f : Addr) (F : LF) (N : List Str) (tb : XK → TE) (ws : List (Option V)) : XK → Hp → VK → Prop := fun E' H' Q' => H' f = some (LamO f F) ∧ H' F.c = some (CodeO F.c F.qual) ∧ tb E' (startF N [] ws) H' Q'
/-- the def at g: handed something that it may call, it keeps TT -/
def Teller (P : Program) (w : World) (K : PySem.W.Frag) (mg : Str → Option Value) (base : Heap) (k j : Nat) (g : Addr) (TT : (XK → Hp → VK → Prop) → Hp → VK → Prop) : Prop :=
  ∀ (A : Around) (outer : List Env) (s : Shared) (H : Hp) (Q : VK) (f : Addr) (tl : XK → Hp → VK → Prop), Room k A → Env0 P w K mg base A outer s H → Act P w K mg base j f outer s H tl →
    (∀ (E' : XK) (H' : Hp) (Q' : VK) (h : Heap), HOk P w H' h → tl E' H' Q' → PySem.W.FnAt f h) → TT tl H Q → codeAny (model P w) A (.call (.ref g) ⟨[.ref f], []⟩) (CR CX0 outer P w H s Q E0) s
section
variable {X : Cx} {x : Str} {g : Addr} {k j : Nat} {TT : (XK → Hp → VK → Prop) → Hp → VK → Prop} {e : Expr} {te : TE} {p pos : Pos}
/-- x(e), e a lambda that this def made -/
def tTold (X : Cx) (j : Nat) (TT : (XK → Hp → VK → Prop) → Hp → VK → Prop) (te : TE) : TE := fun σ H Q => te σ H fun v H1 => ∃ (f : Addr) (F : LF) (N fr : List Str) (js : List Nat) (tb : XK → TE), v = .ref f ∧ LamGood X j F N fr js tb ∧ TT (lamTl f F N tb (js.map (slotAt σ))) H1 Q
theorem lamTl_fn {P : Program} {w : World} {f : Addr} {F : LF} {N : List Str} {tb : XK → TE} {ws : List (Option V)} (E' : XK) (H' : Hp) (Q' : VK) (h : Heap) (hok : HOk P w H' h) (t : lamTl f F N tb ws E' H' Q') : PySem.W.FnAt f h := by
  obtain ⟨pm, ctv, ho⟩ := lamO_at hok t.1
  exact ⟨_, _, _, _, ho⟩
theorem told_here (Tg : Teller X.prog X.w X.K X.mg X.base k (j + 1) g TT) (hr : Room k X.A) {pins : List (Addr × Obj)} {σ : L2.St} {H : Hp} {s : Shared} {f : Addr} {F : LF} {N fr : List Str} {tb : XK → TE} {Q : VK} {ws : List (Option V)} (I : Inv X pins σ H s)
    (S : NScope N [] fr F.scope) (hb : ∀ pm ctv : Value, bindArgs (PySem.W.kla_fn "<lambda>" F.qual F.params F.body F.scope F.cl pm (.ref F.c) ctv) ⟨[], []⟩ = pure [])
    (body : ∀ (f : Addr) (A : Around) (outer : List Env) (s : Shared) (H : Hp) (E : XK), Room j (A.deeper (envF F.nf f s.heap.objs.size)) → PE (ncx (L2.CX X.prog X.w) X.prog X.w X.K X.mg X.base N F.nf f A outer s H E) F.body (tb E))
    (C : CellsAt F.cl fr ws s.heap H) (q : TT (lamTl f F N tb ws) H Q) : wpAny (model X.prog X.w) X.A (call (.ref g) [.ref f]) (EP X pins σ Q) X.xe s := by
  have act := act_lam (f := f) (outer := X.stack) S hb (body f) C
  refine wpAny_call (codeAny_mono (Tg X.A X.stack s H Q f _ hr I.env0 act (fun E' H' Q' h hok t => lamTl_fn E' H' Q' h hok t) q) fun r s' hq => ?_)
  cases r with
  | error e => exact (show False from hq).elim
  | ok fl =>
    cases fl with
    | ret u => exact I.after hq
    | next => exact False.elim hq
    | brk => exact False.elim hq
    | cont => exact False.elim hq
theorem pe_told (Tg : Teller X.prog X.w X.K X.mg X.base k (j + 1) g TT) (hr : Room k X.A) (hg : Gl X x) (hm : X.mg x = some (.ref g)) (hk : PySem.W.keepIn X.K (.ref g) = true) (he : PE X e te)
    (hs : starEach (e :: []) X.env = (false, eval e X.env) :: starEach [] X.env := by rfl) (hpl : (backTo pos (starEach [] X.env)).any (·.1) = false := by rfl) (hdb : (x == ("__debug__" : Str)) = false := by decide) :
    PE X (.Call (.Name x p) [e] [] pos) (tTold X j TT te) := by
  refine ⟨fun pins s σ H Q I h => ?_⟩
  refine wpAny_Call_Name_kw (ld_glob I hg hm ?_ hdb)
  have ha : PA X [e] (tCons te tNil) := pa_cons he pa_nil hs
  refine PySem.W.callWith_K (h₀ := X.base) I.ok.mod.kin hk (thn (ha.run pos pins s σ H (fun vs H1 => match vs with | [v] => ∃ (f : Addr) (F : LF) (N fr : List Str) (js : List Nat) (tb : XK → TE), v = .ref f ∧ LamGood X j F N fr js tb ∧ TT (lamTl f F N tb (js.map (slotAt σ))) H1 Q | _ => False) I h) fun us s1 hh => ?_) hs hpl
  obtain ⟨vs, H1, I1, r1, hv⟩ := hh
  match vs, r1, hv with
  | [v], r1, hv =>
    obtain ⟨f, F, N, fr, js, tb, rfl, G, q⟩ := hv
    obtain ⟨u, rfl, ru⟩ := vals1 r1
    cases ru
    exact ⟨I1.kIn, told_here Tg hr I1 G.S G.hb G.body (cells_of I1 (G.caps I1.ok)) q⟩
end
end KX

end

section
set_option Elab.async false
set_option linter.all false
set_option maxRecDepth 100000
set_option maxHeartbeats 4000000
/-! A list comprehension whose element may lean on what the def's own cells hold. -/
namespace KX
open PySem PySem.Spec PyProof.Rows L2 LamX NdefX

/-- told of the state at the block's entry, by the def around -/
def Entry (X : Cx) (σ : L2.St) (s : Shared) (H : Hp) (fp : List Addr) : Prop := ∃ pins, Inv X pins σ H s ∧ ∀ b ∈ fp, ∀ y c, X.env.cells.lookup y = some c → c ≠ b
/-- [elt for tg in iter], the element's reading hangs on the def's names at the entry -/
def tLcE (wi : TI) (g : TG) (te : L2.St → TE) (vs : List Nat) : TE := fun σ H Q => wi σ H fun J H1 => ∀ D, H1 D = none → ∃ W : Nat → Nat → Hp → Prop, (∃ m, W 0 m (upd H1 D (.lst []))) ∧ ∀ i m H, W i m H →
  (J.stop i H ∧ Q (.ref D) H) ∨ (J.go i H ∧ ∃ Nx : Hp → Prop, (∀ H', Nx H' → ∃ m', m' < m ∧ W (i + 1) m' H') ∧ ∀ x H', J.yld i H x H' → g x (wipe σ vs) H' fun σ2 H2 => wipe σ2 vs = wipe σ vs ∧
    te σ σ2 H2 fun y H4 => ∃ acc, H4 D = some (.lst acc) ∧ acc.length < sizeLine ∧ Nx (upd H4 D (.lst (acc ++ [y]))))
section
variable {X : Cx} {elt tg iter : Expr} {scope : Scope} {own : List (Str × Nat)} {pos : Pos} {wi : TI} {g : TG} {te : L2.St → TE}
theorem pe_lcE (hc : X.calm = true) (nd : X.N.Nodup) (hi : PI X tg iter wi) (ok : BlkOk X.N X.env.scope scope own)
    (hg : ∀ (s : Shared) (H : Hp) (C : Addr) (cl : List (Str × Addr)) (fp : List Addr), PG (X.blk s H scope (compEnvC scope cl C X.env) fp) tg g)
    (he : ∀ (σ : L2.St) (s : Shared) (H : Hp) (C : Addr) (cl : List (Str × Addr)) (fp : List Addr), Entry X σ s H fp → PE (X.blk s H scope (compEnvC scope cl C X.env) fp) elt (te σ)) (plain : ∀ x, foldedSetIterable iter X.env x = pure x := by intro _; rfl) :
    PE X (.ListComp elt [⟨tg, iter, [], 0⟩] scope pos) (tLcE wi g te (own.map (·.2))) := by
  refine ⟨fun pins s σ H Q I h => ?_⟩
  rw [eval_ListComp]
  have clos : ∀ y ∈ scope.names, y.2 = .free → ∃ c, X.env.cells.lookup y.1 = some c := fun y hy e => (ok.free y hy e).elim (fun k => I.ok.has _ (.inl k)) fun k => I.ok.has _ (.inr k)
  refine wpAny_comprehension_free (use := none) rfl plain (closure_ok clos) ok.kind (fun y hy e => by rw [ok.uniq y hy, e]) (thn (hi.run pins s σ H _ I h) fun _ _ hx => thn hx fun _ sa ha => ?_)
  obtain ⟨it, fp, tn, J, Ha, e, Ia, T, sta, fa, q⟩ := ha
  subst e
  refine wpAny_newObj_type (newEnv_comp ?_) (by show 0 ≤ sizeLine; decide)
  generalize eD : sa.heap.objs.size = D
  have freeD : Ha D = none := Ia.hok.fresh (Nat.le_of_eq eD)
  obtain ⟨W, ⟨m0, w0⟩, turn⟩ := q D freeD
  let lo : Obj := { cls := .type "list", data := .seq ([] : List Value).toArray }
  generalize eb : ({ sa with heap := sa.heap.push lo } : Shared) = sb
  have hb : sb.heap = sa.heap.push lo := by rw [← eb]
  have Ib : Inv X pins σ (upd Ha D (.lst [])) sb := by
    rw [← eb]
    refine Ia.laid (t' := sa.toks) (fun b o e => Heap.get?_push_of_some _ e) (Nat.le_of_eq eD) ⟨Nat.zero_le _, [], 0, .nil, ?_⟩
    rw [← eD]
    exact Heap.get?_push_size _ rfl
  have small : ∀ b ∈ fp, b < sa.heap.objs.size := fun b hb => let ⟨o, e, _⟩ := T.obj _ _ sta b hb; Heap.lt_size e
  have fb : ∀ b ∈ fp, FpOk X pins (upd Ha D (.lst [])) b ∧ b < sb.heap.objs.size := fun b hm => by
    have lt := small b hm
    refine ⟨⟨?_, (fa b hm).2⟩, by rw [hb, Heap.size_push]; exact Nat.lt_succ_of_lt lt⟩
    rw [upd_ne (by rw [← eD]; exact Nat.ne_of_lt lt)]
    exact (fa b hm).1
  have stb : tn 0 sb.heap := T.keep _ _ _ sta fun b _ o e => by rw [hb]; exact Heap.get?_push_of_some _ e
  have Ic := block_start Ib ok nd fb
  let cells := cellsFrom (sb.heap.objs.size + 1) scope.names (cloFrom X.env.cells scope.names [])
  have entry : Entry X σ sb (upd Ha D (.lst [])) fp := ⟨pins, Ib, fun b hm y c e => (fb b hm).1.2.2.2.2.1 y c e⟩
  have pg := hg sb (upd Ha D (.lst [])) sb.heap.objs.size cells fp
  have pe := he σ sb (upd Ha D (.lst [])) sb.heap.objs.size cells fp entry
  have unf : ∀ b ∈ fp, (upd Ha D (.lst [])) b = none := fun b hm => (fb b hm).1.1
  show codeAny _ _ (.compStart (.ListComp elt [⟨tg, iter, [], 0⟩] scope pos) 0 (.ref it) (.ref D) (compEnvC scope cells sb.heap.objs.size X.env)) (compPost (model X.prog X.w) X.A X.xe none (EP X pins σ Q) (.ref D) sb.heap.objs.size) { sb with heap := pushCells (sb.heap.push { cls := .type "dict", data := .dict #[] }) scope.names }
  generalize ece : compEnvC scope cells sb.heap.objs.size X.env = ce at Ic pg pe ⊢
  have cL : ce.locals = sb.heap.objs.size := by subst ece; rfl
  generalize eHb : upd Ha D (.lst []) = Hb at Ib Ic pg pe w0 unf fb
  generalize esc : ({ sb with heap := pushCells (sb.heap.push { cls := .type "dict", data := .dict #[] }) scope.names } : Shared) = sc at Ic ⊢
  have stc : tn 0 sc.heap := T.keep _ _ _ stb fun b _ o e => by rw [← esc]; exact pushCells_keeps _ _ _ _ (Heap.get?_push_of_some _ e)
  have fpk : ∀ {σ' : L2.St} {H' : Hp} {s' : Shared}, Inv (X.blk sb Hb scope ce fp) [] σ' H' s' → (∀ b ∈ fp, H' b = none) → ∀ b ∈ fp, FpOk (X.blk sb Hb scope ce fp) [] H' b := fun {σ' H' s'} I' hn b hm =>
    ⟨hn b hm, (I'.ok.exf b hm).1, I'.ok.exfs b hm, .inl hm, fun x c e => (I'.ok.exf b hm).2 x c e, fun p hp => absurd (show p ∈ ([] : List (Addr × Obj)) ++ [] from hp) (by simp)⟩
  refine codeAny_compStart_list (?loop : codeAny (model X.prog X.w) X.A (.compLoop (.ListComp elt [⟨tg, iter, [], 0⟩] scope pos) 0 (.ref it) (.ref D) ce) (compPost (model X.prog X.w) X.A X.xe none (EP X pins σ Q) (.ref D) sb.heap.objs.size) sc) (T.self X.A 0 _ _ _ stc ?loop)
  refine compLoop_any (fun n s' => ∃ i H', Inv (X.blk sb Hb scope ce fp) [] (wipe σ (own.map (·.2))) H' s' ∧ tn i s'.heap ∧ (∀ b ∈ fp, H' b = none) ∧ W i n H') ?_ m0 ⟨0, Hb, Ic, stc, unf, w0⟩
  rintro n s5 ⟨i, H5, I5, st5, n5, w5⟩
  rcases turn i n H5 w5 with ⟨stop, qq⟩ | ⟨go, Nx, next, step⟩
  · refine thnF (T.done (X.blk sb Hb scope ce fp) rfl rfl rfl hc i [] s5 _ H5 (fun _ _ => False) I5 (fpk I5 n5) st5 stop) fun r s6 ⟨hr, I6⟩ => ?_
    subst hr
    have I7 : Inv X pins σ H5 s6 := Ib.call' (ch := fp) I6.os I6.base I6.hok I6.bare fun b hm => ⟨(fb b hm).1.2.2.2.1, (fb b hm).1.2.1, (fb b hm).1.2.2.2.2.1, (fb b hm).1.2.2.2.2.2⟩
    have nC : H5 sb.heap.objs.size = none := by
      have z : H5 ce.locals = none := I6.free
      rw [cL] at z
      exact z
    obtain ⟨m, hn, _⟩ := I6.loc
    have hn : s6.heap.Ns ce.locals m := hn
    rw [cL] at hn
    refine ⟨m, hn, fun h'' sm => ?_⟩
    obtain ⟨f0, f1, f2, f3, f4, f5⟩ := Ib.fpOk (Nat.le_refl _) nC
    exact ⟨.ref D, H5, I7.turned (t' := s6.toks) (fun b o hb e => (sm.2 b hb).trans e) f0 f1 f3 f4 f5, rfl, qq⟩
  · refine thnF (T.item (X.blk sb Hb scope ce fp) rfl rfl rfl hc i [] s5 _ H5 (fun _ _ => False) I5 (fpk I5 n5) st5 go) fun r s6 ⟨u, hr, h6⟩ => ?_
    subst hr
    refine thnF h6 fun _ s7 ⟨x, H7, I7, r7, y7, st7, n7⟩ => ?_
    refine thnF (pg.run _ s7 _ H7 x u _ (I7.pinned (fpk I7 n7) (T.obj _ _ st7)) r7 (step x H7 y7)) fun _ s8 ⟨σ8, H8, I8, hw8, q8⟩ => ?_
    refine wpAny_tests_nil ?_
    simp only [if_true]
    refine thnF (pe.run _ s8 σ8 H8 _ I8 q8) fun z s10 ⟨yv, H10, I10, r10, acc, hD10, hz10, nx⟩ => ?_
    refine app_ok (X := X.blk sb Hb scope ce fp) I10 hD10 hz10 r10 fun s11 I11 => ?_
    obtain ⟨m', hm, w'⟩ := next _ nx
    have pin' : ∀ b ∈ fp, ∀ o, s7.heap.get? b = some o → s11.heap.get? b = some o ∧ (upd H10 D (.lst (acc ++ [yv]))) b = none := fun b hm o e =>
      let z := I11.pin (b, o) (List.mem_append_right _ (List.mem_append_right _ (mem_pinsAt hm e)))
      ⟨z.1, z.2.1⟩
    have hl : (wipe σ (own.map (·.2))).length = σ8.length := by rw [← hw8, wipe_length]
    refine ⟨m', hm, i + 1, _, (I11.unpinned (pins := [])).weak hl (fun j v e => ?_), T.keep _ _ _ st7 fun b hm o e => (pin' b hm o e).1, fun b hm => ?_, w'⟩
    · rw [← hw8] at e
      exact (wipe_some e).1
    · obtain ⟨o, e, _⟩ := T.obj _ _ st7 b hm
      exact (pin' b hm o e).2
variable {x : Str} {g' : Addr} {k j : Nat} {TT : (XK → Hp → VK → Prop) → Hp → VK → Prop} {e : Expr} {t : TE} {p q : Pos} {s₀ : Shared} {H₀ : Hp} {ce : Env} {fp : List Addr}
/-- x(e) within a comprehension, e a lambda that the def around made -/
def tToldB (X : Cx) (j : Nat) (TT : (XK → Hp → VK → Prop) → Hp → VK → Prop) (t : TE) (σ₀ : L2.St) : TE := fun σ H Q => t σ H fun v H1 => ∃ (f : Addr) (F : LF) (N fr : List Str) (js : List Nat) (tb : XK → TE), v = .ref f ∧ LamGood X j F N fr js tb ∧ TT (lamTl f F N tb (js.map (slotAt σ₀))) H1 Q
theorem pe_toldB {σ₀ : L2.St} (en : Entry X σ₀ s₀ H₀ fp) (Tg : Teller X.prog X.w X.K X.mg X.base k (j + 1) g' TT) (hr : Room k X.A) (hgl : Gl (X.blk s₀ H₀ scope ce fp) x) (hm : X.mg x = some (.ref g')) (hk : PySem.W.keepIn X.K (.ref g') = true) (he : PE (X.blk s₀ H₀ scope ce fp) e t)
    (hs : starEach (e :: []) ce = (false, eval e ce) :: starEach [] ce := by rfl) (hpl : (backTo q (starEach [] ce)).any (·.1) = false := by rfl) (hdb : (x == ("__debug__" : Str)) = false := by decide) :
    PE (X.blk s₀ H₀ scope ce fp) (.Call (.Name x p) [e] [] q) (tToldB X j TT t σ₀) := by
  refine ⟨fun pins s σ H Q I h => ?_⟩
  refine wpAny_Call_Name_kw (ld_glob I hgl hm ?_ hdb)
  have ha : PA (X.blk s₀ H₀ scope ce fp) [e] (tCons t tNil) := pa_cons he pa_nil hs
  refine PySem.W.callWith_K (h₀ := X.base) I.ok.mod.kin hk (thn (ha.run q pins s σ H (fun vs H1 => match vs with | [v] => ∃ (f : Addr) (F : LF) (N fr : List Str) (js : List Nat) (tb : XK → TE), v = .ref f ∧ LamGood X j F N fr js tb ∧ TT (lamTl f F N tb (js.map (slotAt σ₀))) H1 Q | _ => False) I h) fun us s1 hh => ?_) hs hpl
  obtain ⟨vs, H1, I1, r1, hv⟩ := hh
  match vs, r1, hv with
  | [v], r1, hv =>
    obtain ⟨f, F, N, fr, js, tb, rfl, G, qq⟩ := hv
    obtain ⟨u, rfl, ru⟩ := vals1 r1
    cases ru
    obtain ⟨pins₀, I₀, away⟩ := en
    have cp := G.caps I₀.ok
    have C₀ : CellsAt F.cl fr (js.map (slotAt σ₀)) s₀.heap H₀ := cells_of I₀ cp
    have un : Un (frs X.stack) fp H₀ H1 s₀.heap s1.heap := I1.base
    have C1 := cells_un C₀ un fun y c e hm => away c hm y c (cp.sub y c e) rfl
    exact ⟨I1.kIn, told_here (X := X.blk s₀ H₀ scope ce fp) (j := j) Tg hr I1 G.S G.hb G.body C1 qq⟩
end
end KX

end

section
set_option Elab.async false
set_option linter.all false
set_option maxRecDepth 100000
set_option maxHeartbeats 2000000
/-! list(d.values()); text * int. -/
namespace KX
open PySem PySem.Spec PyProof.Rows L2
theorem vals_ix : ∀ {xs : List V} {us : List Value}, xs.length = us.length → (∀ (i : Nat) x u, xs[i]? = some x → us[i]? = some u → RelV x u) → Vals xs us
  | [], [], _, _ => .nil
  | [], _ :: _, h, _ => by simp at h
  | _ :: _, [], h, _ => by simp at h
  | x :: xs, u :: us, h, r => .cons (r 0 x u rfl rfl) (vals_ix (by simpa using h) fun i y v h1 h2 => r (i + 1) y v (by simpa using h1) (by simpa using h2))
section
variable {X : Cx} {e : Expr} {te : TE} {p pos apos cpos : Pos}
/-- list(d.values()) -/
def tListValues (te : TE) : TE := fun σ H Q => te σ H fun x H1 => ∃ (d : Addr) (kvs : List (Key × V)), x = .ref d ∧ H1 d = some (.dK kvs) ∧ ∀ l, H1 l = none → Q (.ref l) (upd H1 l (.lst (kvs.map (·.2))))
theorem pe_listValues (hc : X.calm = true) (he : PE X e te) (hg : Gl X "list") (hm : X.mg "list" = none) (hv : bootBuiltins "list" = some (.type "list")) (hbase : attributeBase e "values" X.env (eval e X.env) = eval e X.env := by rfl) (hline : (apos.endLine == cpos.line) = true := by rfl)
    (hs : starEach [.Call (.Attribute e "values" apos) [] [] cpos] X.env = (false, eval (.Call (.Attribute e "values" apos) [] [] cpos) X.env) :: starEach [] X.env := by rfl) :
    PE X (.Call (.Name "list" p) [.Call (.Attribute e "values" apos) [] [] cpos] [] pos) (tListValues te) := by
  refine ⟨fun pins s σ H Q I hq => ?_⟩
  refine wpAny_Call_Name_kw (ld_blt I hg hm hv (PyProof.Rows.callWith_type1 ?_ hs rfl))
  rw [hs]
  show wpAny _ _ (spliced ((false, eval (.Call (.Attribute e "values" apos) [] [] cpos) X.env) :: backTo pos (starEach [] X.env))) _ _ s
  refine Calls.spliced_cons (wpAny_Call_method (T := "dict") (id := "dict.values") hbase rfl hline F.plainAttrs_dict F.slot_dict_values F.type_dict_values (thn (he.run pins s σ H _ I hq) fun u s1 hh => ?_))
  obtain ⟨x, H1, I1, rx, d, kvs, ex, hd, q⟩ := hh
  subst ex
  cases rx
  obtain ⟨hz, hsys, vs, kv, dic⟩ := I1.hok d _ hd
  have lk : kvs.length = vs.length := Paired.length kv
  obtain ⟨es, ep, raw, sz, ents⟩ := Heap.DictOf.raw dic
  refine ⟨dic.typeIs, dic.mapOf.noDict, ?_⟩
  show wpAny _ _ (callWith cpos (.builtin "dict.values") [.ref d] [] []) _ X.xe s1
  refine method_meetsIn F.slot_dict_values F.entry_dict_values rfl (PySem.evalArgs_none ⟨rfl, dic.typeIs, F.args_dict_values_1 _, _, meets_dict_values (mixKind X.prog X.w) d hsys, ⟨vs, dic⟩, ?_⟩)
  refine Calls.spliced_nil ?_
  refine PySem.W.kdl_call (KdlSrc.rawValues (r := s1.heap.objs.size) (d := d) (es := es) (ep := ep)) (I1.ok.hd hc) ⟨⟨_, Heap.get?_push_size _ rfl, rfl, rfl⟩, raw.at fun o e => Heap.get?_push_of_some _ e⟩ (by omega) fun h' tk acc c keep at_ items => ?_
  have I2 : Inv X pins σ H1 { s1 with heap := s1.heap.push { cls := .type "dict_values", data := .fields #[.ref d] } } := I1.kept (t' := s1.toks) fun b ob q => Heap.get?_push_of_some _ q
  obtain ⟨n1, n2⟩ := items
  have rel : Vals (kvs.map (·.2)) acc.toList := by
    refine vals_ix (by show (kvs.map (·.2)).length = acc.toList.length; have ea : acc.toList.length = acc.size := Array.length_toList; rw [List.length_map, ea]; omega) fun i x u h1 h2 => ?_
    rw [List.getElem?_map] at h1
    obtain ⟨kx, hk, rfl⟩ := Option.map_eq_some_iff.mp h1
    obtain ⟨hi, hu⟩ := n2 i u (by simpa using h2)
    obtain ⟨y, hy, r1, r2⟩ := paired_get kv hk
    obtain ⟨k', v'⟩ := y
    obtain ⟨_, ev⟩ := ents i hi k' v' hy
    rw [hu, ev]
    exact r2
  have fresh := I2.hok.fresh (Nat.le_refl _)
  exact ⟨.ref _, _, I2.laid (t' := tk) (o := .lst (kvs.map (·.2))) keep (Nat.le_refl _) ⟨by rw [List.length_map]; exact hz, acc.toList, c, rel, by rw [Array.toArray_toList]; exact at_⟩, rfl, q _ (by
    have nl : H1 _ = none := fresh
    exact nl)⟩
/-- text * int -/
def rStrMul : R2 := fun x y H Q => ∃ (c : Nat) (n : Nat), x = .str ⟨#[c]⟩ ∧ y = .int n ∧ 1 ≤ n ∧ n ≤ 1000 ∧ Q (.str ⟨(List.replicate n c).toArray⟩) H
theorem foldl_one (c : Nat) : ∀ (n : Nat) (acc : Array Nat), ((List.replicate n #[c]).foldl (· ++ ·) acc) = acc ++ (List.replicate n c).toArray
  | 0, acc => by simp
  | n + 1, acc => by
    rw [List.replicate_succ, List.foldl_cons, foldl_one c n, List.replicate_succ]
    apply Array.ext'
    simp
theorem op_strMul : OpR X (binaryOp .Mult) rStrMul := by
  intro pins s σ H x y v u Q I rx ry h
  obtain ⟨c, n, rfl, rfl, h1, h2, q⟩ := h
  obtain ⟨t, rfl⟩ := rx
  obtain ⟨t', rfl⟩ := ry
  have hl : (⟨#[c]⟩ : Str).length = 1 := rfl
  refine PySem.P.mul_str (by rw [decide_eq_false (by omega), decide_eq_false (by omega)] <;> rfl) (fun _ _ => ?_) (fun _ _ => ?_) ?_
  · have hn : (0 : Int) < n := by omega
    have := (Int.le_ediv_iff_mul_le hn).mpr (show (1 : Int) * (n : Int) ≤ 2 ^ 63 - 1 by omega)
    rw [hl]
    omega
  · refine decide_eq_false ?_
    rw [sizeLine_eq, hl]
    have : (n : Int).toNat = n := by omega
    rw [this]
    omega
  · rw [if_neg (by omega)]
    by_cases e : n = 1
    · subst e
      rw [if_pos (by simp)]
      exact ⟨.str _, H, I, ⟨t, rfl⟩, q⟩
    · rw [if_neg (by rw [hl]; simp; omega)]
      have e2 : (⟨(List.replicate (n : Int).toNat (⟨#[c]⟩ : Str).cps).foldl (· ++ ·) #[]⟩ : Str) = ⟨(List.replicate n c).toArray⟩ := by
        rw [show (n : Int).toNat = n by omega, foldl_one]
        simp
      rw [e2]
      refine ⟨?_, .str _, H, I.tok _, ⟨_, rfl⟩, q⟩
      show (List.replicate n c).toArray.size ≤ sizeLine
      rw [List.size_toArray, List.length_replicate, sizeLine_eq]
      omega
end
end KX

end

section
set_option Elab.async false
set_option linter.all false
set_option maxRecDepth 100000
set_option maxHeartbeats 2000000
namespace KX
open PySem PySem.Spec PyProof.Rows L2
section
variable {X : Cx}
/-- d == e of two dicts with the same keys that hold the same objects -/
def rEqVery : R2 := fun x y H Q => ∃ a b ks ls, x = .ref a ∧ y = .ref b ∧ H a = some (.dK ks) ∧ H b = some (.dK ls) ∧ ks.length = ls.length ∧ (∀ p ∈ ks, valV ls p.1 = some p.2 ∧ isRef p.2 = true) ∧ Q (.bl true) H
theorem op_eqVery (hu : X.A.units < cLine) : OpR X (compareOp .Eq) rEqVery := by
  intro pins s σ H x y v u Q I rx ry h
  obtain ⟨a, b, ks, ls, rfl, rfl, ea, eb, hlen, hp, q⟩ := h
  cases rx
  cases ry
  obtain ⟨_, ya, va, ra, da⟩ := (show ObjOk X.prog X.w H s.heap a (.dK ks) from I.hok a _ ea)
  obtain ⟨_, yb, vb, rb, db⟩ := (show ObjOk X.prog X.w H s.heap b (.dK ls) from I.hok b _ eb)
  have hl : va.length = vb.length := by rw [← ra.length, ← rb.length, hlen]
  exact PySem.W.keq_eq (knd := mixKind X.prog X.w) (r := true) ya yb da db hu (fun _ => hits_very rb ra hp) (fin_bl I q (by simp [hl]))
end
end KX

end

section
set_option Elab.async false
set_option linter.all false
set_option maxRecDepth 100000
set_option maxHeartbeats 2000000
/-! enumerate over a tuple. -/
namespace KX
open PySem PySem.Spec PyProof.Rows L2
theorem meets_enum1 {v : Value} {o : Obj} {H : Heap → Prop} (B : Begins v o H) :
    Meets (Builtin.«enumerate.__new__» ⟨[.type "enumerate", v], []⟩) (fun _ R s => H s.heap ∧
      R (.ok (.ret (.ref (s.heap.push o).objs.size))) { s with heap := (s.heap.push o).push { cls := .type "enumerate", data := .fields #[.none, .bool false, .ref s.heap.objs.size, rawInt 0, .none, .none] } }) :=
  .of_wp fun prog w A R s h => by
    obtain ⟨hp, g, d, tk, os⟩ := s; obtain ⟨h1, h⟩ := h
    have hsub := sub_enumerate
    have q1 : ∀ {A' : Around} {E : Value → Shared → Prop} {Q : Value → Shared → Prop}, Q (.ref hp.objs.size) ⟨hp.push o, g, d, tk, os⟩ → wpAny (model prog w) A' (pyIter v) Q E ⟨hp, g, d, tk, os⟩ :=
      fun q => B.iter prog w _ _ ⟨hp, g, d, tk, os⟩ _ h1 q
    wp_walk using q1
    refine wpAny_stack_any fun st => wpAny_pure ?_
    split
    · rename_i c _ _ _ _ _
      cases (c == Value.type "enumerate")
      · wp_walk using q1
        exact ⟨_, rfl, h⟩
      · wp_walk using q1
        exact ⟨_, rfl, h⟩
    · wp_walk using q1
      exact ⟨_, rfl, h⟩
theorem enum1 {prog : Program} {w : World} {A : Around} {E : Value → Shared → Prop} {s : Shared} {v : Value} {o : Obj} {H : Heap → Prop} {Q : Value → Shared → Prop} (B : Begins v o H) (h1 : H s.heap)
    (h : ∀ h', IsEnum h' (s.heap.objs.size + 1) s.heap.objs.size 0 .none → h'.get? s.heap.objs.size = some o → h'.objs.size = s.heap.objs.size + 2 →
      (∀ b o, s.heap.get? b = some o → h'.get? b = some o) → Q (.ref (s.heap.objs.size + 1)) { s with heap := h' }) :
    wpAny (model prog w) A (call (.type "enumerate") [v]) Q E s := by
  refine callType_new F.called_enumerate (by decide) (F.typeCall_enumerate_1 _) (F.newCall_enumerate_1 _) (fun obj => F.args_object_init_2 obj _) F.entry_enumerate_new
    (meets_enum1 B) ⟨h1, ?_⟩
  have hz : (s.heap.push o).objs.size = s.heap.objs.size + 1 := Heap.size_push ..
  show _ ∧ _
  rw [hz]
  have he : IsEnum ((s.heap.push o).push { cls := .type "enumerate", data := .fields #[.none, .bool false, .ref s.heap.objs.size, rawInt 0, .none, .none] }) (s.heap.objs.size + 1) s.heap.objs.size 0 .none := by
    have := Heap.get?_push_size (s.heap.push o) (o := { cls := .type "enumerate", data := .fields #[.none, .bool false, .ref s.heap.objs.size, rawInt 0, .none, .none] }) rfl
    rw [hz] at this; exact this
  refine ⟨⟨_, he, rfl⟩, h _ he (Heap.get?_push_of_some _ (Heap.get?_push_size _ B.free)) (by rw [Heap.size_push, hz]) fun b o x => Heap.get?_push_of_some _ (Heap.get?_push_of_some _ x)⟩
/-- the tuple's items, each in a new pair -/
def IteT (K : PySem.W.Frag) (a : Addr) : It :=
  ⟨fun i H => ∃ (xs : List V) (x : V), SqT K H a xs ∧ xs[i]? = some x, fun i H v H' => ∃ T x, v = .ref T ∧ H T = none ∧ H' = upd H T (.tup [.int (i : Nat), x]) ∧ ∀ xs, SqT K H a xs → xs[i]? = some x, fun i H => ∃ xs : List V, SqT K H a xs ∧ xs.length = i⟩
theorem turn_enumT {P : Program} {w : World} {K : PySem.W.Frag} {elts : List Expr} {kk : Nat} {tpos : Pos} (a e it : Addr) (hai : a ≠ it) (hae : a ≠ e) :
    Turn P w K (.Tuple elts kk tpos) (IteT K a) [e, it] e (fun i h => (∃ old, IsEnum h e it ((i : Nat) : Int) old) ∧ h.IsTupleIter it a i ∧ e ≠ it) where
  mem := by simp
  obj := fun i h st b hb => by
    obtain ⟨⟨old, he⟩, ⟨o, ho, hc, hd⟩, _⟩ := st
    have e' : b = e ∨ b = it := by simpa using hb
    rcases e' with z | z
    · rw [z]; exact ⟨_, he, fun v q => nomatch q⟩
    · rw [z]; exact ⟨o, ho, fun v q => by rw [hd] at q; cases q⟩
  keep := fun i h h' st k => let ⟨⟨old, he⟩, hi, hne⟩ := st; ⟨⟨old, k e (by simp) _ he⟩, hi.at fun o q => k it (by simp) o q, hne⟩
  item := by
    intro X hP hw hK hc i pins s σ H E I hf st hg
    subst hP hw hK
    obtain ⟨⟨old, he⟩, hit, hne⟩ := st
    obtain ⟨xs, x, hq, hx⟩ := hg
    obtain ⟨its, rv, p, hz⟩ := I.tuple hq
    obtain ⟨u, hu, ru⟩ := rv.get hx
    have hel : e < s.heap.objs.size := Heap.lt_size he
    have hil : it < s.heap.objs.size := by obtain ⟨_, q, _⟩ := hit; exact Heap.lt_size q
    have hT0 : s.heap.IsTuple a its.toArray := p
    have hlt : i < its.toArray.size := by
      have := (List.getElem?_eq_some_iff.mp hu).1
      simpa using this
    have D := Draws.tuple (prog := X.prog) (w := X.w) (A := X.A.in1) (I.ok.hd hc) it a hai its.toArray
    refine wpAny_pyNext_enum_itemD D he ⟨hit, hT0⟩ hlt hne (by simp [hne, Ne.symm hae]) fun x' h' tk hP' ho hst' hT hsz hk => ?_
    have ex : x' = u := by
      have h1 : its[i]? = some x' := by simpa using hP'
      rw [hu] at h1
      exact (Option.some.inj h1).symm
    subst ex
    refine ⟨_, rfl, wpAny_letOwnedTupleGo_enum (s := { s with heap := h', toks := tk + 1 }) ho fun h'' he' sb => ?_⟩
    have hT2 : h''.get? s.heap.objs.size = some { cls := .type "tuple", data := .seq #[.int i tk, x'] } := (sb.2 _ (Nat.ne_of_gt hel)).trans hT
    have new : ObjOk X.prog X.w (upd H s.heap.objs.size (.tup [.int (i : Nat), x])) h'' s.heap.objs.size (.tup [.int (i : Nat), x]) :=
      ⟨by show 2 ≤ sizeLine; decide, [.int i tk, x'], .cons ⟨_, rfl⟩ (.cons ru .nil), ⟨_, hT2, rfl, _, rfl⟩⟩
    have I1 : Inv X pins σ (upd H s.heap.objs.size (.tup [.int (i : Nat), x])) { s with heap := h'', toks := tk + 1 } :=
      I.turnedNew (ch := [e, it]) (fun b ob hb q => (sb.2 b (fun z => hb (by simp [z]))).trans (hk b ob (fun z => hb (by simp [z])) (fun z => hb (by simp [z])) q)) hf (Nat.le_refl _) new
    refine ⟨.ref s.heap.objs.size, _, I1, rfl, ⟨_, x, rfl, I.hok.fresh (Nat.le_refl _), rfl, fun ys hy => by rw [I.tuple_inj hy hq]; exact hx⟩, ⟨⟨x', ?_⟩, hst'.1.at fun o q => (sb.2 it (Ne.symm hne)).trans q, hne⟩, fun b hb => ?_⟩
    · have e1 : ((i + 1 : Nat) : Int) = (i : Int) + 1 := by omega
      rw [e1]; exact he'
    · have hb' : b < s.heap.objs.size := by
        have e' : b = e ∨ b = it := by simpa using hb
        rcases e' with z | z
        · rw [z]; exact hel
        · rw [z]; exact hil
      rw [upd_ne (Nat.ne_of_lt hb')]
      exact (hf b hb).1
  done := by
    intro X hP hw hK hc i pins s σ H E I hf st hg
    subst hP hw hK
    obtain ⟨⟨old, he⟩, hit, hne⟩ := st
    obtain ⟨xs, hq, hx⟩ := hg
    obtain ⟨its, rv, p, hz⟩ := I.tuple hq
    obtain ⟨f0, f1, f2, f3, f4, f5⟩ := hf it (by simp)
    have hl := rv.length
    have hT0 : s.heap.IsTuple a its.toArray := p
    have D := Draws.tuple (prog := X.prog) (w := X.w) (A := X.A.in1) (I.ok.hd hc) it a hai its.toArray
    have en : i = its.toArray.size := by simp; omega
    exact wpAny_pyNext_enum_endD D he (by rw [← en]; exact ⟨hit, hT0⟩) fun h' eb => ⟨rfl, I.turned (t' := s.toks) (fun b o hb q => eb b o hb q) f0 f1 f3 f4 f5⟩
  self := fun A i s Q E st h => let ⟨⟨_, he⟩, _⟩ := st; wpAny_pyIter_enum he h
theorem walk_enumT {K : PySem.W.Frag} {a : Addr} {xs : List V} : Walk (IteT K a) xs.length (fun H => SqT K H a xs) (YPair (fun i => some (.int (i : Nat))) (fun i => xs[i]?)) := by
  refine ⟨fun i _ hi q => ⟨xs, xs[i], q, by simp [hi]⟩, fun _ q => ⟨xs, q, rfl⟩, fun i H v H' _ q y => ?_⟩
  obtain ⟨T, x, h1, h2, h3, h4⟩ := y
  exact ⟨T, .int (i : Nat), x, h1, h2, h3, rfl, h4 xs q⟩
def iEnumT (K : PySem.W.Frag) (ta : TA) : TI := fun σ H R => ta σ H fun vs H1 => ∃ a xs, vs = [.ref a] ∧ (SqL K H1 a xs ∨ SqT K H1 a xs) ∧
  ∀ (J : It) (G : Hp → Prop), Walk J xs.length G (YPair (fun i => some (.int (i : Nat))) (fun i => xs[i]?)) → (∀ H3, Same H1 H3 → G H3) → R J H1
theorem pi_enumT {X : Cx} {e : Expr} {ta : TA} {p pos tpos : Pos} {elts : List Expr} {kk : Nat} (hg : Gl X "enumerate") (hm : X.mg "enumerate" = none) (ha : PA X [e] ta) (hs : starEach [e] X.env = [(false, eval e X.env)] := by rfl) :
    PI X (.Tuple elts kk tpos) (.Call (.Name "enumerate" p) [e] [] pos) (iEnumT X.K ta) := by
  refine ⟨fun pins s σ H R I h => ?_⟩
  refine Call_ (ld_blt I hg hm boot_enumerate (PyProof.Rows.callWith_type1 (thn (ha.run pos pins s σ H _ I h) fun us s1 ⟨vs, H1, I1, r1, q1⟩ => ?_) hs rfl))
  obtain ⟨a, xs, ex, hsq, q⟩ := q1
  subst ex
  cases r1 with
  | cons r rr =>
    cases rr
    cases r
    have fin : ∀ {b : Addr}, b ∈ [s1.heap.objs.size + 1, s1.heap.objs.size] → FpOk X pins H1 b := fun {b} hb => by
      have e' : b = s1.heap.objs.size + 1 ∨ b = s1.heap.objs.size := by simpa using hb
      have hle : s1.heap.objs.size ≤ b := by
        rcases e' with z | z
        · rw [z]; exact Nat.le_add_right _ _
        · rw [z]; exact Nat.le_refl _
      exact I1.fpOk hle (I1.hok.fresh hle)
    rcases hsq with hq | hq
    · obtain ⟨its, rv, p', hz⟩ := I1.list hq
      refine call_enumerate_list p'.isList fun h' he hit hsz hk => wpAny_pyIter_enum he ?_
      have I2 : Inv X pins σ H1 { s1 with heap := h' } := I1.kept (t' := s1.toks) hk
      exact ⟨s1.heap.objs.size + 1, [s1.heap.objs.size + 1, s1.heap.objs.size], _, _, H1, rfl, I2, turn_enum a (s1.heap.objs.size + 1) s1.heap.objs.size, ⟨⟨.none, he⟩, hit, Nat.succ_ne_self _⟩, fun b hb => fin hb, q _ _ walk_enum fun H3 s => s.seq hq⟩
    · obtain ⟨its, rv, p', hz⟩ := I1.tuple hq
      have hT0 : s1.heap.IsTuple a its.toArray := p'
      have hal : a < s1.heap.objs.size := by obtain ⟨_, z, _⟩ := hT0; exact Heap.lt_size z
      refine enum1 (begins_tuple a its.toArray) hT0 fun h' he hit hsz hk => wpAny_pyIter_enum he ?_
      have I2 : Inv X pins σ H1 { s1 with heap := h' } := I1.kept (t' := s1.toks) hk
      exact ⟨s1.heap.objs.size + 1, [s1.heap.objs.size + 1, s1.heap.objs.size], _, _, H1, rfl, I2, turn_enumT a (s1.heap.objs.size + 1) s1.heap.objs.size (Nat.ne_of_lt hal) (Nat.ne_of_lt (Nat.lt_succ_of_lt hal)), ⟨⟨.none, he⟩, ⟨_, hit, rfl, rfl⟩, Nat.succ_ne_self _⟩, fun b hb => fin hb, q _ _ walk_enumT fun H3 s => (show SqT X.K H3 a xs from match hq with | .inl (.inl h) => .inl (.inl (s _ _ h)) | .inl (.inr ⟨o, h⟩) => .inl (.inr ⟨o, s _ _ h⟩) | .inr h => .inr h)⟩
end KX

end

section
set_option Elab.async false
set_option linter.all false
set_option maxRecDepth 100000
set_option maxHeartbeats 2000000
/-! A list of two, its second item a counter that nobody tells: opened while a def turns it. -/
namespace KX
open PySem PySem.Spec PyProof.Rows L2
def DrawO (d a : Addr) : HO := .ext fun h => ∃ (n : Int) (t : Tok) (k : Nat), h.get? d = some { cls := .type "list", data := .seq #[.ref a, .int n t] k }
section
variable {X : Cx} {pins : List (Addr × Obj)} {σ : L2.St} {H : Hp} {s : Shared} {d a : Addr}
theorem draw_open (I : Inv X pins σ H s) (h : H d = some (DrawO d a)) : ∃ n : Int, Inv X pins σ (upd H d (.lst [.ref a, .int n])) s := by
  obtain ⟨⟨n, t, k, e⟩, _, _⟩ := (show ObjOk X.prog X.w H s.heap d (DrawO d a) from I.hok d _ h)
  have new : ObjOk X.prog X.w (upd H d (.lst [.ref a, .int n])) s.heap d (.lst [.ref a, .int n]) := ⟨by show 2 ≤ sizeLine; decide, [.ref a, .int n t], k, .cons rfl (.cons ⟨t, rfl⟩ .nil), e⟩
  exact ⟨n, I.write (x := d) (e := d) (t' := s.toks) (h' := s.heap) (by rw [h]; trivial) (.inl rfl) (fun b v _ q => q) ⟨_, e⟩ new⟩
theorem draw_close {n : Int} (I : Inv X pins σ H s) (h : H d = some (.lst [.ref a, .int n])) : Inv X pins σ (upd H d (DrawO d a)) s := by
  obtain ⟨_, its, k, r, e⟩ := (show ObjOk X.prog X.w H s.heap d (.lst [.ref a, .int n]) from I.hok d _ h)
  have new : ObjOk X.prog X.w (upd H d (DrawO d a)) s.heap d (DrawO d a) := by
    cases r with
    | cons r1 r2 =>
      cases r2 with
      | cons r2 r3 =>
        cases r3
        cases r1
        obtain ⟨t, rfl⟩ := r2
        exact ⟨⟨n, t, k, e⟩, ⟨_, e⟩, fun h1 h2 ⟨n, t, k, z⟩ st => ⟨n, t, k, st _ z⟩⟩
  exact I.write (x := d) (e := d) (t' := s.toks) (h' := s.heap) (by rw [h]; trivial) (.inl rfl) (fun b v _ q => q) ⟨_, e⟩ new
def sOpen (t : TS) : TS := fun D σ H => ∃ d a, H d = some (DrawO d a) ∧ ∀ n : Int, t
  ⟨fun σ' H' => (∃ n' : Int, H' d = some (.lst [.ref a, .int n'])) ∧ D.nx σ' (upd H' d (DrawO d a)), fun v H' => (∃ n' : Int, H' d = some (.lst [.ref a, .int n'])) ∧ D.rt v (upd H' d (DrawO d a)),
    fun σ' H' => (∃ n' : Int, H' d = some (.lst [.ref a, .int n'])) ∧ D.bk σ' (upd H' d (DrawO d a)), fun σ' H' => (∃ n' : Int, H' d = some (.lst [.ref a, .int n'])) ∧ D.ct σ' (upd H' d (DrawO d a))⟩ σ (upd H d (.lst [.ref a, .int n]))
theorem pss_open {b : List Stmt} {t : TS} (h : PSs X b t) : PSs X b (sOpen t) := by
  refine ⟨fun pins s σ H D I hw => ?_⟩
  obtain ⟨d, a, hd, hw⟩ := hw
  obtain ⟨n, I1⟩ := draw_open I hd
  refine thn (h.run pins s σ _ _ I1 (hw n)) fun f s1 q => ?_
  cases f with
  | next => obtain ⟨σ', H', I2, ⟨n', e⟩, q⟩ := q; exact ⟨σ', _, draw_close I2 e, q⟩
  | brk => obtain ⟨σ', H', I2, ⟨n', e⟩, q⟩ := q; exact ⟨σ', _, draw_close I2 e, q⟩
  | cont => obtain ⟨σ', H', I2, ⟨n', e⟩, q⟩ := q; exact ⟨σ', _, draw_close I2 e, q⟩
  | ret v => obtain ⟨x, σ', H', I2, r, ⟨n', e⟩, q⟩ := q; exact ⟨x, σ', _, draw_close I2 e, r, q⟩
def sClose (t : TS) : TS := fun D σ H => ∃ (d a : Addr) (n : Int), H d = some (.lst [.ref a, .int n]) ∧ t D σ (upd H d (DrawO d a))
theorem pss_close {b : List Stmt} {t : TS} (h : PSs X b t) : PSs X b (sClose t) := by
  refine ⟨fun pins s σ H D I hw => ?_⟩
  obtain ⟨d, a, n, hd, hw⟩ := hw
  exact h.run pins s σ _ _ (draw_close I hd) hw
end
end KX

end

section
set_option Elab.async false
set_option linter.all false
set_option maxRecDepth 100000
/-! The text by places; the names of each def; what the top leaves. -/

namespace K41
open PySem PySem.Spec PyProof.Rows L2 KX
def topS (i : Nat) : Stmt := PySem.Challenge.pw_changetables_k41_whole_kinds_and_changes.main.body.getD i (.Pass ⟨0, 0, 0, 0⟩)
abbrev s_BadKinds_init : Stmt := inClass (topS 2) 0
abbrev n_BadKinds_init : List Str := ["self", "name"]
theorem sc_BadKinds_init : FnScope n_BadKinds_init ["self", "name"] (defScope s_BadKinds_init) := ⟨rfl, rfl, rfl, by decide +kernel, rfl, by decide +kernel, by decide +kernel⟩
abbrev s_BadChange_init : Stmt := inClass (topS 3) 0
abbrev n_BadChange_init : List Str := ["self", "place"]
theorem sc_BadChange_init : FnScope n_BadChange_init ["self", "place"] (defScope s_BadChange_init) := ⟨rfl, rfl, rfl, by decide +kernel, rfl, by decide +kernel, by decide +kernel⟩
abbrev s_CannotDo_init : Stmt := inClass (topS 5) 0
abbrev n_CannotDo_init : List Str := ["self", "place"]
theorem sc_CannotDo_init : FnScope n_CannotDo_init ["self", "place"] (defScope s_CannotDo_init) := ⟨rfl, rfl, rfl, by decide +kernel, rfl, by decide +kernel, by decide +kernel⟩
abbrev s_Kinds_init : Stmt := inClass (topS 7) 0
abbrev n_Kinds_init : List Str := ["self", "told", "names", "at", "name", "early"]
theorem sc_Kinds_init : FnScope n_Kinds_init ["self", "told"] (defScope s_Kinds_init) := ⟨rfl, rfl, rfl, by decide +kernel, rfl, by decide +kernel, by decide +kernel⟩
abbrev s_Kinds_getitem : Stmt := inClass (topS 7) 1
abbrev n_Kinds_getitem : List Str := ["self", "at"]
theorem sc_Kinds_getitem : FnScope n_Kinds_getitem ["self", "at"] (defScope s_Kinds_getitem) := ⟨rfl, rfl, rfl, by decide +kernel, rfl, by decide +kernel, by decide +kernel⟩
abbrev s_Kinds_iter : Stmt := inClass (topS 7) 2
abbrev n_Kinds_iter : List Str := ["self"]
theorem sc_Kinds_iter : FnScope n_Kinds_iter ["self"] (defScope s_Kinds_iter) := ⟨rfl, rfl, rfl, by decide +kernel, rfl, by decide +kernel, by decide +kernel⟩
abbrev s_Kinds_contains : Stmt := inClass (topS 7) 3
abbrev n_Kinds_contains : List Str := ["self", "x"]
theorem sc_Kinds_contains : FnScope n_Kinds_contains ["self", "x"] (defScope s_Kinds_contains) := ⟨rfl, rfl, rfl, by decide +kernel, rfl, by decide +kernel, by decide +kernel⟩
abbrev s_Kinds_len : Stmt := inClass (topS 7) 4
abbrev n_Kinds_len : List Str := ["self"]
theorem sc_Kinds_len : FnScope n_Kinds_len ["self"] (defScope s_Kinds_len) := ⟨rfl, rfl, rfl, by decide +kernel, rfl, by decide +kernel, by decide +kernel⟩
abbrev s_Kinds_eq : Stmt := inClass (topS 7) 5
abbrev n_Kinds_eq : List Str := ["self", "other"]
theorem sc_Kinds_eq : FnScope n_Kinds_eq ["self", "other"] (defScope s_Kinds_eq) := ⟨rfl, rfl, rfl, by decide +kernel, rfl, by decide +kernel, by decide +kernel⟩
abbrev s_Kinds_names : Stmt := inClass (topS 7) 6
abbrev n_Kinds_names : List Str := ["self"]
theorem sc_Kinds_names : FnScope n_Kinds_names ["self"] (defScope s_Kinds_names) := ⟨rfl, rfl, rfl, by decide +kernel, rfl, by decide +kernel, by decide +kernel⟩
abbrev s_Kinds_growth : Stmt := inClass (topS 7) 7
abbrev n_Kinds_growth : List Str := ["self", "name", "width", "row"]
theorem sc_Kinds_growth : FnScope n_Kinds_growth ["self", "name"] (defScope s_Kinds_growth) := ⟨rfl, rfl, rfl, by decide +kernel, rfl, by decide +kernel, by decide +kernel⟩
abbrev s_check_kinds : Stmt := topS 8
abbrev n_check_kinds : List Str := ["kinds"]
theorem sc_check_kinds : FnScope n_check_kinds ["kinds"] (defScope s_check_kinds) := ⟨rfl, rfl, rfl, by decide +kernel, rfl, by decide +kernel, by decide +kernel⟩
abbrev s_needs_letter : Stmt := topS 9
abbrev n_needs_letter : List Str := ["kinds", "name"]
theorem sc_needs_letter : FnScope n_needs_letter ["kinds", "name"] (defScope s_needs_letter) := ⟨rfl, rfl, rfl, by decide +kernel, rfl, by decide +kernel, by decide +kernel⟩
abbrev s_is_whole : Stmt := topS 10
abbrev n_is_whole : List Str := ["number"]
theorem sc_is_whole : FnScope n_is_whole ["number"] (defScope s_is_whole) := ⟨rfl, rfl, rfl, by decide +kernel, rfl, by decide +kernel, by decide +kernel⟩
abbrev s_has_names : Stmt := topS 11
abbrev n_has_names : List Str := ["told", "name"]
theorem sc_has_names : FnScope n_has_names ["told"] (defScope s_has_names) := ⟨rfl, rfl, rfl, by decide +kernel, rfl, by decide +kernel, by decide +kernel⟩
abbrev s_is_name : Stmt := topS 12
abbrev n_is_name : List Str := ["name"]
theorem sc_is_name : FnScope n_is_name ["name"] (defScope s_is_name) := ⟨rfl, rfl, rfl, by decide +kernel, rfl, by decide +kernel, by decide +kernel⟩
abbrev s_is_kind : Stmt := topS 13
abbrev n_is_kind : List Str := ["kind", "width", "row"]
theorem sc_is_kind : FnScope n_is_kind ["kind"] (defScope s_is_kind) := ⟨rfl, rfl, rfl, by decide +kernel, rfl, by decide +kernel, by decide +kernel⟩
abbrev s_is_row : Stmt := topS 14
abbrev n_is_row : List Str := ["width", "row", "part"]
theorem sc_is_row : FnScope n_is_row ["width", "row"] (defScope s_is_row) := ⟨rfl, rfl, rfl, by decide +kernel, rfl, by decide +kernel, by decide +kernel⟩
abbrev s_is_part : Stmt := topS 15
abbrev n_is_part : List Str := ["width", "part"]
theorem sc_is_part : FnScope n_is_part ["width", "part"] (defScope s_is_part) := ⟨rfl, rfl, rfl, by decide +kernel, rfl, by decide +kernel, by decide +kernel⟩
abbrev s_done : Stmt := topS 17
abbrev n_done : List Str := ["kinds", "text", "change"]
theorem sc_done : FnScope n_done ["kinds", "text", "change"] (defScope s_done) := ⟨rfl, rfl, rfl, by decide +kernel, rfl, by decide +kernel, by decide +kernel⟩
abbrev s_done_all : Stmt := topS 18
abbrev n_done_all : List Str := ["kinds", "text", "changes", "now", "at", "change"]
theorem sc_done_all : FnScope n_done_all ["kinds", "text", "changes"] (defScope s_done_all) := ⟨rfl, rfl, rfl, by decide +kernel, rfl, by decide +kernel, by decide +kernel⟩
abbrev s_can_do : Stmt := topS 19
abbrev n_can_do : List Str := ["kinds", "text", "change", "name", "place", "letter", "_"]
theorem sc_can_do : FnScope n_can_do ["kinds", "text", "change"] (defScope s_can_do) := ⟨rfl, rfl, rfl, by decide +kernel, rfl, by decide +kernel, by decide +kernel⟩
abbrev s_text_behind : Stmt := topS 20
abbrev n_text_behind : List Str := ["kinds", "text", "change", "name", "place", "letter", "_", "width", "row", "put", "part"]
theorem sc_text_behind : FnScope n_text_behind ["kinds", "text", "change"] (defScope s_text_behind) := ⟨rfl, rfl, rfl, by decide +kernel, rfl, by decide +kernel, by decide +kernel⟩
abbrev s_check_text : Stmt := topS 21
abbrev n_check_text : List Str := ["text"]
theorem sc_check_text : FnScope n_check_text ["text"] (defScope s_check_text) := ⟨rfl, rfl, rfl, by decide +kernel, rfl, by decide +kernel, by decide +kernel⟩
abbrev s_check_changes : Stmt := topS 22
abbrev n_check_changes : List Str := ["kinds", "changes", "at", "change"]
theorem sc_check_changes : FnScope n_check_changes ["kinds", "changes"] (defScope s_check_changes) := ⟨rfl, rfl, rfl, by decide +kernel, rfl, by decide +kernel, by decide +kernel⟩
abbrev s_is_text : Stmt := topS 23
abbrev n_is_text : List Str := ["text", "letter"]
theorem sc_is_text : FnScope n_is_text ["text"] (defScope s_is_text) := ⟨rfl, rfl, rfl, by decide +kernel, rfl, by decide +kernel, by decide +kernel⟩
abbrev s_is_change : Stmt := topS 24
abbrev n_is_change : List Str := ["kinds", "change", "name", "place", "letter", "hand"]
theorem sc_is_change : FnScope n_is_change ["kinds", "change"] (defScope s_is_change) := ⟨rfl, rfl, rfl, by decide +kernel, rfl, by decide +kernel, by decide +kernel⟩
abbrev s__law_number : Stmt := topS 26
abbrev n__law_number : List Str := ["script", "index", "cell", "blend"]
theorem sc__law_number : FnScope n__law_number ["script", "index"] (defScope s__law_number) := ⟨rfl, rfl, rfl, by decide +kernel, rfl, by decide +kernel, by decide +kernel⟩
abbrev s__law_take : Stmt := topS 27
abbrev n__law_take : List Str := ["draw", "many"]
theorem sc__law_take : FnScope n__law_take ["draw", "many"] (defScope s__law_take) := ⟨rfl, rfl, rfl, by decide +kernel, rfl, by decide +kernel, by decide +kernel⟩
abbrev s__law_pick : Stmt := topS 28
abbrev n__law_pick : List Str := ["draw", "items"]
theorem sc__law_pick : FnScope n__law_pick ["draw", "items"] (defScope s__law_pick) := ⟨rfl, rfl, rfl, by decide +kernel, rfl, by decide +kernel, by decide +kernel⟩
abbrev s__law_all_kinds : Stmt := topS 29
abbrev n__law_all_kinds : List Str := ["rows", "row"]
theorem sc__law_all_kinds : FnScope n__law_all_kinds [] (defScope s__law_all_kinds) := ⟨rfl, rfl, rfl, by decide +kernel, rfl, by decide +kernel, by decide +kernel⟩
abbrev s__law_kinds : Stmt := topS 30
abbrev n__law_kinds : List Str := ["draw", "most", "kinds", "found", "names", "turn", "kind"]
theorem sc__law_kinds : FnScope n__law_kinds ["draw", "most"] (defScope s__law_kinds) := ⟨rfl, rfl, rfl, by decide +kernel, rfl, by decide +kernel, by decide +kernel⟩
abbrev s__law_has_new : Stmt := topS 31
abbrev n__law_has_new : List Str := ["kinds", "name"]
theorem sc__law_has_new : FnScope n__law_has_new ["kinds", "name"] (defScope s__law_has_new) := ⟨rfl, rfl, rfl, by decide +kernel, rfl, by decide +kernel, by decide +kernel⟩
abbrev s__law_do : Stmt := topS 32
abbrev n__law_do : List Str := ["kinds", "text", "change", "name", "place", "letter", "hand", "width", "row", "part"]
theorem sc__law_do : FnScope n__law_do ["kinds", "text", "change"] (defScope s__law_do) := ⟨rfl, rfl, rfl, by decide +kernel, rfl, by decide +kernel, by decide +kernel⟩
abbrev s__law_made : Stmt := topS 33
abbrev n__law_made : List Str := ["kinds", "name", "place", "hand", "letter"]
theorem sc__law_made : FnScope n__law_made ["kinds", "name", "place", "hand", "letter"] (defScope s__law_made) := ⟨rfl, rfl, rfl, by decide +kernel, rfl, by decide +kernel, by decide +kernel⟩
abbrev s__law_is_kind : Stmt := topS 34
abbrev n__law_is_kind : List Str := ["thing"]
theorem sc__law_is_kind : FnScope n__law_is_kind ["thing"] (defScope s__law_is_kind) := ⟨rfl, rfl, rfl, by decide +kernel, rfl, by decide +kernel, by decide +kernel⟩
abbrev s__law_thing : Stmt := topS 35
abbrev n__law_thing : List Str := ["draw", "kind", "row", "turn"]
theorem sc__law_thing : FnScope n__law_thing ["draw"] (defScope s__law_thing) := ⟨rfl, rfl, rfl, by decide +kernel, rfl, by decide +kernel, by decide +kernel⟩
abbrev s__law_told : Stmt := topS 36
abbrev n__law_told : List Str := ["deed", "error"]
theorem sc__law_told : FnScope n__law_told ["deed"] (defScope s__law_told) := ⟨rfl, rfl, rfl, by decide +kernel, rfl, by decide +kernel, by decide +kernel⟩
abbrev s__law_kinds_right : Stmt := topS 37
abbrev n__law_kinds_right : List Str := ["draw", "names", "turn", "due", "seen", "name", "kind", "told", "wrong", "many"]
theorem sc__law_kinds_right : FnScope n__law_kinds_right ["draw"] (defScope s__law_kinds_right) := ⟨rfl, rfl, rfl, by decide +kernel, rfl, by decide +kernel, by decide +kernel⟩
abbrev s__law_refused : Stmt := topS 38
abbrev n__law_refused : List Str := ["kinds", "told", "deeds", "good", "name", "deed", "due"]
theorem sc__law_refused : FnScope n__law_refused ["kinds", "told"] (defScope s__law_refused) := ⟨rfl, rfl, rfl, by decide +kernel, rfl, by decide +kernel, by decide +kernel⟩
abbrev s_law : Stmt := topS 39
abbrev n_law : List Str := ["script", "draw", "told", "names", "name", "twin", "late", "now", "stop", "number", "change", "after", "changes", "kinds", "text", "at"]
theorem sc_law : FnScope n_law ["script"] (defScope s_law) := ⟨rfl, rfl, rfl, by decide +kernel, rfl, by decide +kernel, by decide +kernel⟩
/-- a def of the text, as the top leaves it -/
structure Df (K : PySem.W.Frag) (mg : Str → Option Value) (x : Str) (st : Stmt) (ps : List Str) where
  a : Addr
  d : FuncData
  m : mg x = some (.ref a)
  f : Fun K x x st a d
  b : Binds K d ps []
/-- a method -/
structure Mf (K : PySem.W.Frag) (C : Addr) (x qual : Str) (st : Stmt) (ps : List Str) where
  a : Addr
  d : FuncData
  i : PySem.W.findIn K (.ref C) x = some (some (.ref a))
  g : PySem.W.isFn K (.ref a) = true
  f : Fun K x qual st a d
  b : Binds K d ps []
/-- a class -/
structure Cf (K : PySem.W.Frag) (mg : Str → Option Value) (x : Str) where
  c : Addr
  m : mg x = some (.ref c)
  k : PySem.W.keepIn K (.ref c) = true
/-- an error's class, below the class at B -/
structure Ef (K : PySem.W.Frag) (C B : Addr) : Prop where
  e : ErrC K C
  t : PySem.W.typeIn K (.ref C) = some (.type "type")
  u : PySem.W.kitOne K (.ref C) (.ref B) = some true
/-- which of the errors is which -/
structure Xf (K : PySem.W.Frag) (C C1 C2 C3 C4 : Addr) (b1 b2 b3 b4 : Bool) : Prop where
  x1 : PySem.W.subIn K (.ref C) (.ref C1) = some b1
  x2 : PySem.W.subIn K (.ref C) (.ref C2) = some b2
  x3 : PySem.W.subIn K (.ref C) (.ref C3) = some b3
  x4 : PySem.W.subIn K (.ref C) (.ref C4) = some b4
/-- the class Kinds -/
structure Kf (K : PySem.W.Frag) (C fi fg : Addr) : Prop where
  cls : Cls K C
  told : NoAttr K C "told"
  mkK : Mk K C fi
  fn : PySem.W.fnIn K fg = true
  ne : PySem.W.findIn K (.ref C) "__ne__" = some (some (.builtin "object.__ne__"))
  mro : PySem.W.mroIn K C (.type "object") = some true
  dictK : PySem.W.subIn K (.type "dict") (.ref C) = some false
  qd : PySem.W.kitOne K (.type "dict") (.ref C) = some false
  qn : PySem.W.kitOne K (.type "NoneType") (.ref C) = some false
  ca : PySem.W.findIn K (.ref C) "__class__" = some (some (.builtin "object.__class__"))
  cg : PySem.W.specialIn K (.builtin "object.__class__") "__get__" = some (some (.builtin "getset_descriptor.__get__"))
  ct : PySem.W.takesIn K (.builtin "object.__class__") = some true
/-- built-in names that the text does not bind -/
structure Bf (mg : Str → Option Value) : Prop where
  isinstance_ : mg "isinstance" = none
  str_ : mg "str" = none
  int_ : mg "int" = none
  bool_ : mg "bool" = none
  tuple_ : mg "tuple" = none
  list_ : mg "list" = none
  dict_ : mg "dict" = none
  len_ : mg "len" = none
  all_ : mg "all" = none
  any_ : mg "any" = none
  set_ : mg "set" = none
  sorted_ : mg "sorted" = none
  enumerate_ : mg "enumerate" = none
  range_ : mg "range" = none
  abs_ : mg "abs" = none
  TypeError_ : mg "TypeError" = none
  ValueError_ : mg "ValueError" = none
/-- what the top leaves of the text -/
structure Top (K : PySem.W.Frag) (mg : Str → Option Value) where
  check_kinds : Df K mg "check_kinds" s_check_kinds ["kinds"]
  needs_letter : Df K mg "needs_letter" s_needs_letter ["kinds", "name"]
  is_whole : Df K mg "is_whole" s_is_whole ["number"]
  has_names : Df K mg "has_names" s_has_names ["told"]
  is_name : Df K mg "is_name" s_is_name ["name"]
  is_kind : Df K mg "is_kind" s_is_kind ["kind"]
  is_row : Df K mg "is_row" s_is_row ["width", "row"]
  is_part : Df K mg "is_part" s_is_part ["width", "part"]
  done : Df K mg "done" s_done ["kinds", "text", "change"]
  done_all : Df K mg "done_all" s_done_all ["kinds", "text", "changes"]
  can_do : Df K mg "can_do" s_can_do ["kinds", "text", "change"]
  text_behind : Df K mg "text_behind" s_text_behind ["kinds", "text", "change"]
  check_text : Df K mg "check_text" s_check_text ["text"]
  check_changes : Df K mg "check_changes" s_check_changes ["kinds", "changes"]
  is_text : Df K mg "is_text" s_is_text ["text"]
  is_change : Df K mg "is_change" s_is_change ["kinds", "change"]
  _law_number : Df K mg "_law_number" s__law_number ["script", "index"]
  _law_take : Df K mg "_law_take" s__law_take ["draw", "many"]
  _law_pick : Df K mg "_law_pick" s__law_pick ["draw", "items"]
  _law_all_kinds : Df K mg "_law_all_kinds" s__law_all_kinds []
  _law_kinds : Df K mg "_law_kinds" s__law_kinds ["draw", "most"]
  _law_has_new : Df K mg "_law_has_new" s__law_has_new ["kinds", "name"]
  _law_do : Df K mg "_law_do" s__law_do ["kinds", "text", "change"]
  _law_made : Df K mg "_law_made" s__law_made ["kinds", "name", "place", "hand", "letter"]
  _law_is_kind : Df K mg "_law_is_kind" s__law_is_kind ["thing"]
  _law_thing : Df K mg "_law_thing" s__law_thing ["draw"]
  _law_told : Df K mg "_law_told" s__law_told ["deed"]
  _law_kinds_right : Df K mg "_law_kinds_right" s__law_kinds_right ["draw"]
  _law_refused : Df K mg "_law_refused" s__law_refused ["kinds", "told"]
  law_ : Df K mg "law" s_law ["script"]
  cChangeError : Cf K mg "ChangeError"
  cBadKinds : Cf K mg "BadKinds"
  cBadChange : Cf K mg "BadChange"
  cBadText : Cf K mg "BadText"
  cCannotDo : Cf K mg "CannotDo"
  cKinds : Cf K mg "Kinds"
  BadKinds_init : Mf K cBadKinds.c "__init__" "BadKinds.__init__" s_BadKinds_init ["self", "name"]
  BadChange_init : Mf K cBadChange.c "__init__" "BadChange.__init__" s_BadChange_init ["self", "place"]
  CannotDo_init : Mf K cCannotDo.c "__init__" "CannotDo.__init__" s_CannotDo_init ["self", "place"]
  Kinds_init : Mf K cKinds.c "__init__" "Kinds.__init__" s_Kinds_init ["self", "told"]
  Kinds_getitem : Mf K cKinds.c "__getitem__" "Kinds.__getitem__" s_Kinds_getitem ["self", "at"]
  Kinds_contains : Mf K cKinds.c "__contains__" "Kinds.__contains__" s_Kinds_contains ["self", "x"]
  Kinds_len : Mf K cKinds.c "__len__" "Kinds.__len__" s_Kinds_len ["self"]
  Kinds_eq : Mf K cKinds.c "__eq__" "Kinds.__eq__" s_Kinds_eq ["self", "other"]
  Kinds_names : Mf K cKinds.c "names" "Kinds.names" s_Kinds_names ["self"]
  Kinds_growth : Mf K cKinds.c "growth" "Kinds.growth" s_Kinds_growth ["self", "name"]
  oBadKinds : OexC K cBadKinds.c
  oBadChange : OexC K cBadChange.c
  oCannotDo : OexC K cCannotDo.c
  eBadKinds : Ef K cBadKinds.c cChangeError.c
  eBadChange : Ef K cBadChange.c cChangeError.c
  eCannotDo : Ef K cCannotDo.c cChangeError.c
  eBadText : Ef K cBadText.c cChangeError.c
  xBadKinds : Xf K cBadKinds.c cBadKinds.c cBadChange.c cCannotDo.c cBadText.c true false false false
  xBadChange : Xf K cBadChange.c cBadKinds.c cBadChange.c cCannotDo.c cBadText.c false true false false
  xCannotDo : Xf K cCannotDo.c cBadKinds.c cBadChange.c cCannotDo.c cBadText.c false false true false
  xBadText : Xf K cBadText.c cBadKinds.c cBadChange.c cCannotDo.c cBadText.c false false false true
  yBadText : PySem.W.excIn K cBadText.c [.type "ValueError", .type "Exception", .type "BaseException", .type "object"] "ValueError.__new__" = true
  zBadKinds : PySem.W.findIn K (.ref cBadKinds.c) "name" = some none
  zBadChange : PySem.W.findIn K (.ref cBadChange.c) "place" = some none
  zCannotDo : PySem.W.findIn K (.ref cCannotDo.c) "place" = some none
  kf : Kf K cKinds.c Kinds_init.a Kinds_getitem.a
  bf : Bf mg
/-- a def that makes lambdas: its code object at c, that one's table at P -/
structure Lf (K : PySem.W.Frag) (x : Str) (st : Stmt) (a : Addr) (d : FuncData) (P : Addr) where
  c : Addr
  ex : ∃ (oc : Value) (od : Option Addr) (kV doc pm : Value) (an : Option Addr) (ct : Value) (osl : Array (Option Value)),
    d = PySem.W.fnOf x x (defArgs st) (defBody st) (defScope st) .none kV doc pm an (.ref c) ct ∧ K.lookup a = some ⟨oc, od, .func d, osl⟩ ∧ PySem.W.codeIn K (.ref c) x = true
  hd : PySem.W.codeHdIn K c P = true
  out : K.lookup P = none
def codeVs (vs : Array Value) (c P : Addr) : Bool := (match (vs[11]? : Option Value) with | some (.ref P') => P' == P | _ => false) &&
      (match vs.getD 18 .none with | .str _ _ => true | _ => false) && (match vs.getD 7 .none with | .int _ _ => true | _ => false) &&
      (match vs.getD 9 .none with | .bool _ => true | _ => false) && (match vs.getD 10 .none with | .int _ _ => true | _ => false) && c != P
theorem codeHd_mk {K : PySem.W.Frag} {c P : Addr} {dd : Option Addr} {vs : Array Value} {sl : Array (Option Value)} (l : K.lookup c = some ⟨.type "code", dd, .fields vs, sl⟩) (h : codeVs vs c P = true) : PySem.W.codeHdIn K c P = true := by
  unfold PySem.W.codeHdIn
  rw [l]
  exact h
structure TopL (K : PySem.W.Frag) (mg : Str → Option Value) (P1 P2 P3 : Addr) where
  T : Top K mg
  kr : Lf K "_law_kinds_right" s__law_kinds_right T._law_kinds_right.a T._law_kinds_right.d P1
  rf : Lf K "_law_refused" s__law_refused T._law_refused.a T._law_refused.d P2
  lw : Lf K "law" s_law T.law_.a T.law_.d P3
end K41

end

section
set_option Elab.async false
set_option linter.all false
set_option maxRecDepth 100000
/-! Data in the heap. -/
namespace K41
open PySem PySem.Spec PyProof.Rows L2 KX

theorem Same.ext {H H' : Hp} (s : Same H H') : Ext H H' := s
mutual
theorem dp_ext {K : PySem.W.Frag} {H H' : Hp} (e : Ext H H') : ∀ {d : PyData} {v : V}, Dp K H v d → Dp K H' v d
  | .none, _, .non => .non
  | .bool _, _, .bl b => .bl b
  | .int _, _, .int i => .int i
  | .str _, _, .str x => .str x
  | .list _, _, .lst h a => .lst (h.ext e) (dpAll_ext e a)
  | .tuple _, _, .tup h a => .tup (h.ext e) (dpAll_ext e a)
theorem dpAll_ext {K : PySem.W.Frag} {H H' : Hp} (e : Ext H H') : ∀ {ds : List PyData} {vs : List V}, DpAll K H vs ds → DpAll K H' vs ds
  | [], _, .nil => .nil
  | _ :: _, _, .cons h t => .cons (dp_ext e h) (dpAll_ext e t)
end
/-- a data's type -/
def tyD : PyData → String
  | .none => "NoneType"
  | .bool _ => "bool"
  | .int _ => "int"
  | .str _ => "str"
  | .list _ => "list"
  | .tuple _ => "tuple"
  | .dict _ => "dict"
theorem sqT_ty {K : PySem.W.Frag} {H : Hp} {a : Addr} {xs : List V} (h : SqT K H a xs) : TyX K H (.ref a) (.type "tuple") := by
  rcases h with (h | ⟨o, h⟩) | ⟨o, its, n, h, c, _⟩
  · exact .base (.tup h)
  · exact .fTuple h
  · exact .kTuple h c
theorem sqL_ty {K : PySem.W.Frag} {H : Hp} {a : Addr} {xs : List V} (h : SqL K H a xs) : TyX K H (.ref a) (.type "list") := by
  rcases h with (h | ⟨o, h⟩) | ⟨o, its, n, h, c, _⟩
  · exact .base (.lst h)
  · exact .base (.frz h)
  · exact .kList h c
theorem dp_ty {K : PySem.W.Frag} {H : Hp} {v : V} {d : PyData} (h : Dp K H v d) : TyX K H v (.type (tyD d)) := by
  cases h with
  | non => exact .base .non
  | bl b => exact .base (.bl b)
  | int i => exact .base (.int i)
  | str x => exact .base (.str x)
  | lst h a => exact sqL_ty h
  | tup h a => exact sqT_ty h
/-- isinstance of data and a built-in type -/
theorem isiD {K : PySem.W.Frag} {H : Hp} {Q : VK} {v : V} {d : PyData} {T : String} {b : Bool} (h : Dp K H v d) (e : kitB (tyD d) T = some b) (q : Q (.bl b) H) : rIsi K [v, .ty T] H Q :=
  ⟨v, .ty T, _, .type T, b, rfl, .ty T, dp_ty h, kit_ty e, q⟩
end K41
namespace K41
open PySem PySem.Spec PyProof.Rows L2 KX
theorem same_upd {H0 H : Hp} {D : Addr} {o : HO} (s : Same H0 H) (h : H0 D = none) : Same H0 (upd H D o) := fun b u e => by
  rw [upd_ne (ne_of_none e h)]
  exact s b u e
theorem sqT_same {K : PySem.W.Frag} {H H' : Hp} {a : Addr} {xs : List V} (s : Same H H') (h : SqT K H a xs) : SqT K H' a xs := h.ext s
theorem dp_same {K : PySem.W.Frag} {H H' : Hp} {v : V} {d : PyData} (s : Same H H') (h : Dp K H v d) : Dp K H' v d := dp_ext s h
theorem small {n : Nat} (h : n ≤ 1000) : n ≤ sizeLine := Nat.le_of_lt (small1000 h)
section
variable {K : PySem.W.Frag} {a : Addr} {xs : List V} {i : Nat} {te : TE} {σ : L2.St} {H0 H1 : Hp} {D : Addr} {Qd : Hp → Prop}
/-- a comprehension's list, item by item a value of the item alone -/
theorem lc_turn (r : V → V) (h0 : H0 D = none) (small : xs.length ≤ 1000) (hw : ∀ x, wipe ((wipe σ [i]).set i (some x)) [i] = wipe σ [i]) (hs : ∀ x ∈ xs, ∀ H, Same H0 H → ∀ Q : VK, (∀ H', Same H H' → Q (r x) H') → te ((wipe σ [i]).set i (some x)) H Q)
    (j : Nat) (x : V) (H : Hp) (hx : xs[j]? = some x) (p : Same H0 H ∧ H D = some (.lst ((xs.take j).map r))) :
    gName i x (wipe σ [i]) H fun σ2 H2 => wipe σ2 [i] = wipe σ [i] ∧ tYes σ2 H2 fun b H3 => if b = true then te σ2 H3 fun y H4 => ∃ acc, H4 D = some (.lst acc) ∧ acc.length < sizeLine ∧ (fun j H => Same H0 H ∧ H D = some (.lst ((xs.take j).map r))) (j + 1) (upd H4 D (.lst (acc ++ [y]))) else (fun j H => Same H0 H ∧ H D = some (.lst ((xs.take j).map r))) (j + 1) H3 := by
  obtain ⟨s, hD⟩ := p
  have hj : j < xs.length := (List.getElem?_eq_some_iff.mp hx).1
  refine ⟨hw x, ?_⟩
  simp only [tYes, if_true]
  refine hs x (List.mem_of_getElem? hx) H s _ fun H' s' => ⟨_, s' D _ hD, ?_, same_upd (s.trans s') h0, ?_⟩
  · rw [List.length_map, List.length_take]
    exact small1000 (by omega)
  · rw [upd_same, List.take_add_one, hx]
    simp
theorem lc_mapT (r : V → V) (s0 : Same H0 H1) (hq : SqT K H0 a xs) (h1 : H1 D = none) (small : xs.length ≤ 1000) (hw : ∀ x, wipe ((wipe σ [i]).set i (some x)) [i] = wipe σ [i])
    (hs : ∀ x ∈ xs, ∀ H, Same H0 H → ∀ Q : VK, (∀ H', Same H H' → Q (r x) H') → te ((wipe σ [i]).set i (some x)) H Q) (hd : ∀ H, Same H0 H → H D = some (.lst (xs.map r)) → Qd H) :
    ∃ W : Nat → Nat → Hp → Prop, (∃ m, W 0 m (upd H1 D (.lst []))) ∧ ∀ j m H, W j m H →
      ((Itt K a).stop j H ∧ Qd H) ∨ ((Itt K a).go j H ∧ ∃ Nx : Hp → Prop, (∀ H', Nx H' → ∃ m', m' < m ∧ W (j + 1) m' H') ∧ ∀ x H', (Itt K a).yld j H x H' → gName i x (wipe σ [i]) H' fun σ2 H2 => wipe σ2 [i] = wipe σ [i] ∧ tYes σ2 H2 fun b H3 =>
        if b = true then te σ2 H3 fun y H4 => ∃ acc, H4 D = some (.lst acc) ∧ acc.length < sizeLine ∧ Nx (upd H4 D (.lst (acc ++ [y]))) else Nx H3) :=
  lc_tup (xs := xs) (fun j H => Same H0 H ∧ H D = some (.lst ((xs.take j).map r))) ⟨same_upd s0 (s0.free h1), by rw [upd_same]; rfl⟩ (fun j H _ p => sqT_same p.1 hq)
    (fun j x H hx p => lc_turn r (s0.free h1) small hw hs j x H hx p) fun H p => hd H p.1 (by rw [p.2, List.take_length])
theorem lc_mapL (r : V → V) (s0 : Same H0 H1) (hq : SqL K H0 a xs) (h1 : H1 D = none) (small : xs.length ≤ 1000) (hw : ∀ x, wipe ((wipe σ [i]).set i (some x)) [i] = wipe σ [i])
    (hs : ∀ x ∈ xs, ∀ H, Same H0 H → ∀ Q : VK, (∀ H', Same H H' → Q (r x) H') → te ((wipe σ [i]).set i (some x)) H Q) (hd : ∀ H, Same H0 H → H D = some (.lst (xs.map r)) → Qd H) :
    ∃ W : Nat → Nat → Hp → Prop, (∃ m, W 0 m (upd H1 D (.lst []))) ∧ ∀ j m H, W j m H →
      ((Itl K a).stop j H ∧ Qd H) ∨ ((Itl K a).go j H ∧ ∃ Nx : Hp → Prop, (∀ H', Nx H' → ∃ m', m' < m ∧ W (j + 1) m' H') ∧ ∀ x H', (Itl K a).yld j H x H' → gName i x (wipe σ [i]) H' fun σ2 H2 => wipe σ2 [i] = wipe σ [i] ∧ tYes σ2 H2 fun b H3 =>
        if b = true then te σ2 H3 fun y H4 => ∃ acc, H4 D = some (.lst acc) ∧ acc.length < sizeLine ∧ Nx (upd H4 D (.lst (acc ++ [y]))) else Nx H3) :=
  lc_list (xs := xs) (fun j H => Same H0 H ∧ H D = some (.lst ((xs.take j).map r))) ⟨same_upd s0 (s0.free h1), by rw [upd_same]; rfl⟩ (fun j H _ p => p.1.seq hq)
    (fun j x H hx p => lc_turn r (s0.free h1) small hw hs j x H hx p) fun H p => hd H p.1 (by rw [p.2, List.take_length])
end
end K41

end

section
set_option Elab.async false
set_option linter.all false
set_option maxRecDepth 100000
set_option maxHeartbeats 1000000
/-! The program's small defs. -/
namespace K41
open PySem PySem.Spec PyProof.Rows L2 KX

theorem isi_int : ∀ d : PyData, kitB (tyD d) "int" = some (match d with | .int _ => true | .bool _ => true | _ => false)
  | .none => (by decide +kernel : kitB "NoneType" "int" = some false)
  | .bool _ => (by decide +kernel : kitB "bool" "int" = some true)
  | .int _ => (by decide +kernel : kitB "int" "int" = some true)
  | .str _ => (by decide +kernel : kitB "str" "int" = some false)
  | .list _ => (by decide +kernel : kitB "list" "int" = some false)
  | .tuple _ => (by decide +kernel : kitB "tuple" "int" = some false)
  | .dict _ => (by decide +kernel : kitB "dict" "int" = some false)
theorem isi_bool : ∀ d : PyData, kitB (tyD d) "bool" = some (match d with | .bool _ => true | _ => false)
  | .none => (by decide +kernel : kitB "NoneType" "bool" = some false)
  | .bool _ => (by decide +kernel : kitB "bool" "bool" = some true)
  | .int _ => (by decide +kernel : kitB "int" "bool" = some false)
  | .str _ => (by decide +kernel : kitB "str" "bool" = some false)
  | .list _ => (by decide +kernel : kitB "list" "bool" = some false)
  | .tuple _ => (by decide +kernel : kitB "tuple" "bool" = some false)
  | .dict _ => (by decide +kernel : kitB "dict" "bool" = some false)
theorem isi_str : ∀ d : PyData, kitB (tyD d) "str" = some (match d with | .str _ => true | _ => false)
  | .none => (by decide +kernel : kitB "NoneType" "str" = some false)
  | .bool _ => (by decide +kernel : kitB "bool" "str" = some false)
  | .int _ => (by decide +kernel : kitB "int" "str" = some false)
  | .str _ => (by decide +kernel : kitB "str" "str" = some true)
  | .list _ => (by decide +kernel : kitB "list" "str" = some false)
  | .tuple _ => (by decide +kernel : kitB "tuple" "str" = some false)
  | .dict _ => (by decide +kernel : kitB "dict" "str" = some false)
theorem isi_tuple : ∀ d : PyData, kitB (tyD d) "tuple" = some (match d with | .tuple _ => true | _ => false)
  | .none => (by decide +kernel : kitB "NoneType" "tuple" = some false)
  | .bool _ => (by decide +kernel : kitB "bool" "tuple" = some false)
  | .int _ => (by decide +kernel : kitB "int" "tuple" = some false)
  | .str _ => (by decide +kernel : kitB "str" "tuple" = some false)
  | .list _ => (by decide +kernel : kitB "list" "tuple" = some false)
  | .tuple _ => (by decide +kernel : kitB "tuple" "tuple" = some true)
  | .dict _ => (by decide +kernel : kitB "dict" "tuple" = some false)
theorem isi_list : ∀ d : PyData, kitB (tyD d) "list" = some (match d with | .list _ => true | _ => false)
  | .none => (by decide +kernel : kitB "NoneType" "list" = some false)
  | .bool _ => (by decide +kernel : kitB "bool" "list" = some false)
  | .int _ => (by decide +kernel : kitB "int" "list" = some false)
  | .str _ => (by decide +kernel : kitB "str" "list" = some false)
  | .list _ => (by decide +kernel : kitB "list" "list" = some true)
  | .tuple _ => (by decide +kernel : kitB "tuple" "list" = some false)
  | .dict _ => (by decide +kernel : kitB "dict" "list" = some false)
theorem isi_dict : ∀ d : PyData, kitB (tyD d) "dict" = some (match d with | .dict _ => true | _ => false)
  | .none => (by decide +kernel : kitB "NoneType" "dict" = some false)
  | .bool _ => (by decide +kernel : kitB "bool" "dict" = some false)
  | .int _ => (by decide +kernel : kitB "int" "dict" = some false)
  | .str _ => (by decide +kernel : kitB "str" "dict" = some false)
  | .list _ => (by decide +kernel : kitB "list" "dict" = some false)
  | .tuple _ => (by decide +kernel : kitB "tuple" "dict" = some false)
  | .dict _ => (by decide +kernel : kitB "dict" "dict" = some true)

section
variable {P : Program} {w : World} {K : PySem.W.Frag} {mg : Str → Option Value} {base : Heap}
/-- what a callee lets out leaves this def as it is -/
theorem pX {N : List Str} {qual : Str} {scope : Scope} {f : Addr} {cd : Value} {A : Around} {outer : List Env} {s : Shared} {H : Hp} {E : XK} : Passes (L2.CX P w) (cxOf (L2.CX P w) P w K mg base N qual scope f cd A outer s H E) E :=
  passes_call (takes_of rfl rfl rfl rfl) fun _ _ _ _ h => h
theorem pO {N : List Str} {qual : Str} {scope : Scope} {f : Addr} {cd : Value} {A : Around} {outer : List Env} {s : Shared} {H : Hp} {E : XK} : PassesOwn (model P w) (cxOf (L2.CX P w) P w K mg base N qual scope f cd A outer s H E).A (cxOf (L2.CX P w) P w K mg base N qual scope f cd A outer s H E).env (cxOf (L2.CX P w) P w K mg base N qual scope f cd A outer s H E).xe := passes_of rfl

/-- isinstance of data and a built-in type -/
theorem call_isD {X : Cx} : CallR X (.builtin "isinstance") (fun xs H Q => ∃ v T d b, xs = [v, .ty T] ∧ Dp X.K H v d ∧ kitB (tyD d) T = some b ∧ Q (.bl b) H) := by
  intro pins s σ H xs us Q I r h
  obtain ⟨v, T, d, b, rfl, hd, e, q⟩ := h
  exact call_isi pins s σ H _ us Q I r (isiD hd e q)

def isIntD : PyData → Bool
  | .int _ => true
  | _ => false
def spWhole (K : PySem.W.Frag) : Sp := fun vs H Q _ => ∃ v d, vs = [v] ∧ Dp K H v d ∧ Q (.bl (isIntD d)) H
theorem ok_is_whole (T : Top K mg) : FnOk P w K mg base (L2.CX P w) 1 T.is_whole.a T.is_whole.d ["number"] (spWhole K) := by
  refine T.is_whole.f.okX sc_is_whole (fun vs H Q E h => ?_) (fun cdv A outer s H vs Q E hr h => ?_)
  · obtain ⟨v, d, rfl, _⟩ := h
    rfl
  · obtain ⟨v, d, rfl, hd, k⟩ := h
    refine ⟨_, pss_one (ps_ret (pe_and (pe_callB call_isD (by rfl) T.bf.isinstance_ (by decide +kernel) (pa_cons (pv 0) (pa_cons (pe_bltn (v := .ty "int") (by rfl) T.bf.int_ (by decide +kernel) rfl) pa_nil)))
      (pe_one (pe_not (pe_callB call_isD (by rfl) T.bf.isinstance_ (by decide +kernel) (pa_cons (pv 0) (pa_cons (pe_bltn (v := .ty "bool") (by rfl) T.bf.bool_ (by decide +kernel) rfl) pa_nil))))))), ?_⟩
    refine ⟨v, rfl, v, _, d, _, rfl, hd, isi_int d, _, rfl, ?_⟩
    cases d <;> first
      | exact iteF k
      | exact iteT ⟨v, rfl, v, _, _, _, rfl, hd, isi_bool _, _, rfl, k⟩
end
end K41

end

section
set_option Elab.async false
set_option linter.all false
set_option maxRecDepth 100000
set_option maxHeartbeats 2000000
/-! What is a kind. -/
namespace K41
open PySem PySem.Spec PyProof.Rows L2 KX
section
variable {P : Program} {w : World} {K : PySem.W.Frag} {mg : Str → Option Value} {base : Heap}

theorem dec_str' {a b : Str} : decide (V.str a = V.str b) = decide (a = b) := by
  by_cases e : a = b
  · subst e
    simp
  · have h : ¬ V.str a = V.str b := fun z => e (V.str.inj z)
    rw [decide_eq_false h, decide_eq_false e]
theorem qb {Q : VK} {H : Hp} {b b' : Bool} (q : Q (.bl b') H) (e : b = b') : Q (.bl b) H := by
  rw [e]
  exact q
theorem qi {Q : VK} {H : Hp} {b b' : Int} (q : Q (.int b') H) (e : b = b') : Q (.int b) H := by
  rw [e]
  exact q
def isPartD (w : Int) : PyData → Bool
  | .str z => decide (z = "new")
  | .int i => decide (0 ≤ i) && decide (i < w)
  | _ => false
def spPart (K : PySem.W.Frag) : Sp := fun vs H Q _ => ∃ i v d, vs = [.int i, v] ∧ Dp K H v d ∧ Q (.bl (isPartD i d)) H
theorem ok_is_part (T : Top K mg) : FnOk P w K mg base (L2.CX P w) 2 T.is_part.a T.is_part.d ["width", "part"] (spPart K) := by
  refine T.is_part.f.okX sc_is_part (fun vs H Q E h => ?_) (fun cdv A outer s H vs Q E hr h => ?_)
  · obtain ⟨i, v, d, rfl, _⟩ := h
    rfl
  · obtain ⟨i, v, d, rfl, hd, k⟩ := h
    refine ⟨_, (pss_cons ((ps_if ((pt_val ((pe_callB call_isD (by rfl) T.bf.isinstance_ (by decide +kernel) (pa_cons (pv 1) (pa_cons (pe_bltn (v := .ty "str") (by rfl) T.bf.str_ (by decide +kernel) rfl) pa_nil)))))) ((pss_one ((ps_ret ((pe_cmpR (op_eq) (pv 1) (pe_str) (nomark _))))))) (pss_nil))) (pss_one ((ps_ret (pe_and (pe_call (ok_is_whole T) (hr.mono (by decide)) (by rfl) T.is_whole.m T.is_whole.f.kp T.is_whole.b .nil pX (pa_cons (pv 1) pa_nil)) (pe_one (pe_chain op_le op_lt pe_int (pv 1) (pv 0)))))))), ?_⟩
    refine ⟨v, rfl, v, _, d, _, rfl, hd, isi_str d, _, rfl, ?_⟩
    cases hd with
    | str z => exact iteT ⟨_, rfl, rfl, qb k dec_str'⟩
    | int n =>
      refine iteF ⟨_, rfl, _, .int n, rfl, .int n, _, rfl, iteT ⟨_, rfl, _, _, rfl, rfl, _, rfl, ?_⟩⟩
      refine ite2 (fun h0 => ?_) (fun h0 => ?_)
      · refine ⟨_, rfl, _, _, rfl, rfl, ?_⟩
        exact qb k (by simp [isPartD, of_decide_eq_true h0])
      · exact qb k (by
          have : ¬ 0 ≤ n := fun z => h0 (decide_eq_true z)
          simp [isPartD, this])
    | non => exact iteF ⟨_, rfl, _, _, rfl, .non, _, rfl, iteF k⟩
    | bl b => exact iteF ⟨_, rfl, _, _, rfl, .bl b, _, rfl, iteF k⟩
    | lst a b => exact iteF ⟨_, rfl, _, _, rfl, .lst a b, _, rfl, iteF k⟩
    | tup a b => exact iteF ⟨_, rfl, _, _, rfl, .tup a b, _, rfl, iteF k⟩
end
end K41

end

section
set_option Elab.async false
set_option linter.all false
set_option maxRecDepth 100000
set_option maxHeartbeats 2000000
/-! Rows. -/
namespace K41
open PySem PySem.Spec PyProof.Rows L2 KX
def partV (w : Int) : V → Bool
  | .str z => decide (z = "new")
  | .int i => decide (0 ≤ i) && decide (i < w)
  | _ => false
def keyD : PyData → Key
  | .str z => .inr z
  | .int i => .inl i
  | _ => .inl 0
def isNil {α : Type} : List α → Bool
  | [] => true
  | _ => false
/-- the row's ends: not the first letter ahead, not the last one behind -/
def endsD (w : Int) (ps : List PyData) : Bool := match ps with
  | [] => true
  | p :: r => !(decide (keyD p = .inl 0)) && !(decide (keyD ((p :: r).getLast (by simp)) = .inl (w - 1)))
def isRowD (w : Int) : PyData → Bool
  | .tuple ps => ps.all (isPartD w) && (decide (nDiff (ps.map keyD) (ps.map keyD).length = (ps.map keyD).length) && (if w = 0 then PyData.eqv (.tuple ps) (.tuple [.str "new"]) else endsD w ps))
  | _ => false
theorem row_part {w : Int} {ps : List PyData} (h : ps.all (isPartD w) = false) : isRowD w (.tuple ps) = false := by
  show (ps.all (isPartD w) && (decide (nDiff (ps.map keyD) (ps.map keyD).length = (ps.map keyD).length) && (if w = 0 then PyData.eqv (.tuple ps) (.tuple [.str "new"]) else endsD w ps))) = _
  rw [h, Bool.false_and]
theorem row_twice {w : Int} {ps : List PyData} (h : ¬ nDiff (ps.map keyD) (ps.map keyD).length = (ps.map keyD).length) : isRowD w (.tuple ps) = false := by
  show (ps.all (isPartD w) && (decide (nDiff (ps.map keyD) (ps.map keyD).length = (ps.map keyD).length) && (if w = 0 then PyData.eqv (.tuple ps) (.tuple [.str "new"]) else endsD w ps))) = _
  rw [decide_eq_false h, Bool.false_and, Bool.and_false]
theorem row_ok {w : Int} {ps : List PyData} (h1 : ps.all (isPartD w) = true) (h : nDiff (ps.map keyD) (ps.map keyD).length = (ps.map keyD).length) : isRowD w (.tuple ps) = if w = 0 then PyData.eqv (.tuple ps) (.tuple [.str "new"]) else endsD w ps := by
  show (ps.all (isPartD w) && (decide (nDiff (ps.map keyD) (ps.map keyD).length = (ps.map keyD).length) && (if w = 0 then PyData.eqv (.tuple ps) (.tuple [.str "new"]) else endsD w ps))) = _
  rw [h1, decide_eq_true h, Bool.true_and, Bool.true_and]
def lenD : PyData → Nat
  | .tuple ps => ps.length
  | .list ps => ps.length
  | _ => 0
section
variable {K : PySem.W.Frag} {H : Hp}
theorem part_eq {w : Int} {v : V} {d : PyData} (h : Dp K H v d) : partV w v = isPartD w d := by
  cases h <;> rfl
theorem all_get : ∀ {xs : List V} {ds : List PyData}, DpAll K H xs ds → ∀ x ∈ xs, ∃ d ∈ ds, Dp K H x d
  | _, _, .nil, x, h => by simp at h
  | _, _, .cons (v := v) (d := d) h t, x, hx => by
    rcases List.mem_cons.mp hx with e | e
    · exact ⟨d, List.mem_cons_self, e ▸ h⟩
    · obtain ⟨d', h1, h2⟩ := all_get t x e
      exact ⟨d', List.mem_cons_of_mem _ h1, h2⟩
theorem all_ix : ∀ {xs : List V} {ds : List PyData}, DpAll K H xs ds → ∀ (i : Nat) (d : PyData), ds[i]? = some d → ∃ x, xs[i]? = some x ∧ Dp K H x d
  | _, _, .nil, i, d, h => by simp at h
  | _, _, .cons h t, 0, d, hx => by
    simp at hx
    subst hx
    exact ⟨_, rfl, h⟩
  | _, _, .cons h t, i + 1, d, hx => by
    obtain ⟨x, h1, h2⟩ := all_ix t i d (by simpa using hx)
    exact ⟨x, by simpa using h1, h2⟩
theorem all_len : ∀ {xs : List V} {ds : List PyData}, DpAll K H xs ds → xs.length = ds.length
  | _, _, .nil => rfl
  | _, _, .cons _ t => by rw [List.length_cons, List.length_cons, all_len t]
theorem parts_eq {w : Int} : ∀ {xs : List V} {ds : List PyData}, DpAll K H xs ds → xs.map (partV w) = ds.map (isPartD w)
  | _, _, .nil => rfl
  | _, _, .cons h t => by rw [List.map_cons, List.map_cons, part_eq h, parts_eq t]
theorem at_last {xs : List V} {v : V} (h : xs[xs.length - 1]? = some v) : atI xs (-1) = some v := by
  have lt : xs.length - 1 < xs.length := (List.getElem?_eq_some_iff.mp h).1
  unfold atI ixN
  rw [if_neg (by omega), if_pos (by omega)]
  have e : (-1 + (xs.length : Int)).toNat = xs.length - 1 := by omega
  rw [Option.bind_some, e]
  exact h
theorem keys_eq {w : Int} : ∀ {xs : List V} {ds : List PyData}, DpAll K H xs ds → ds.all (isPartD w) = true → xs = (ds.map keyD).map kV
  | _, _, .nil, _ => rfl
  | _, _, .cons h t, e => by
    rw [List.all_cons, Bool.and_eq_true] at e
    rw [List.map_cons, List.map_cons, ← keys_eq t e.2]
    congr 1
    obtain ⟨e1, _⟩ := e
    cases h <;> first | rfl | (simp [isPartD] at e1)
end
section
variable {P : Program} {w : World} {K : PySem.W.Frag} {mg : Str → Option Value} {base : Heap}
def spRow (K : PySem.W.Frag) : Sp := fun vs H Q _ => ∃ i v d, vs = [.int i, v] ∧ Dp K H v d ∧ SeqAt.shaped d = true ∧ lenD d ≤ 100 ∧ ∀ H', Same H H' → Q (.bl (isRowD i d)) H'
theorem ok_is_row (T : Top K mg) : FnOk P w K mg base (L2.CX P w) 4 T.is_row.a T.is_row.d ["width", "row"] (spRow K) := by
  refine T.is_row.f.okX sc_is_row (fun vs H Q E h => ?_) (fun cdv A outer s H vs Q E hr h => ?_)
  · obtain ⟨i, v, d, rfl, _⟩ := h
    rfl
  · obtain ⟨i, v, d, rfl, hd, sh, small, k⟩ := h
    refine ⟨_, (pss_cons ((ps_if (pt_not (PW.pt (pw_and (pt_val ((pe_callB call_isD (by rfl) T.bf.isinstance_ (by decide +kernel) (pa_cons (pv 1) (pa_cons (pe_bltn (v := .ty "tuple") (by rfl) T.bf.tuple_ (by decide +kernel) rfl) pa_nil))))) (pw_and1 (pt_val ((pe_callB (cr_all rfl) (by rfl) T.bf.all_ (by decide +kernel) (pa_cons ((pe_lc (own := [("part", 2)]) (g := gName 2) (tt := tYes) rfl sc_is_row.nd (pi_tup (pv 1)) (blkOk_by (N := n_is_row) (sc := defScope s_is_row) (by decide +kernel)) (fun _ _ _ _ _ => pg_name (i := 2) sc_is_row.nd rfl (Or.inl rfl)) (fun _ _ _ _ _ => pts_nil) (fun _ _ _ _ _ => (pe_call (ok_is_part T) (hr.mono (by decide)) (by rfl) T.is_part.m T.is_part.f.kp T.is_part.b .nil passL (pa_cons (pv 0) (pa_cons (pv 2) pa_nil)))))) pa_nil)))))))) ((pss_one ((ps_ret (pe_bl))))) (pss_nil))) (pss_cons ((ps_if ((pt_cmpR (op_lt) ((pe_lenSetK (by rfl) T.bf.len_ (by rfl) T.bf.set_ (pv 1))) ((pe_callB call_len_seq (by rfl) T.bf.len_ PySem.boot_len (pa_cons (pv 1) pa_nil))) (nomark _))) ((pss_one ((ps_ret (pe_bl))))) (pss_nil))) (pss_cons ((ps_if ((pt_cmpR (op_eq) (pv 0) (pe_int) (nomark _))) ((pss_one ((ps_ret ((pe_cmpR (op_eqD hr.units) (pv 1) ((pe_tup (pa_cons (pe_str) pa_nil))) (nomark _))))))) (pss_nil))) (pss_one ((ps_ret (pe_or (pe_cmpR (op_eqD hr.units) (pv 1) ((pe_tup pa_nil)) (nomark _)) (pe_one (pe_and (pe_cmpR (op_ne) ((pe_ix (ix_tup) (pv 1) (pe_int) (fun _ _ => rfl))) (pe_int) (nomark _)) (pe_one (pe_cmpR (op_ne) ((pe_ix (ix_tup) (pv 1) (pe_un un_neg pe_int) (fun _ _ => rfl))) ((pe_op (op_sub) (pv 0) (pe_int))) (nomark _)))))))))))), ?_⟩
    refine ⟨v, rfl, v, _, d, _, rfl, hd, isi_tuple d, _, rfl, ?_⟩
    cases hd with
    | non => exact iteF (iteT (k H (Same.refl H)))
    | bl b => exact iteF (iteT (k H (Same.refl H)))
    | int n => exact iteF (iteT (k H (Same.refl H)))
    | str z => exact iteF (iteT (k H (Same.refl H)))
    | lst a b => exact iteF (iteT (k H (Same.refl H)))
    | @tup a xs ps hs ha =>
      have hl := all_len ha
      have small : ps.length ≤ 100 := small
      refine iteT ⟨_, rfl, a, rfl, ⟨_, hs⟩, fun D hD => lc_mapT (xs := xs) (i := 2) (fun x => .bl (partV i x)) (Same.refl H) hs hD (by omega) (fun _ => rfl) (fun x hx H1 s1 Q1 q1 => ?_) fun H1 s1 hD1 => ?_⟩
      · obtain ⟨dx, _, hdx⟩ := all_get ha x hx
        refine ⟨_, rfl, _, rfl, i, x, dx, rfl, dp_same s1 hdx, ?_⟩
        rw [← part_eq hdx]
        exact q1 H1 (Same.refl H1)
      · refine ⟨D, ps.map (isPartD i), rfl, SqL.of (by rw [hD1, ← parts_eq ha, List.map_map]; rfl), _, rfl, ?_⟩
        have hs1 := sqT_same s1 hs
        by_cases hall : ps.all (isPartD i) = true
        · have eall : (ps.map (isPartD i)).all id = true := by
            rw [List.all_map]
            exact hall
          rw [eall]
          have ek := keys_eq ha hall
          refine iteF ⟨_, rfl, a, ps.map keyD, rfl, by rw [← ek]; exact hs1, by rw [List.length_map]; omega, _, rfl, a, xs, rfl, .inr hs1, _, _, rfl, rfl, _, rfl, ?_⟩
          have le := nDiff_le (ps.map keyD) (ps.map keyD).length
          have hk : (ps.map keyD).length = xs.length := by rw [List.length_map, hl]
          refine ite2 (fun c => ?_) (fun c => ?_)
          · have c := of_decide_eq_true c
            exact qb (k H1 s1) (row_twice (by omega)).symm
          · have c : ¬ (((nDiff (ps.map keyD) (ps.map keyD).length : Nat) : Int) < (xs.length : Nat)) := fun z => c (decide_eq_true z)
            have nd : nDiff (ps.map keyD) (ps.map keyD).length = (ps.map keyD).length := by omega
            refine ⟨_, rfl, rfl, _, rfl, ?_⟩
            refine ite2 (fun c0 => ?_) (fun c0 => ?_)
            · have c0 : i = 0 := by simpa using c0
              refine ⟨_, rfl, by show 1 ≤ sizeLine; decide, fun p hp => ?_⟩
              have s2 : Same H1 (upd H1 p (.tup [.str "new"])) := same_upd (Same.refl H1) hp
              refine ⟨.tuple ps, .tuple [.str "new"], .tup (sqT_same s2 hs1) (dpAll_ext (Same.trans s1 s2) ha), .tup (SqT.of upd_same) (.cons (.str _) .nil), sh, by decide +kernel, ?_⟩
              exact qb (k _ (s1.trans s2)) (by rw [row_ok hall nd, if_pos c0])
            · have c0 : ¬ i = 0 := fun z => c0 (by simp [z])
              refine ⟨_, rfl, by show 0 ≤ sizeLine; decide, fun p hp => ?_⟩
              have s2 : Same H1 (upd H1 p (.tup [])) := same_upd (Same.refl H1) hp
              refine ⟨.tuple ps, .tuple [], .tup (sqT_same s2 hs1) (dpAll_ext (Same.trans s1 s2) ha), .tup (SqT.of upd_same) .nil, sh, by decide +kernel, _, rfl, ?_⟩
              cases ps with
              | nil => exact iteT (qb (k _ (s1.trans s2)) (by rw [row_ok hall nd, if_neg c0]; rfl))
              | cons p0 pr =>
                have hs2 := sqT_same s2 hs1
                obtain ⟨x0, hx0, hd0⟩ := all_ix ha 0 p0 rfl
                have hlast : (p0 :: pr)[(p0 :: pr).length - 1]? = some ((p0 :: pr).getLast (by simp)) := by
                  rw [← List.getLast?_eq_getElem?, List.getLast?_eq_some_getLast (by simp)]
                obtain ⟨x9, hx9, hd9⟩ := all_ix ha _ _ hlast
                have part : ∀ {x : V} {d : PyData}, d ∈ p0 :: pr → Dp K H x d → x = kV (keyD d) := fun {x d} hm hd => by
                  have e := List.all_eq_true.mp hall d hm
                  cases hd <;> first | rfl | (simp [isPartD] at e)
                have e0 := part List.mem_cons_self hd0
                have e9 := part (List.getLast_mem (by simp)) hd9
                subst e0 e9
                have scal : ∀ (k : Key) (n : Int), scal (kV k) (.int n) = true := fun k n => by cases k <;> rfl
                have dec : ∀ (k : Key) (n : Int), decide (kV k = V.int n) = decide (k = .inl n) := fun k n => by
                  cases k with
                  | inl m => simp [kV]
                  | inr z => simp [kV]
                refine iteF ⟨_, rfl, a, xs, 0, _, rfl, rfl, hs2, atI_nat hx0, scal _ _, _, rfl, ?_⟩
                have fin : isRowD i (.tuple (p0 :: pr)) = (!(decide (keyD p0 = .inl 0)) && !(decide (keyD ((p0 :: pr).getLast (by simp)) = .inl (i - 1)))) := by
                  rw [row_ok hall nd, if_neg c0]
                  rfl
                refine ite2 (fun t => ?_) (fun t => ?_)
                · refine ⟨_, rfl, _, rfl, a, xs, -1, _, rfl, rfl, hs2, at_last (by rw [hl]; exact hx9), _, rfl, _, _, rfl, rfl, scal _ _, ?_⟩
                  refine qb (k _ (s1.trans s2)) ?_
                  rw [fin, ← dec, t, ← dec, Bool.true_and]
                · refine qb (k _ (s1.trans s2)) ?_
                  have t : (!decide (kV (keyD p0) = V.int 0)) = false := by simpa using t
                  rw [fin, ← dec, t, Bool.false_and]
        · have hall : ps.all (isPartD i) = false := by simpa using hall
          have eall : (ps.map (isPartD i)).all id = false := by
            rw [List.all_map]
            exact hall
          rw [eall]
          exact iteT (qb (k H1 s1) (row_part hall).symm)
end
end K41

end

section
set_option Elab.async false
set_option linter.all false
set_option maxRecDepth 100000
set_option maxHeartbeats 2000000
/-! Kinds and names. -/
namespace K41
open PySem PySem.Spec PyProof.Rows L2 KX
def isKindD : PyData → Bool
  | .tuple [.int w, r] => decide (0 ≤ w) && (decide (w ≤ 2) && isRowD w r)
  | _ => false
theorem kind_len {ps : List PyData} (h : ps.length ≠ 2) : isKindD (.tuple ps) = false := by
  unfold isKindD
  split
  · rename_i e
    cases e
    exact absurd rfl h
  · rfl
def smallD : PyData → Prop
  | .tuple [_, b] => lenD b ≤ 100
  | _ => True
theorem shaped_2 {a b : PyData} (h : SeqAt.shaped (.tuple [a, b]) = true) : SeqAt.shaped b = true := by
  have h1 := SeqAt.canLay_of_shaped h
  have h2 := SeqAt.depth_of_shaped h
  unfold SeqAt.shaped
  simp only [PyData.canLay0, PyData.canLayAll0, Bool.and_true, Bool.and_eq_true] at h1
  simp only [PyData.depth, PyData.depthAll] at h2
  rw [h1.2, Bool.true_and]
  exact decide_eq_true (by omega)
section
variable {P : Program} {w : World} {K : PySem.W.Frag} {mg : Str → Option Value} {base : Heap}
def spKind (K : PySem.W.Frag) : Sp := fun vs H Q _ => ∃ v d, vs = [v] ∧ Dp K H v d ∧ SeqAt.shaped d = true ∧ smallD d ∧ ∀ H', Same H H' → Q (.bl (isKindD d)) H'
theorem ok_is_kind (T : Top K mg) : FnOk P w K mg base (L2.CX P w) 5 T.is_kind.a T.is_kind.d ["kind"] (spKind K) := by
  refine T.is_kind.f.okX sc_is_kind (fun vs H Q E h => ?_) (fun cdv A outer s H vs Q E hr h => ?_)
  · obtain ⟨v, d, rfl, _⟩ := h
    rfl
  · obtain ⟨v, d, rfl, hd, sh, small, k⟩ := h
    refine ⟨_, (pss_cons ((ps_if (pt_not (PW.pt (pw_and (pt_val ((pe_callB call_isD (by rfl) T.bf.isinstance_ (by decide +kernel) (pa_cons (pv 0) (pa_cons (pe_bltn (v := .ty "tuple") (by rfl) T.bf.tuple_ (by decide +kernel) rfl) pa_nil))))) (pw_and1 (pt_cmpR (op_eq) ((pe_callB call_len_seq (by rfl) T.bf.len_ PySem.boot_len (pa_cons (pv 0) pa_nil))) (pe_int) (nomark _)))))) ((pss_one ((ps_ret (pe_bl))))) (pss_nil))) (pss_cons ((ps_asg (pv 0) (pg_tup rfl (pgs_cons (pg_name (i := 1) sc_is_kind.nd rfl (Or.inl rfl)) (pgs_cons (pg_name (i := 2) sc_is_kind.nd rfl (Or.inl rfl)) pgs_nil))))) (pss_one ((ps_ret (pe_and (pe_call (ok_is_whole T) (hr.mono (by decide)) (by rfl) T.is_whole.m T.is_whole.f.kp T.is_whole.b .nil pX (pa_cons (pv 1) pa_nil)) (pe_and (pe_chain op_le op_le pe_int (pv 1) pe_int) (pe_one (pe_call (ok_is_row T) (hr.mono (by decide)) (by rfl) T.is_row.m T.is_row.f.kp T.is_row.b .nil pX (pa_cons (pv 1) (pa_cons (pv 2) pa_nil))))))))))), ?_⟩
    refine ⟨v, rfl, v, _, d, _, rfl, hd, isi_tuple d, _, rfl, ?_⟩
    cases hd with
    | non => exact iteF (iteT (k H (Same.refl H)))
    | bl b => exact iteF (iteT (k H (Same.refl H)))
    | int n => exact iteF (iteT (k H (Same.refl H)))
    | str z => exact iteF (iteT (k H (Same.refl H)))
    | lst a b => exact iteF (iteT (k H (Same.refl H)))
    | @tup a xs ps hs ha =>
      refine iteT ⟨_, rfl, a, xs, rfl, .inr hs, rfl, _, rfl, ?_⟩
      have hl := all_len ha
      match ps, ha, sh, small, k, hl with
      | [], .nil, sh, small, k, hl => exact iteT (k H (Same.refl H))
      | [_], .cons _ .nil, sh, small, k, hl => exact iteT (qb (k H (Same.refl H)) (kind_len (by simp)).symm)
      | _ :: _ :: _ :: _, .cons _ (.cons _ (.cons _ _)), sh, small, k, hl =>
        refine ite2 (fun _ => qb (k H (Same.refl H)) (kind_len (by simp)).symm) fun c => ?_
        refine absurd ?_ c
        simp only [List.length_cons]
        simp
        omega
      | [p0, p1], .cons (v := x0) h0 (.cons (v := x1) h1 .nil), sh, small, k, hl =>
        refine iteF ⟨_, rfl, a, _, rfl, hs, rfl, _, _, rfl, _, _, rfl, rfl, ?_⟩
        refine ⟨_, rfl, x0, p0, rfl, h0, _, rfl, ?_⟩
        cases h0 with
        | non => exact iteF (k H (Same.refl H))
        | bl b => exact iteF (k H (Same.refl H))
        | str z => exact iteF (k H (Same.refl H))
        | lst a b => exact iteF (k H (Same.refl H))
        | tup a b => exact iteF (k H (Same.refl H))
        | int n =>
          refine iteT ⟨_, rfl, _, _, rfl, rfl, _, rfl, ?_⟩
          refine ite2 (fun c1 => ?_) (fun c1 => ?_)
          · refine ⟨_, _, rfl, rfl, _, rfl, ?_⟩
            refine ite2 (fun c2 => ?_) (fun c2 => ?_)
            · refine ⟨_, rfl, _, rfl, n, x1, p1, rfl, h1, shaped_2 sh, small, fun H' s' => ?_⟩
              refine qb (k H' s') ?_
              show _ = (decide (0 ≤ n) && (decide (n ≤ 2) && isRowD n p1))
              rw [c1, c2, Bool.true_and, Bool.true_and]
            · refine qb (k H (Same.refl H)) ?_
              have c2 : decide (n ≤ 2) = false := by simpa using c2
              show _ = (decide (0 ≤ n) && (decide (n ≤ 2) && isRowD n p1))
              rw [c2, Bool.false_and, Bool.and_false]
          · have c1 : decide (0 ≤ n) = false := by simpa using c1
            refine ⟨_, rfl, iteF (qb (k H (Same.refl H)) ?_)⟩
            show _ = (decide (0 ≤ n) && (decide (n ≤ 2) && isRowD n p1))
            rw [c1, Bool.false_and]
end
end K41

end

section
set_option Elab.async false
set_option linter.all false
set_option maxRecDepth 100000
set_option maxHeartbeats 2000000
/-! Names. -/
namespace K41
open PySem PySem.Spec PyProof.Rows L2 KX
section
variable {P : Program} {w : World} {K : PySem.W.Frag} {mg : Str → Option Value} {base : Heap}
def isNameS (s : Str) : Bool := decide (1 ≤ (s.length : Int)) && (decide ((s.length : Int) ≤ 8) && (Txt.isascii s && (Txt.isalpha s && Txt.islower s)))
def isNameK : Key → Bool
  | .inr s => isNameS s
  | _ => false
def keyOk : Key → Prop
  | .inr s => s.length ≤ 1000
  | _ => True
def spName : Sp := fun vs H Q _ => ∃ k, vs = [kV k] ∧ keyOk k ∧ Q (.bl (isNameK k)) H
theorem ok_is_name (T : Top K mg) : FnOk P w K mg base (L2.CX P w) 1 T.is_name.a T.is_name.d ["name"] spName := by
  refine T.is_name.f.okX sc_is_name (fun vs H Q E h => ?_) (fun cdv A outer s H vs Q E hr h => ?_)
  · obtain ⟨k, rfl, _⟩ := h
    rfl
  · obtain ⟨k, rfl, ko, q⟩ := h
    refine ⟨_, pss_one (ps_ret (pe_and (pe_callB call_isD (by rfl) T.bf.isinstance_ (by decide +kernel) (pa_cons (pv 0) (pa_cons (pe_bltn (v := .ty "str") (by rfl) T.bf.str_ (by decide +kernel) rfl) pa_nil))) (pe_and (pe_chain op_le op_le pe_int (pe_callB call_len_str (by rfl) T.bf.len_ PySem.boot_len (pa_cons (pv 0) pa_nil)) pe_int)
      (pe_and (pe_bm0 PySem.F.plainAttrs_str PySem.F.slot_str_isascii PySem.F.type_str_isascii mt_isascii (pv 0))
      (pe_and (pe_bm0 PySem.F.plainAttrs_str PySem.F.slot_str_isalpha PySem.F.type_str_isalpha mt_isalpha (pv 0))
      (pe_one (pe_bm0 PySem.F.plainAttrs_str PySem.F.slot_str_islower PySem.F.type_str_islower mt_islower (pv 0)))))))), ?_⟩
    cases k with
    | inl n => exact ⟨_, rfl, _, _, .int n, _, rfl, .int n, isi_str _, _, rfl, iteF q⟩
    | inr z =>
      refine ⟨_, rfl, _, _, .str z, _, rfl, .str z, isi_str _, _, rfl, iteT ?_⟩
      refine ⟨_, rfl, z, rfl, small ko, _, _, rfl, rfl, _, rfl, ?_⟩
      have fin : isNameK (.inr z) = (decide (1 ≤ (z.length : Int)) && (decide ((z.length : Int) ≤ 8) && (Txt.isascii z && (Txt.isalpha z && Txt.islower z)))) := rfl
      refine ite2 (fun c1 => ?_) (fun c1 => ?_)
      · refine ⟨_, _, rfl, rfl, _, rfl, ?_⟩
        refine ite2 (fun c2 => ?_) (fun c2 => ?_)
        · refine ⟨_, rfl, rfl, z, rfl, rfl, trivial, _, rfl, ?_⟩
          refine ite2 (fun c3 => ?_) (fun c3 => ?_)
          · refine ⟨_, rfl, rfl, z, rfl, rfl, trivial, _, rfl, ?_⟩
            refine ite2 (fun c4 => ?_) (fun c4 => ?_)
            · refine ⟨_, rfl, rfl, z, rfl, rfl, trivial, ?_⟩
              exact qb q (by rw [fin, c1, c2, c3, c4]; simp)
            · exact qb q (by rw [fin]; simp [c4])
          · exact qb q (by rw [fin]; simp [c3])
        · have c2 : decide ((z.length : Int) ≤ 8) = false := by simpa using c2
          exact qb q (by rw [fin, c2]; simp)
      · have c1 : decide (1 ≤ (z.length : Int)) = false := by simpa using c1
        exact ⟨_, rfl, iteF (qb q (by rw [fin, c1]; simp))⟩
end
end K41

end

section
set_option Elab.async false
set_option linter.all false
set_option maxRecDepth 100000
set_option maxHeartbeats 2000000
/-! A dict of names. -/
namespace K41
open PySem PySem.Spec PyProof.Rows L2 KX
theorem same_unlock {H H' : Hp} {d : Addr} {u f : HO} (h : H d = some u) (s : Same (upd H d f) H') : Same H (upd H' d u) := fun b v e => by
  by_cases z : b = d
  · subst z
    rw [upd_same, ← e, h]
  · rw [upd_ne z]
    exact s b v (by rw [upd_ne z]; exact e)
section
variable {K : PySem.W.Frag} {d : Addr} {o : Obj} {kvs : List (Key × V)} {i : Nat} {te : TE} {σ : L2.St} {H0 : Hp} {D : Addr} {Qd : Hp → Prop}
theorem lc_keys (r : Key → V) (hl : H0 d = some (.frz o (.dK kvs))) (h1 : H0 D = none) (small : kvs.length ≤ 1000) (hw : ∀ x, wipe ((wipe σ [i]).set i (some x)) [i] = wipe σ [i])
    (hs : ∀ k v, (k, v) ∈ kvs → ∀ H, Same H0 H → ∀ Q : VK, Q (r k) H → te ((wipe σ [i]).set i (some (kV k))) H Q) (hd : ∀ H, Same H0 H → H D = some (.lst (kvs.map fun p => r p.1)) → Qd H) :
    ∃ W : Nat → Nat → Hp → Prop, (∃ m, W 0 m (upd H0 D (.lst []))) ∧ ∀ j m H, W j m H →
      ((Itk d o kvs).stop j H ∧ Qd H) ∨ ((Itk d o kvs).go j H ∧ ∃ Nx : Hp → Prop, (∀ H', Nx H' → ∃ m', m' < m ∧ W (j + 1) m' H') ∧ ∀ x H', (Itk d o kvs).yld j H x H' → gName i x (wipe σ [i]) H' fun σ2 H2 => wipe σ2 [i] = wipe σ [i] ∧ tYes σ2 H2 fun b H3 =>
        if b = true then te σ2 H3 fun y H4 => ∃ acc, H4 D = some (.lst acc) ∧ acc.length < sizeLine ∧ Nx (upd H4 D (.lst (acc ++ [y]))) else Nx H3) := by
  refine lc_it (walk_keys (kvs := kvs)) (fun j H => Same H0 H ∧ H D = some (.lst ((kvs.take j).map fun p => r p.1))) ⟨same_upd (Same.refl H0) h1, by rw [upd_same]; rfl⟩ (fun j H _ p => p.1 d _ hl) ?_ (fun H p => hd H p.1 (by rw [p.2, List.take_length]))
  rintro j x H H' hj ⟨s, hD⟩ ⟨rfl, k, v, hk, rfl⟩
  refine ⟨hw _, ?_⟩
  simp only [tYes, if_true]
  refine hs k v (List.mem_of_getElem? hk) H' s _ ⟨_, hD, ?_, same_upd s h1, ?_⟩
  · rw [List.length_map, List.length_take]
    exact small1000 (by omega)
  · rw [upd_same, List.take_add_one, hk]
    simp
end
section
variable {P : Program} {w : World} {K : PySem.W.Frag} {mg : Str → Option Value} {base : Heap}
def hasNamesK (kvs : List (Key × V)) : Bool := decide (1 ≤ kvs.length) && (decide (kvs.length ≤ 4) && kvs.all fun p => isNameK p.1)
def noDict : PyData → Bool
  | .dict _ => false
  | _ => true
/-- what is given for kinds: data that is no dict, or a dict -/
def Given (K : PySem.W.Frag) (H : Hp) (v : V) (d : PyData) : Prop := Dp K H v d ∧ noDict d = true
theorem isi_dict0 {d : PyData} (h : noDict d = true) : kitB (tyD d) "dict" = some false := by
  rw [isi_dict d]
  cases d <;> first | rfl | (simp [noDict] at h)
def spHas (K : PySem.W.Frag) : Sp := fun vs H Q _ => ∃ v, vs = [v] ∧ ((∃ d, Dp K H v d ∧ noDict d = true ∧ Q (.bl false) H) ∨ ∃ a kvs, v = .ref a ∧ H a = some (.dK kvs) ∧ kvs.length ≤ 100 ∧ (∀ p ∈ kvs, keyOk p.1) ∧ ∀ H', Same H H' → Q (.bl (hasNamesK kvs)) H')
theorem ok_has_names (T : Top K mg) : FnOk P w K mg base (L2.CX P w) 2 T.has_names.a T.has_names.d ["told"] (spHas K) := by
  refine T.has_names.f.okX sc_has_names (fun vs H Q E h => ?_) (fun cdv A outer s H vs Q E hr h => ?_)
  · obtain ⟨v, rfl, _⟩ := h
    rfl
  · obtain ⟨v, rfl, h⟩ := h
    refine ⟨_, pss_one (ps_ret (pe_and (pe_callB call_isi (by rfl) T.bf.isinstance_ (by decide +kernel) (pa_cons (pv 0) (pa_cons (pe_bltn (v := .ty "dict") (by rfl) T.bf.dict_ (by decide +kernel) rfl) pa_nil)))
      (pe_and (pe_chain op_le op_le pe_int (pe_callB call_lenD (by rfl) T.bf.len_ PySem.boot_len (pa_cons (pv 0) pa_nil)) pe_int)
      (pe_one (pe_callB (cr_all rfl) (by rfl) T.bf.all_ (by decide +kernel) (pa_cons ((pe_lock (pe_lc (own := [("name", 1)]) (g := gName 1) (tt := tYes) rfl sc_has_names.nd (pi_keys (pv 0)) (blkOk_by (N := n_has_names) (sc := defScope s_has_names) (by decide +kernel)) (fun _ _ _ _ _ => pg_name (i := 1) sc_has_names.nd rfl (Or.inl rfl)) (fun _ _ _ _ _ => pts_nil) (fun _ _ _ _ _ => (pe_call (ok_is_name T) (hr.mono (by decide)) (by rfl) T.is_name.m T.is_name.f.kp T.is_name.b .nil passL (pa_cons (pv 1) pa_nil)))))) pa_nil)))))), ?_⟩
    refine ⟨v, rfl, ?_⟩
    rcases h with ⟨d, hd, nd, q⟩ | ⟨a, kvs, rfl, ha, hl, ko, q⟩
    · exact ⟨v, .ty "dict", _, .type _, false, rfl, .ty _, dp_ty hd, kit_ty (isi_dict0 nd), _, rfl, iteF q⟩
    · refine ⟨_, .ty "dict", _, .type "dict", true, rfl, .ty "dict", .base (.dK ha), kit_ty (by decide +kernel : kitB "dict" "dict" = some true), _, rfl, iteT ?_⟩
      refine ⟨_, rfl, a, kvs, rfl, ha, _, _, rfl, rfl, _, rfl, ?_⟩
      have fin : hasNamesK kvs = (decide (1 ≤ kvs.length) && (decide (kvs.length ≤ 4) && kvs.all fun p => isNameK p.1)) := rfl
      refine ite2 (fun c1 => ?_) (fun c1 => ?_)
      · have c1 : 1 ≤ kvs.length := by have := of_decide_eq_true c1; omega
        refine ⟨_, _, rfl, rfl, _, rfl, ?_⟩
        refine ite2 (fun c2 => ?_) (fun c2 => ?_)
        · have c2 : kvs.length ≤ 4 := by have := of_decide_eq_true c2; omega
          refine ⟨a, _, ha, trivial, fun od => ⟨_, rfl, a, od, rfl, .inl ⟨kvs, upd_same, fun D hD => ?_⟩⟩⟩
          refine lc_keys (fun k => .bl (isNameK k)) upd_same hD (by omega) (fun _ => rfl) (fun k v hm H1 s1 Q1 q1 => ?_) fun H1 s1 hD1 => ?_
          · exact ⟨_, rfl, k, rfl, ko _ hm, q1⟩
          · have hne : D ≠ a := fun e => by
              subst e
              rw [upd_same] at hD
              cases hD
            have sf := same_unlock ha s1
            refine ⟨s1 _ _ upd_same, D, kvs.map fun p => isNameK p.1, rfl, SqL.of (by rw [upd_ne hne, hD1, List.map_map]; rfl), ?_⟩
            refine qb (q _ sf) ?_
            rw [fin, decide_eq_true c1, decide_eq_true c2, List.all_map]
            rfl
        · have c2 : ¬ kvs.length ≤ 4 := fun z => c2 (decide_eq_true (by omega))
          exact qb (q H (Same.refl H)) (by rw [fin, decide_eq_false c2]; simp)
      · have c1 : ¬ 1 ≤ kvs.length := fun z => c1 (decide_eq_true (by omega))
        exact ⟨_, rfl, iteF (qb (q H (Same.refl H)) (by rw [fin, decide_eq_false c1]; simp))⟩
end
end K41

end

section
set_option Elab.async false
set_option linter.all false
set_option maxRecDepth 100000
set_option maxHeartbeats 2000000
/-! The errors with a field. -/
namespace K41
open PySem PySem.Spec PyProof.Rows L2 KX
theorem pF {P : Program} {w : World} {K : PySem.W.Frag} {mg : Str → Option Value} {base : Heap} {N : List Str} {qual : Str} {scope : Scope} {f : Addr} {cd : Value} {A : Around} {outer : List Env} {s : Shared} {H : Hp} {E : XK} : Passes (L2.CX P w) (cxOf (L2.CX P w) P w K mg base N qual scope f cd A outer s H E) (fun _ _ _ => False) :=
  passes_call (takes_of rfl rfl rfl rfl) fun _ _ _ _ h => h.elim
theorem fnTy {K : PySem.W.Frag} {v : Value} (h : PySem.W.isFn K v = true) : PySem.W.typeIn K v = some (.type "function") := by
  simpa [PySem.W.isFn] using h
theorem kit_self {K : PySem.W.Frag} {C : Addr} : PySem.W.kitOne K (.ref C) (.ref C) = some true := by
  unfold PySem.W.kitOne
  rw [if_pos (by simp)]
theorem ins_ty {K : PySem.W.Frag} {mg : Str → Option Value} (T : Top K mg) {H : Hp} {a dx : Addr} {fs : List (Str × V)} (h : H a = some (.ins T.cKinds.c dx fs)) : TyX K H (.ref a) (.ref T.cKinds.c) :=
  .base (.ins h T.kf.cls T.kf.ca T.kf.cg T.kf.ct T.kf.mro)
/-- an error's making, its dict still empty -/
def spOex (C : Addr) (f : Str) : Sp := fun vs H Q _ => ∃ a v, vs = [.ref a, v] ∧ H a = some (exo a C none) ∧ ∀ dx, H dx = none → dx ≠ a → Q .non (upd (upd H dx (exd dx [(f, v)])) a (exo a C (some dx)))
theorem mk_low {C : Addr} {f : Str} {v : V} {H : Hp} {Q : XK} (q : ∀ d H', Same H H' → H d = none → H' d = some (.xd [(f, v)]) → Q (.ref C) (some d) H') :
    [v].length ≤ 1000 ∧ ∀ a, H a = none → spOex C f (.ref a :: ([v] ++ [])) (upd H a (exo a C none)) (fun v H2 => v = .non ∧ ∃ (d : Addr) (fs : List (Str × V)), H2 a = some (exo a C (some d)) ∧ H2 d = some (exd d fs) ∧ H d = none ∧ Q (.ref C) (some d) (upd (del H2 a) d (.xd fs))) (fun _ _ _ => False) := by
  refine ⟨by show 1 ≤ 1000; omega, fun a ha => ⟨a, v, rfl, upd_same, fun dx hx ne => ⟨rfl, dx, [(f, v)], upd_same, ?_, ?_, ?_⟩⟩⟩
  · rw [upd_ne ne, upd_same]
  · rw [upd_ne ne] at hx
    exact hx
  · rw [upd_ne ne] at hx
    refine q dx _ (fun b u e => ?_) hx upd_same
    have h1 : b ≠ dx := ne_of_none e hx
    have h2 : b ≠ a := ne_of_none e ha
    rw [upd_ne h1, del_ne h2, upd_ne h2, upd_ne h1, upd_ne h2]
    exact e
section
variable {P : Program} {w : World} {K : PySem.W.Frag} {mg : Str → Option Value} {base : Heap}
theorem ok_BadKinds_init (T : Top K mg) : FnOk P w K mg base (L2.CX P w) 1 T.BadKinds_init.a T.BadKinds_init.d ["self", "name"] (spOex T.cBadKinds.c "name") := by
  refine T.BadKinds_init.f.okX sc_BadKinds_init (fun vs H Q E h => ?_) (fun cdv A outer s H vs Q E hr h => ?_)
  · obtain ⟨a, v, rfl, _⟩ := h
    rfl
  · obtain ⟨a, v, rfl, ha, q⟩ := h
    refine ⟨_, pss_one (ps_ost (pv 0) (pv 1)), ?_⟩
    exact ⟨_, rfl, _, rfl, a, _, rfl, T.oBadKinds, T.zBadKinds, .inl ⟨ha, fun dx h1 h2 => q dx h1 h2⟩⟩
theorem ok_BadChange_init (T : Top K mg) : FnOk P w K mg base (L2.CX P w) 1 T.BadChange_init.a T.BadChange_init.d ["self", "place"] (spOex T.cBadChange.c "place") := by
  refine T.BadChange_init.f.okX sc_BadChange_init (fun vs H Q E h => ?_) (fun cdv A outer s H vs Q E hr h => ?_)
  · obtain ⟨a, v, rfl, _⟩ := h
    rfl
  · obtain ⟨a, v, rfl, ha, q⟩ := h
    refine ⟨_, pss_one (ps_ost (pv 0) (pv 1)), ?_⟩
    exact ⟨_, rfl, _, rfl, a, _, rfl, T.oBadChange, T.zBadChange, .inl ⟨ha, fun dx h1 h2 => q dx h1 h2⟩⟩
theorem ok_CannotDo_init (T : Top K mg) : FnOk P w K mg base (L2.CX P w) 1 T.CannotDo_init.a T.CannotDo_init.d ["self", "place"] (spOex T.cCannotDo.c "place") := by
  refine T.CannotDo_init.f.okX sc_CannotDo_init (fun vs H Q E h => ?_) (fun cdv A outer s H vs Q E hr h => ?_)
  · obtain ⟨a, v, rfl, _⟩ := h
    rfl
  · obtain ⟨a, v, rfl, ha, q⟩ := h
    refine ⟨_, pss_one (ps_ost (pv 0) (pv 1)), ?_⟩
    exact ⟨_, rfl, _, rfl, a, _, rfl, T.oCannotDo, T.zCannotDo, .inl ⟨ha, fun dx h1 h2 => q dx h1 h2⟩⟩
/-- a Kinds instance, as it is told -/
def spCheckKinds (K : PySem.W.Frag) (C B : Addr) : Sp := fun vs H Q E => ∃ v, vs = [v] ∧ ((∃ a dx fs, v = .ref a ∧ H a = some (.ins C dx fs) ∧ Q .non H) ∨
  ((∃ a kvs, v = .ref a ∧ H a = some (.dK kvs)) ∨ v = .non) ∧ ∀ d H', Same H H' → H d = none → H' d = some (.xd [("name", .non)]) → E (.ref B) (some d) H')
theorem ok_check_kinds (T : Top K mg) : FnOk P w K mg base (L2.CX P w) 3 T.check_kinds.a T.check_kinds.d ["kinds"] (spCheckKinds K T.cKinds.c T.cBadKinds.c) := by
  refine T.check_kinds.f.okX sc_check_kinds (fun vs H Q E h => ?_) (fun cdv A outer s H vs Q E hr h => ?_)
  · obtain ⟨v, rfl, _⟩ := h
    rfl
  · obtain ⟨v, rfl, h⟩ := h
    refine ⟨_, pss_one (ps_if (pt_not (pt_val (pe_callB call_isi (by rfl) T.bf.isinstance_ (by decide +kernel) (pa_cons (pv 0) (pa_cons (pe_glob (x := "Kinds") (v := .ref T.cKinds.c) (by rfl) T.cKinds.m rfl) pa_nil)))))
      (pss_one (ps_raise rfl (takes_of rfl rfl rfl rfl) (pmk_oex T.oBadKinds T.BadKinds_init.i (fnTy T.BadKinds_init.g) (ok_BadKinds_init T) (hr.mono (by decide)) T.BadKinds_init.b .nil pF (by rfl) T.cBadKinds.m (pa_cons pe_non pa_nil)))) pss_nil), ?_⟩
    refine ⟨v, rfl, ?_⟩
    rcases h with ⟨a, dx, fs, rfl, ha, q⟩ | ⟨h, q⟩
    · exact ⟨_, .ref _, _, _, true, rfl, .own _, ins_ty T ha, kit_self, _, rfl, iteF q⟩
    · rcases h with ⟨a, kvs, rfl, ha⟩ | rfl
      · refine ⟨_, .ref _, .type "dict", _, false, rfl, .own _, .base (.dK ha), T.kf.qd, _, rfl, iteT (mk_low q)⟩
      · refine ⟨_, .ref _, .type "NoneType", _, false, rfl, .own _, .base .non, T.kf.qn, _, rfl, iteT (mk_low q)⟩
end
end K41

end

section
set_option Elab.async false
set_option linter.all false
set_option maxRecDepth 100000
set_option maxHeartbeats 2000000
/-! What kinds are told from. -/
namespace K41
open PySem PySem.Spec PyProof.Rows L2 KX
abbrev Ent := Str × V × PyData
def kvsT (L : List Ent) : List (Key × V) := L.map fun e => (Sum.inr e.1, e.2.1)
structure Ents (K : PySem.W.Frag) (H : Hp) (L : List Ent) : Prop where
  dp : ∀ e ∈ L, Dp K H e.2.1 e.2.2
  sh : ∀ e ∈ L, SeqAt.shaped (.list [e.2.2]) = true
  sm : ∀ e ∈ L, smallD e.2.2
  ko : ∀ e ∈ L, e.1.length ≤ 1000
  nd : (L.map (·.1)).Nodup
  few : L.length ≤ 10
structure Told (K : PySem.W.Frag) (H : Hp) (a : Addr) (L : List Ent) : Prop where
  at_ : H a = some (.dK (kvsT L))
  ok : Ents K H L
theorem Ents.same {K : PySem.W.Frag} {H H' : Hp} {L : List Ent} (h : Ents K H L) (s : Same H H') : Ents K H' L := ⟨fun e m => dp_same s (h.dp e m), h.sh, h.sm, h.ko, h.nd, h.few⟩
theorem Ents.perm {K : PySem.W.Frag} {H : Hp} {L M : List Ent} (h : Ents K H L) (p : M.Perm L) : Ents K H M :=
  ⟨fun e m => h.dp e (p.mem_iff.mp m), fun e m => h.sh e (p.mem_iff.mp m), fun e m => h.sm e (p.mem_iff.mp m), fun e m => h.ko e (p.mem_iff.mp m), (p.map _).nodup_iff.mpr h.nd, by rw [p.length_eq]; exact h.few⟩
theorem Told.same {K : PySem.W.Frag} {H H' : Hp} {a : Addr} {L : List Ent} (h : Told K H a L) (s : Same H H') : Told K H' a L := ⟨s a _ h.at_, h.ok.same s⟩
theorem perm_back {α β : Type} (f : α → β) : ∀ {ys zs : List β}, ys.Perm zs → ∀ L : List α, zs = L.map f → ∃ M : List α, M.Perm L ∧ M.map f = ys := fun {ys zs} h => by
  induction h with
  | nil => intro L e; cases L with
    | nil => exact ⟨[], .nil, rfl⟩
    | cons x r => simp at e
  | cons x p ih => intro L e; cases L with
    | nil => simp at e
    | cons y r =>
      rw [List.map_cons, List.cons.injEq] at e
      obtain ⟨M, h1, h2⟩ := ih r e.2
      exact ⟨y :: M, h1.cons y, by rw [List.map_cons, h2, e.1]⟩
  | swap x y l => intro L e; match L, e with
    | [], e => simp at e
    | [_], e => simp at e
    | a :: b :: r, e =>
      rw [List.map_cons, List.map_cons, List.cons.injEq, List.cons.injEq] at e
      exact ⟨b :: a :: r, .swap a b r, by rw [List.map_cons, List.map_cons, e.1, e.2.1, e.2.2]⟩
  | trans p q ihp ihq => intro L e; exact (by
      obtain ⟨M2, h1, h2⟩ := ihq L e
      obtain ⟨M, h3, h4⟩ := ihp M2 h2.symm
      exact ⟨M, h3.trans h1, h4⟩)
theorem val_of : ∀ {L : List Ent} {e : Ent}, (L.map (·.1)).Nodup → e ∈ L → valV (kvsT L) (Sum.inr e.1) = some e.2.1
  | [], e, _, m => by simp at m
  | x :: r, e, nd, m => by
    rw [List.map_cons, List.nodup_cons] at nd
    show ((List.find? (fun kv => decide (kv.1 = (Sum.inr e.1 : Key))) ((Sum.inr x.1, x.2.1) :: kvsT r)).map (·.2)) = _
    rcases List.mem_cons.mp m with z | z
    · subst z
      rw [List.find?_cons_of_pos (by simp)]
      rfl
    · have ne : ¬ (Sum.inr x.1 : Key) = Sum.inr e.1 := fun z' => by
        have z' : x.1 = e.1 := Sum.inr.inj z'
        exact nd.1 (z' ▸ List.mem_map_of_mem z)
      rw [List.find?_cons_of_neg (by simpa using ne)]
      exact val_of nd.2 z
theorem kvs_len {L : List Ent} : (kvsT L).length = L.length := List.length_map _
theorem kvs_fst {L : List Ent} : (kvsT L).map (·.1) = (L.map (·.1)).map Sum.inr := by
  unfold kvsT
  rw [List.map_map, List.map_map]
  rfl
theorem shaped_el {d : PyData} (h : SeqAt.shaped (.list [d]) = true) : SeqAt.shaped d = true := by
  have h1 := SeqAt.canLay_of_shaped h
  have h2 := SeqAt.depth_of_shaped h
  unfold SeqAt.shaped
  simp only [PyData.canLay0, PyData.canLayAll0, Bool.and_true] at h1
  simp only [PyData.depth, PyData.depthAll] at h2
  rw [h1, Bool.true_and]
  exact decide_eq_true (by omega)
theorem shaped_all : ∀ {ds : List PyData}, (∀ d ∈ ds, SeqAt.shaped (.list [d]) = true) → SeqAt.shaped (.list ds) = true := fun {ds} h => by
  have h1 : PyData.canLayAll0 ds = true := by
    induction ds with
    | nil => rfl
    | cons d r ih =>
      have z := SeqAt.canLay_of_shaped (h d List.mem_cons_self)
      simp only [PyData.canLay0, PyData.canLayAll0, Bool.and_true] at z
      simp only [PyData.canLayAll0, z, Bool.true_and]
      exact ih fun d' m => h d' (List.mem_cons_of_mem _ m)
  have h2 : PyData.depthAll ds ≤ 63 := by
    clear h1
    induction ds with
    | nil => exact Nat.zero_le _
    | cons d r ih =>
      have z := SeqAt.depth_of_shaped (h d List.mem_cons_self)
      simp only [PyData.depth, PyData.depthAll] at z
      have z2 := ih fun d' m => h d' (List.mem_cons_of_mem _ m)
      simp only [PyData.depthAll]
      omega
  unfold SeqAt.shaped
  simp only [PyData.canLay0, h1, Bool.true_and, PyData.depth]
  exact decide_eq_true (by omega)
/-- the first name whose kind is none, or one that stood ahead -/
def firstBad : List PyData → List Ent → Option Str
  | _, [] => none
  | seen, e :: r => if (isKindD e.2.2 && !(seen.any fun z => PyData.eqv z e.2.2)) = true then firstBad (seen ++ [e.2.2]) r else some e.1
theorem bad_here {seen : List PyData} {e : Ent} {r : List Ent} (h : (isKindD e.2.2 && !(seen.any fun z => PyData.eqv z e.2.2)) = false) : firstBad seen (e :: r) = some e.1 := by
  show (if _ then _ else _) = _
  rw [h]
  rfl
theorem bad_next {seen : List PyData} {e : Ent} {r : List Ent} (h : (isKindD e.2.2 && !(seen.any fun z => PyData.eqv z e.2.2)) = true) : firstBad seen (e :: r) = firstBad (seen ++ [e.2.2]) r := by
  show (if _ then _ else _) = _
  rw [if_pos h]
theorem hu65 {k : Nat} {A : Around} (r : Room (k + 1) A) : A.units + 65 < cLine := by have := r.un; omega
/-- an error of the class at C, its field f telling v -/
def Raises1 (H : Hp) (E : XK) (C : Addr) (f : Str) (v : V) : Prop := ∀ d H', Same H H' → H d = none → H' d = some (.xd [(f, v)]) → E (.ref C) (some d) H'
theorem Raises1.same {H H1 : Hp} {E : XK} {C : Addr} {f : Str} {v : V} (h : Raises1 H E C f v) (s : Same H H1) : Raises1 H1 E C f v := fun d H' s' n e => h d H' (s.trans s') (by
  cases z : H d with
  | none => rfl
  | some u =>
    have := s d u z
    rw [n] at this
    cases this) e
end K41

end

section
set_option Elab.async false
set_option linter.all false
set_option maxRecDepth 100000
set_option maxHeartbeats 4000000
/-! Kinds are made. -/
namespace K41
open PySem PySem.Spec PyProof.Rows L2 KX
section
variable {J : It} {n : Nat} {G : Hp → Prop} {Y : Nat → Hp → V → Hp → Prop}
theorem dc_it (w : Walk J n G Y) {g : TG} {tt : TT} {tk tv : TE} {vs : List Nat} {σ : L2.St} {H1 : Hp} {D : Addr} {Qd : Hp → Prop} (Pv : Nat → Hp → Prop) (h0 : Pv 0 (upd H1 D (.dK []))) (hG : ∀ i H, i ≤ n → Pv i H → G H)
    (hs : ∀ i x H H', i < n → Pv i H → Y i H x H' → g x (wipe σ vs) H' fun σ2 H2 => wipe σ2 vs = wipe σ vs ∧ tt σ2 H2 fun b H3 =>
      if b = true then tk σ2 H3 fun y H4 => tv σ2 H4 fun z H5 => ∃ kvs k, y = kV k ∧ H5 D = some (.dK kvs) ∧ kvs.length < sizeLine ∧ Pv (i + 1) (upd H5 D (.dK (putK kvs k z))) else Pv (i + 1) H3) (hd : ∀ H, Pv n H → Qd H) :
    ∃ W : Nat → Nat → Hp → Prop, (∃ m, W 0 m (upd H1 D (.dK []))) ∧ ∀ i m H, W i m H →
      (J.stop i H ∧ Qd H) ∨ (J.go i H ∧ ∃ Nx : Hp → Prop, (∀ H', Nx H' → ∃ m', m' < m ∧ W (i + 1) m' H') ∧ ∀ x H', J.yld i H x H' → g x (wipe σ vs) H' fun σ2 H2 => wipe σ2 vs = wipe σ vs ∧ tt σ2 H2 fun b H3 =>
        if b = true then tk σ2 H3 fun y H4 => tv σ2 H4 fun z H5 => ∃ kvs k, y = kV k ∧ H5 D = some (.dK kvs) ∧ kvs.length < sizeLine ∧ Nx (upd H5 D (.dK (putK kvs k z))) else Nx H3) := by
  refine ⟨fun i m H => m = n - i ∧ i ≤ n ∧ Pv i H, ⟨n, by simp, Nat.zero_le _, h0⟩, ?_⟩
  rintro i m H ⟨rfl, hi, p⟩
  have q := hG i H hi p
  by_cases hlt : i < n
  · refine .inr ⟨w.goes i H hlt q, Pv (i + 1), fun H' p' => ⟨n - (i + 1), by omega, rfl, hlt, p'⟩, fun x H' y => hs i x H H' hlt p (w.yields i H x H' hlt q y)⟩
  · have e : i = n := by omega
    subst e
    exact .inl ⟨w.stops H q, hd H p⟩
end
theorem putK_new {L : List Ent} {n : Str} {v : V} (h : ∀ e ∈ L, e.1 ≠ n) : putK (kvsT L) (Sum.inr n) v = kvsT L ++ [(Sum.inr n, v)] := by
  unfold putK
  rw [if_neg]
  intro z
  obtain ⟨kv, m, e⟩ := List.any_eq_true.mp z
  obtain ⟨x, hx, rfl⟩ := List.mem_map.mp m
  exact h x hx (Sum.inr.inj (of_decide_eq_true e))
theorem nd_take {L : List Ent} (nd : (L.map (·.1)).Nodup) {j : Nat} {e : Ent} (h : L[j]? = some e) : ∀ x ∈ L.take j, x.1 ≠ e.1 := fun x m z => by
  obtain ⟨i, hi⟩ := List.mem_iff_getElem?.mp m
  have hj := (List.getElem?_eq_some_iff.mp h).1
  rw [List.getElem?_take] at hi
  split at hi
  · rename_i lt
    have h1 : (L.map (·.1))[i]? = some x.1 := by rw [List.getElem?_map, hi]; rfl
    have h2 : (L.map (·.1))[j]? = some e.1 := by rw [List.getElem?_map, h]; rfl
    have := (List.getElem?_inj (by rw [List.length_map]; omega) nd).mp (h1.trans (by rw [z, ← h2]))
    omega
  · cases hi
theorem idx_map {M : List Ent} {i : Nat} {v : V} (h : (M.map fun e => V.str e.1)[i]? = some v) : ∃ e, M[i]? = some e ∧ v = .str e.1 := by
  rw [List.getElem?_map] at h
  obtain ⟨e, h1, h2⟩ := Option.map_eq_some_iff.mp h
  exact ⟨e, h1, h2.symm⟩
theorem dpAll_of {K : PySem.W.Frag} {H : Hp} : ∀ {l : List Ent}, (∀ e ∈ l, Dp K H e.2.1 e.2.2) → DpAll K H (l.map (·.2.1)) (l.map (·.2.2))
  | [], _ => .nil
  | e :: r, h => .cons (h e List.mem_cons_self) (dpAll_of fun x m => h x (List.mem_cons_of_mem _ m))
theorem cut_take {xs : List V} {i : Nat} (h : i ≤ xs.length) : cutV xs none (some (i : Nat)) = xs.take i := by
  unfold cutV
  rw [HT.sIx_none, HT.sIx_nat, Nat.min_eq_left h]
  simp
def valR (L : List Ent) : V → V
  | .str n => (valV (kvsT L) (Sum.inr n)).getD .non
  | _ => .non
theorem valR_of {L : List Ent} {e : Ent} (nd : (L.map (·.1)).Nodup) (m : e ∈ L) : valR L (.str e.1) = e.2.1 := by
  show (valV (kvsT L) (Sum.inr e.1)).getD .non = _
  rw [val_of nd m]
  rfl
theorem Told.get {K : PySem.W.Frag} {H : Hp} {a : Addr} {L : List Ent} {e : Ent} (h : Told K H a L) (m : e ∈ L) : DGet H a (.str e.1) (some e.2.1) := by
  have := DGet.k (k := Sum.inr e.1) h.at_
  rw [val_of h.ok.nd m] at this
  exact this
section
variable {P : Program} {w : World} {K : PySem.W.Frag} {mg : Str → Option Value} {base : Heap}
def NoNames (K : PySem.W.Frag) (H : Hp) (v : V) : Prop := (∃ d, Dp K H v d ∧ noDict d = true) ∨ ∃ a kvs, v = .ref a ∧ H a = some (.dK kvs) ∧ kvs.length ≤ 100 ∧ (∀ p ∈ kvs, keyOk p.1) ∧ hasNamesK kvs = false
def MadeOf (H : Hp) (E : XK) (B : Addr) (L : List Ent) (Q : Hp → Addr → List Ent → Prop) : Prop := ∀ M : List Ent, M.Perm L → sortedS (M.map (·.1)) = true →
  match firstBad [] M with
  | some n => Raises1 H E B "name" (.str n)
  | none => ∀ H' D, Same H H' → H D = none → H' D = some (.dK (kvsT M)) → Q H' D M
def spInit (K : PySem.W.Frag) (C B : Addr) : Sp := fun vs H Q E => ∃ p dx v, vs = [.ref p, v] ∧ H p = some (.ins C dx []) ∧
  ((NoNames K H v ∧ Raises1 H E B "name" .non) ∨ ∃ a L, v = .ref a ∧ Told K H a L ∧ hasNamesK (kvsT L) = true ∧ MadeOf H E B L fun H' D _ => Q .non (upd H' p (.ins C dx [("told", .ref D)])))
theorem ok_Kinds_init (T : Top K mg) : FnOk P w K mg base (L2.CX P w) 6 T.Kinds_init.a T.Kinds_init.d ["self", "told"] (spInit K T.cKinds.c T.cBadKinds.c) := by
  refine T.Kinds_init.f.okX sc_Kinds_init (fun vs H Q E h => ?_) (fun cdv A outer s H vs Q E hr h => ?_)
  · obtain ⟨p, dx, v, rfl, _⟩ := h
    rfl
  · obtain ⟨p, dx, v, rfl, hp, h⟩ := h
    refine ⟨_, (pss_cons ((ps_if (pt_not (pt_val ((pe_call (ok_has_names T) (hr.mono (by decide)) (by rfl) T.has_names.m T.has_names.f.kp T.has_names.b .nil pX (pa_cons (pv 1) pa_nil))))) ((pss_one (ps_raise rfl (takes_of rfl rfl rfl rfl) (pmk_oex T.oBadKinds T.BadKinds_init.i (fnTy T.BadKinds_init.g) (ok_BadKinds_init T) (hr.mono (by decide)) T.BadKinds_init.b .nil pF (by rfl) T.cBadKinds.m (pa_cons pe_non pa_nil))))) (pss_nil))) (pss_cons ((ps_set (i := 2) sc_Kinds_init.nd rfl (Or.inl rfl) ((pe_callB (call_sortedD rfl) (by rfl) T.bf.sorted_ (by decide +kernel) (pa_cons (pv 1) pa_nil))))) (pss_cons ((ps_for pO rfl (pi_enum (by rfl) T.bf.enumerate_ (pa_cons (pv 2) pa_nil)) (pg_tup rfl (pgs_cons (pg_name (i := 3) sc_Kinds_init.nd rfl (Or.inl rfl)) (pgs_cons (pg_name (i := 4) sc_Kinds_init.nd rfl (Or.inl rfl)) pgs_nil))) ((pss_one ((ps_if (PW.pt (pw_or (pt_not (pt_val ((pe_call (ok_is_kind T) (hr.mono (by decide)) (by rfl) T.is_kind.m T.is_kind.f.kp T.is_kind.b .nil pX (pa_cons (pe_dget (hu_of hr) (pv 1) (pv 4) (fun _ _ => rfl)) pa_nil))))) (pw_or1 (pt_cmpR (op_inD (hu65 hr)) (pe_dget (hu_of hr) (pv 1) (pv 4) (fun _ _ => rfl)) (pe_lc (own := [("early", 5)]) (g := gName 5) (tt := tYes) rfl sc_Kinds_init.nd (pi_list (pe_slice sl_list (pv 2) po_none (po_some (pv 3)))) (blkOk_by (N := n_Kinds_init) (sc := defScope s_Kinds_init) (by decide +kernel)) (fun _ _ _ _ _ => pg_name (i := 5) sc_Kinds_init.nd rfl (Or.inl rfl)) (fun _ _ _ _ _ => pts_nil) (fun _ _ _ _ _ => pe_dget (hu_of hr) (pv 1) (pv 5) (fun _ _ => rfl))) (by rfl))))) ((pss_one (ps_raise rfl (takes_of rfl rfl rfl rfl) (pmk_oex T.oBadKinds T.BadKinds_init.i (fnTy T.BadKinds_init.g) (ok_BadKinds_init T) (hr.mono (by decide)) T.BadKinds_init.b .nil pF (by rfl) T.cBadKinds.m (pa_cons (pv 4) pa_nil))))) (pss_nil))))))) (pss_one (ps_fld (pv 0) (pe_dc (own := [("name", 4)]) (g := gName 4) (tt := tYes) rfl sc_Kinds_init.nd (pi_list (pv 2)) (blkOk_by (N := n_Kinds_init) (sc := defScope s_Kinds_init) (by decide +kernel)) (fun _ _ _ _ _ => pg_name (i := 4) sc_Kinds_init.nd rfl (Or.inl rfl)) (fun _ _ _ _ _ => pts_nil)
        (fun _ _ _ _ _ => pv 4) (fun _ _ _ _ _ => pe_dget (hu_of hr) (pv 1) (pv 4) (fun _ _ => rfl))) rfl))))), ?_⟩
    rcases h with ⟨hn, hR⟩ | ⟨a, L, rfl, hL, hn, hM⟩
    · rcases hn with ⟨d, hd, nd⟩ | ⟨a, kvs, rfl, ha, hl, ko, hk⟩
      · exact ⟨v, rfl, _, rfl, .inl ⟨d, hd, nd, _, rfl, iteT (mk_low hR)⟩⟩
      · refine ⟨_, rfl, _, rfl, .inr ⟨a, kvs, rfl, ha, hl, ko, fun H1 s1 => ?_⟩⟩
        rw [hk]
        exact ⟨_, rfl, iteT (mk_low (hR.same s1))⟩
    · have hfew := hL.ok.few
      refine ⟨_, rfl, _, rfl, .inr ⟨a, kvsT L, rfl, hL.at_, by rw [kvs_len]; omega, fun q m => ?_, fun H1 s1 => ?_⟩⟩
      · obtain ⟨e, he, rfl⟩ := List.mem_map.mp m
        exact hL.ok.ko e he
      rw [hn]
      refine ⟨_, rfl, iteF ?_⟩
      have hL1 := hL.same s1
      refine ⟨_, rfl, a, kvsT L, L.map (·.1), rfl, .inl hL1.at_, kvs_fst, by rw [List.length_map]; omega, fun ys nm pm so hnm => ?_⟩
      obtain ⟨M, hMp, rfl⟩ := perm_back (·.1) pm L rfl
      have hM := hM M hMp so
      have eM := hL.ok.perm hMp
      have mfew := eM.few
      have s2 : Same H1 (upd H1 nm (.lst ((M.map (·.1)).map V.str))) := same_upd (Same.refl H1) hnm
      have enm : ((M.map (·.1)).map V.str) = M.map fun e => V.str e.1 := by rw [List.map_map]; rfl
      rw [enm] at s2 ⊢
      generalize hH2 : upd H1 nm (.lst (M.map fun e => V.str e.1)) = H2 at s2 ⊢
      have hnm2 : H2 nm = some (.lst (M.map fun e => V.str e.1)) := by rw [← hH2, upd_same]
      have s02 := s1.trans s2
      have hlen : (M.map fun e => V.str e.1).length = M.length := List.length_map _
      refine ⟨_, rfl, nm, _, rfl, SqL.of hnm2, for_it (walk_enum (xs := M.map fun e => V.str e.1)) (fun i σ H3 => (∃ x3 x4, σ = [some (.ref p), some (.ref a), some (.ref nm), x3, x4, none]) ∧ Same H2 H3 ∧ firstBad [] M = firstBad ((M.take i).map (·.2.2)) (M.drop i))
        ⟨⟨_, _, rfl⟩, Same.refl H2, rfl⟩ (fun i σ H3 _ p => SqL.of (p.2.1 _ _ hnm2)) ?turn ?after⟩
      case turn =>
        rintro i x σ H3 H3' hi ⟨⟨x3, x4, rfl⟩, s3, hf⟩ ⟨Tp, y0, y1, rfl, hT, rfl, e0, e1⟩
        cases e0
        obtain ⟨e, he, rfl⟩ := idx_map e1
        have s4 : Same H3 (upd H3 Tp (.tup [.int (i : Nat), .str e.1])) := same_upd (Same.refl H3) hT
        refine ⟨Tp, _, rfl, SqT.of upd_same, rfl, _, _, rfl, _, _, rfl, rfl, ?_⟩
        generalize upd H3 Tp (.tup [.int (i : Nat), .str e.1]) = H4 at s4 ⊢
        have s24 := s3.trans s4
        have em : e ∈ M := List.mem_of_getElem? he
        have s04 := s02.trans s24
        have hL4 := hL.same s04
        have eM4 := eM.same s04
        have hd4 : DGet H4 a (.str e.1) (some e.2.1) := by
          have := DGet.k (k := Sum.inr e.1) hL4.at_
          rw [val_of hL.ok.nd (hMp.mem_iff.mp em)] at this
          exact this
        have hcons : M.drop i = e :: M.drop (i + 1) := by
          rw [List.drop_eq_getElem_cons (by omega)]
          congr 1
          have := List.getElem?_eq_getElem (l := M) (i := i) (by omega)
          rw [he] at this
          exact (Option.some.inj this).symm
        refine ⟨_, rfl, _, rfl, a, _, rfl, hd4, _, e.2.2, rfl, eM4.dp e em, shaped_el (eM.sh e em), eM.sm e em, fun H5 s5 => ?_⟩
        have s45 := s24.trans s5
        have s05 := s04.trans s5
        have hL5 := hL4.same s5
        have eM5 := eM4.same s5
        have hd5 : DGet H5 a (.str e.1) (some e.2.1) := by
          have := DGet.k (k := Sum.inr e.1) hL5.at_
          rw [val_of hL.ok.nd (hMp.mem_iff.mp em)] at this
          exact this
        have hf' := hf
        rw [hcons] at hf'
        have isome : ∀ {b : Bool}, (isKindD e.2.2 && !(((M.take i).map (·.2.2)).any fun z => PyData.eqv z e.2.2)) = false → b = true → firstBad [] M = some e.1 := fun h _ => hf'.trans (bad_here h)
        refine ⟨_, rfl, ?_⟩
        by_cases hk : isKindD e.2.2 = true
        · rw [hk]
          refine iteF ?_
          refine ⟨_, rfl, _, rfl, a, _, rfl, hd5, ?_⟩
          have hi' : i ≤ (M.map fun e => V.str e.1).length := by omega
          refine ⟨_, rfl, _, rfl, _, rfl, nm, _, rfl, SqL.of (s45 _ _ hnm2), fun pA hpA => ⟨pA, rfl, ⟨_, SqL.of upd_same⟩, fun D hD => ?_⟩⟩
          rw [cut_take hi'] at hD ⊢
          have sA : Same H5 (upd H5 pA (.lst ((M.map fun e => V.str e.1).take i))) := same_upd (Same.refl H5) hpA
          have s0A := s05.trans sA
          generalize hHA : upd H5 pA (.lst ((M.map fun e => V.str e.1).take i)) = HA at hD sA s0A ⊢
          have hpA' : HA pA = some (.lst ((M.map fun e => V.str e.1).take i)) := by rw [← hHA, upd_same]
          have mem : ∀ x ∈ (M.map fun e => V.str e.1).take i, ∃ e', e' ∈ M ∧ x = .str e'.1 := fun x hx => by
            obtain ⟨e', h1, h2⟩ := List.mem_map.mp (List.mem_of_mem_take hx)
            exact ⟨e', h1, h2.symm⟩
          refine lc_mapL (xs := (M.map fun e => V.str e.1).take i) (i := 5) (valR L) (Same.refl HA) (SqL.of hpA') hD (by rw [List.length_take]; omega) (fun _ => rfl) (fun x hx H6 s6 Q6 q6 => ?_) fun H6 s6 hD6 => ?_
          · obtain ⟨e', hm', rfl⟩ := mem x hx
            have hm'' := hMp.mem_iff.mp hm'
            refine ⟨_, rfl, _, rfl, a, _, rfl, (hL.same (s0A.trans s6)).get hm'', ?_⟩
            rw [← valR_of hL.ok.nd hm'']
            exact q6 H6 (Same.refl H6)
          · have eM6 := eM.same (s0A.trans s6)
            have el : ((M.map fun e => V.str e.1).take i).map (valR L) = (M.take i).map (·.2.1) := by
              rw [← List.map_take, List.map_map]
              refine List.map_congr_left fun e' m' => ?_
              exact valR_of hL.ok.nd (hMp.mem_iff.mp (List.mem_of_mem_take m'))
            rw [el] at hD6
            refine ⟨e.2.2, (M.take i).map (fun e : Ent => e.2.2), eM6.dp e em, .lst (SqL.of hD6) (dpAll_of fun e' m' => eM6.dp e' (List.mem_of_mem_take m')), shaped_el (eM.sh e em), shaped_all fun d m => ?_, _, rfl, ?_⟩
            · obtain ⟨e', m', rfl⟩ := List.mem_map.mp m
              exact eM.sh e' (List.mem_of_mem_take m')
            · refine ite2 (fun t => ?_) (fun t => ?_)
              · have fb := isome (b := true) (by rw [hk, t]; rfl) rfl
                rw [fb] at hM
                exact ⟨_, rfl, mk_low (hM.same (s0A.trans s6))⟩
              · have t : (((M.take i).map (·.2.2)).any fun z => PyData.eqv z e.2.2) = false := by simpa using t
                refine ⟨⟨_, _, rfl⟩, (s45.trans sA).trans s6, ?_⟩
                rw [hf', bad_next (by rw [hk, t]; rfl), List.take_add_one, he]
                simp
        · have hk : isKindD e.2.2 = false := by simpa using hk
          rw [hk]
          refine iteT ?_
          have fb := isome (b := true) (by rw [hk]; rfl) rfl
          rw [fb] at hM
          exact ⟨_, rfl, mk_low (hM.same s05)⟩
      case after =>
        rintro σ H3 ⟨⟨x3, x4, rfl⟩, s3, hf⟩
        have fb : firstBad [] M = none := by
          rw [hf, hlen, List.drop_length]
          rfl
        rw [fb] at hM
        have s03 := s02.trans s3
        have hnm3 := s3 _ _ hnm2
        refine ⟨_, rfl, nm, rfl, ⟨_, SqL.of hnm3⟩, fun D hD => dc_it (walk_list (xs := M.map fun e => V.str e.1)) (fun j H6 => Same H3 H6 ∧ H6 D = some (.dK (kvsT (M.take j))))
          ⟨same_upd (Same.refl H3) hD, by rw [upd_same]; rfl⟩ (fun j H6 _ p6 => SqL.of (p6.1 _ _ hnm3)) ?_ ?_⟩
        · rintro j x H6 H6' hj ⟨s6, hD6⟩ ⟨rfl, hx⟩
          obtain ⟨e, he, rfl⟩ := idx_map hx
          have em : e ∈ M := List.mem_of_getElem? he
          refine ⟨rfl, ?_⟩
          simp only [tYes, if_true]
          refine ⟨_, rfl, _, rfl, _, rfl, a, _, rfl, (hL.same (s03.trans s6)).get (hMp.mem_iff.mp em), kvsT (M.take j), Sum.inr e.1, rfl, hD6, ?_, same_upd s6 hD, ?_⟩
          · rw [kvs_len, List.length_take]
            exact small1000 (by omega)
          · rw [upd_same, putK_new (nd_take eM.nd he), List.take_add_one, he]
            simp [kvsT]
        · rintro H6 ⟨s6, hD6⟩
          rw [hlen, List.take_length] at hD6
          have s06 := s03.trans s6
          refine ⟨_, rfl, p, _, dx, [], rfl, s06 _ _ hp, T.kf.cls, T.kf.told, by show 0 < 1000; omega, ?_⟩
          have hD0 : H D = none := by
            cases z : H D with
            | none => rfl
            | some u =>
              have := s03 _ _ z
              rw [hD] at this
              cases this
          exact hM H6 D s06 hD0 hD6
end
end K41

end

section
set_option Elab.async false
set_option linter.all false
set_option maxRecDepth 100000
set_option maxHeartbeats 4000000
/-! What kinds answer. -/
namespace K41
open PySem PySem.Spec PyProof.Rows L2 KX
/-- at p: kinds of the entries M -/
def KindsAt (K : PySem.W.Frag) (C : Addr) (H : Hp) (p : Addr) (M : List Ent) : Prop := ∃ dx D, H p = some (.ins C dx [("told", .ref D)]) ∧ Told K H D M ∧ ∀ e ∈ M, isKindD e.2.2 = true
theorem KindsAt.same {K : PySem.W.Frag} {C : Addr} {H H' : Hp} {p : Addr} {M : List Ent} (h : KindsAt K C H p M) (s : Same H H') : KindsAt K C H' p M := by
  obtain ⟨dx, D, h1, h2, h3⟩ := h
  exact ⟨dx, D, s _ _ h1, h2.same s, h3⟩
def findE (M : List Ent) : PyData → Option V
  | .str n => valV (kvsT M) (Sum.inr n)
  | _ => none
section
variable {P : Program} {w : World} {K : PySem.W.Frag} {mg : Str → Option Value} {base : Heap}
def spHasK (K : PySem.W.Frag) (C : Addr) : Sp := fun vs H Q _ => ∃ p v d M, vs = [.ref p, v] ∧ KindsAt K C H p M ∧ Dp K H v d ∧ Q (.bl (findE M d).isSome) H
theorem ok_Kinds_contains (T : Top K mg) : FnOk P w K mg base (L2.CX P w) 1 T.Kinds_contains.a T.Kinds_contains.d ["self", "x"] (spHasK K T.cKinds.c) := by
  refine T.Kinds_contains.f.okX sc_Kinds_contains (fun vs H Q E h => ?_) (fun cdv A outer s H vs Q E hr h => ?_)
  · obtain ⟨p, v, d, M, rfl, _⟩ := h
    rfl
  · obtain ⟨p, v, d, M, rfl, ⟨dx, D, hp, hD, hg⟩, hd, q⟩ := h
    refine ⟨_, (pss_one ((ps_ret (pe_and (pe_callB call_isD (by rfl) T.bf.isinstance_ (by decide +kernel) (pa_cons (pv 1) (pa_cons (pe_bltn (v := .ty "str") (by rfl) T.bf.str_ (by decide +kernel) rfl) pa_nil))) (pe_one (pe_cmp (pc_din (hu_of hr) (pv 1) (pe_fld (pv 0) rfl)))))))), ?_⟩
    refine ⟨v, rfl, v, _, d, _, rfl, hd, isi_str d, _, rfl, ?_⟩
    cases hd with
    | str z => exact iteT ⟨_, rfl, _, rfl, p, _, dx, _, _, rfl, hp, T.kf.cls, T.kf.told, rfl, D, _, rfl, DGet.k (k := Sum.inr z) hD.at_, q⟩
    | non => exact iteF q
    | bl b => exact iteF q
    | int n => exact iteF q
    | lst a b => exact iteF q
    | tup a b => exact iteF q
def spGet (K : PySem.W.Frag) (C B : Addr) : Sp := fun vs H Q E => ∃ p v d M, vs = [.ref p, v] ∧ KindsAt K C H p M ∧ Dp K H v d ∧ (∀ x, findE M d = some x → Q x H) ∧ (findE M d = none → Raises1 H E B "name" v)
theorem ok_Kinds_getitem (T : Top K mg) : FnOk P w K mg base (L2.CX P w) 3 T.Kinds_getitem.a T.Kinds_getitem.d ["self", "at"] (spGet K T.cKinds.c T.cBadKinds.c) := by
  refine T.Kinds_getitem.f.okX sc_Kinds_getitem (fun vs H Q E h => ?_) (fun cdv A outer s H vs Q E hr h => ?_)
  · obtain ⟨p, v, d, M, rfl, _⟩ := h
    rfl
  · obtain ⟨p, v, d, M, rfl, hk, hd, q, r⟩ := h
    obtain ⟨dx, D, hp, hD, hg⟩ := hk
    refine ⟨_, (pss_cons ((ps_if ((pt_cmpR (op_ownNotIn (ok_Kinds_contains T) (hr.mono (by decide)) T.Kinds_contains.b pX T.Kinds_contains.i T.Kinds_contains.g) (pv 1) (pv 0) (by rfl))) ((pss_one ((ps_raise rfl (takes_of rfl rfl rfl rfl) (pmk_oex T.oBadKinds T.BadKinds_init.i (fnTy T.BadKinds_init.g) (ok_BadKinds_init T) (hr.mono (by decide)) T.BadKinds_init.b .nil pF (by rfl) T.cBadKinds.m (pa_cons (pv 1) pa_nil)))))) (pss_nil))) (pss_one ((ps_ret ((pe_dget (hu_of hr) (pe_fld (pv 0) rfl) (pv 1) (fun _ _ => rfl))))))), ?_⟩
    refine ⟨_, rfl, _, rfl, p, dx, _, rfl, hp, ⟨p, v, d, M, rfl, ⟨dx, D, hp, hD, hg⟩, hd, _, rfl, _, rfl, ?_⟩⟩
    cases e : findE M d with
    | none => exact iteT ⟨_, rfl, mk_low (r e)⟩
    | some x =>
      refine iteF ⟨_, rfl, p, _, dx, _, _, rfl, hp, T.kf.cls, T.kf.told, rfl, _, rfl, D, x, rfl, ?_, q x e⟩
      cases hd with
      | str z =>
        have := DGet.k (k := Sum.inr z) hD.at_
        have e : valV (kvsT M) (Sum.inr z) = some x := e
        rw [e] at this
        exact this
      | non => cases e
      | bl b => cases e
      | int n => cases e
      | lst a b => cases e
      | tup a b => cases e
def spLen (K : PySem.W.Frag) (C : Addr) : Sp := fun vs H Q _ => ∃ p M, vs = [.ref p] ∧ KindsAt K C H p M ∧ Q (.int M.length) H
theorem ok_Kinds_len (T : Top K mg) : FnOk P w K mg base (L2.CX P w) 1 T.Kinds_len.a T.Kinds_len.d ["self"] (spLen K T.cKinds.c) := by
  refine T.Kinds_len.f.okX sc_Kinds_len (fun vs H Q E h => ?_) (fun cdv A outer s H vs Q E hr h => ?_)
  · obtain ⟨p, M, rfl, _⟩ := h
    rfl
  · obtain ⟨p, M, rfl, ⟨dx, D, hp, hD, hg⟩, q⟩ := h
    refine ⟨_, (pss_one ((ps_ret ((pe_callB call_lenD (by rfl) T.bf.len_ PySem.boot_len (pa_cons (pe_fld (pv 0) rfl) pa_nil)))))), ?_⟩
    refine ⟨_, rfl, p, _, dx, _, _, rfl, hp, T.kf.cls, T.kf.told, rfl, D, _, rfl, hD.at_, ?_⟩
    rw [kvs_len]
    exact q
def spNames (K : PySem.W.Frag) (C : Addr) : Sp := fun vs H Q _ => ∃ p M, vs = [.ref p] ∧ KindsAt K C H p M ∧ ∀ l H', Same H H' → H' l = some (.lst (M.map fun e => .str e.1)) → Q (.ref l) H'
theorem kvs_keys {M : List Ent} : (kvsT M).map (fun kv => kV kv.1) = M.map fun e => V.str e.1 := by
  unfold kvsT
  rw [List.map_map]
  rfl
theorem ok_Kinds_names (T : Top K mg) : FnOk P w K mg base (L2.CX P w) 1 T.Kinds_names.a T.Kinds_names.d ["self"] (spNames K T.cKinds.c) := by
  refine T.Kinds_names.f.okX sc_Kinds_names (fun vs H Q E h => ?_) (fun cdv A outer s H vs Q E hr h => ?_)
  · obtain ⟨p, M, rfl, _⟩ := h
    rfl
  · obtain ⟨p, M, rfl, ⟨dx, D, hp, hD, hg⟩, q⟩ := h
    refine ⟨_, (pss_one ((ps_ret ((pe_callTy (call_listD rfl) (by rfl) T.bf.list_ (by decide +kernel) (pa_cons (pe_fld (pv 0) rfl) pa_nil)))))), ?_⟩
    refine ⟨_, rfl, p, _, dx, _, _, rfl, hp, T.kf.cls, T.kf.told, rfl, D, _, rfl, .inl hD.at_, fun l hl => ?_⟩
    rw [kvs_keys]
    exact q l _ (same_upd (Same.refl H) hl) upd_same
/-- another thing: kinds of the same values, or no kinds -/
def spEq (K : PySem.W.Frag) (C : Addr) : Sp := fun vs H Q _ => ∃ p v M, vs = [.ref p, v] ∧ KindsAt K C H p M ∧ ((∃ p2, v = .ref p2 ∧ KindsAt K C H p2 M ∧ Q (.bl true) H) ∨ ∃ a kvs, v = .ref a ∧ H a = some (.dK kvs) ∧ Q (.bl false) H)
theorem kind_ref {K : PySem.W.Frag} {H : Hp} {v : V} {d : PyData} (h : Dp K H v d) (k : isKindD d = true) : isRef v = true := by
  cases h <;> first | rfl | (simp [isKindD] at k)
theorem very {K : PySem.W.Frag} {H : Hp} {M : List Ent} (h : Ents K H M) (g : ∀ e ∈ M, isKindD e.2.2 = true) : ∀ p ∈ kvsT M, valV (kvsT M) p.1 = some p.2 ∧ isRef p.2 = true := fun p hp => by
  obtain ⟨e, he, rfl⟩ := List.mem_map.mp hp
  exact ⟨val_of h.nd he, kind_ref (h.dp e he) (g e he)⟩
theorem ok_Kinds_eq (T : Top K mg) : FnOk P w K mg base (L2.CX P w) 1 T.Kinds_eq.a T.Kinds_eq.d ["self", "other"] (spEq K T.cKinds.c) := by
  refine T.Kinds_eq.f.okX sc_Kinds_eq (fun vs H Q E h => ?_) (fun cdv A outer s H vs Q E hr h => ?_)
  · obtain ⟨p, v, M, rfl, _⟩ := h
    rfl
  · obtain ⟨p, v, M, rfl, ⟨dx, D, hp, hD, hg⟩, h⟩ := h
    refine ⟨_, (pss_one ((ps_ret (pe_and (pe_callB call_isi (by rfl) T.bf.isinstance_ (by decide +kernel) (pa_cons (pv 1) (pa_cons (pe_glob (x := "Kinds") (v := .ref T.cKinds.c) (by rfl) T.cKinds.m rfl) pa_nil))) (pe_one (pe_cmpR (op_eqVery hr.units0) (pe_fld (pv 0) rfl) (pe_fld (pv 1) rfl) (by rfl))))))), ?_⟩
    rcases h with ⟨p2, rfl, ⟨dx2, D2, hp2, hD2, hg2⟩, q⟩ | ⟨a, kvs, rfl, ha, q⟩
    · refine ⟨_, rfl, _, .ref _, _, _, true, rfl, .own _, ins_ty T hp2, kit_self, _, rfl, iteT ?_⟩
      exact ⟨_, rfl, p, _, dx, _, _, rfl, hp, T.kf.cls, T.kf.told, rfl, _, rfl, p2, _, dx2, _, _, rfl, hp2, T.kf.cls, T.kf.told, rfl, D, D2, _, _, rfl, rfl, hD.at_, hD2.at_, rfl, very hD.ok hg, q⟩
    · exact ⟨_, rfl, _, .ref _, .type "dict", _, false, rfl, .own _, .base (.dK ha), T.kf.qd, _, rfl, iteF q⟩
end
end K41

end

section
set_option Elab.async false
set_option linter.all false
set_option maxRecDepth 100000
set_option maxHeartbeats 4000000
/-! Growth; whether a letter is brought. -/
namespace K41
open PySem PySem.Spec PyProof.Rows L2 KX
theorem findE_some {M : List Ent} {d : PyData} {x : V} (h : findE M d = some x) : ∃ e ∈ M, d = .str e.1 ∧ x = e.2.1 := by
  cases d with
  | str n =>
    have h : valV (kvsT M) (Sum.inr n) = some x := h
    unfold valV at h
    obtain ⟨kv, h1, h2⟩ := Option.map_eq_some_iff.mp h
    obtain ⟨e, he, hk⟩ := List.mem_map.mp (List.mem_of_find?_eq_some h1)
    have h3 := List.find?_some h1
    subst hk
    have h3 : (Sum.inr e.1 : Key) = Sum.inr n := of_decide_eq_true h3
    exact ⟨e, he, by rw [Sum.inr.inj h3], h2.symm⟩
  | _ => cases h
theorem findE_of {M : List Ent} {e : Ent} (nd : (M.map (·.1)).Nodup) (m : e ∈ M) : findE M (.str e.1) = some e.2.1 := val_of nd m
theorem kind_form {d : PyData} (h : isKindD d = true) : ∃ w ps, d = .tuple [.int w, .tuple ps] ∧ 0 ≤ w ∧ w ≤ 2 ∧ isRowD w (.tuple ps) = true := by
  unfold isKindD at h
  split at h
  · rename_i w r
    rw [Bool.and_eq_true, Bool.and_eq_true] at h
    cases r with
    | tuple ps => exact ⟨w, ps, rfl, of_decide_eq_true h.1, of_decide_eq_true h.2.1, h.2.2⟩
    | _ => exact absurd h.2.2 (by simp [isRowD])
  · cases h
theorem kind_val {K : PySem.W.Frag} {H : Hp} {x : V} {w : Int} {ps : List PyData} (h : Dp K H x (.tuple [.int w, .tuple ps])) : ∃ a b xs, x = .ref a ∧ SqT K H a [.int w, .ref b] ∧ SqT K H b xs ∧ DpAll K H xs ps := by
  cases h with
  | tup hs ha =>
    cases ha with
    | cons h1 t =>
      cases h1
      cases t with
      | cons h2 t2 =>
        cases t2
        cases h2 with
        | tup hs2 ha2 => exact ⟨_, _, _, rfl, hs, hs2, ha2⟩
def newD : PyData → Bool
  | .str z => decide (z = "new")
  | _ => false
def hasNewD (ps : List PyData) : Bool := ps.any newD
theorem row_parts {w : Int} {ps : List PyData} (h : isRowD w (.tuple ps) = true) : ps.all (isPartD w) = true := by
  cases e : ps.all (isPartD w) with
  | true => rfl
  | false => rw [row_part e] at h; cases h
theorem hasNew_cons {d : PyData} {r : List PyData} : hasNewD (d :: r) = (newD d || hasNewD r) := List.any_cons
theorem str_new (x : Str) : eqV (.str x) (.str "new") = newD (.str x) := by
  show (x == ("new" : Str)) = decide (x = "new")
  by_cases e : x = "new"
  · subst e
    rfl
  · rw [decide_eq_false e]
    exact beq_eq_false_iff_ne.mpr e
theorem new_in {K : PySem.W.Frag} {H : Hp} {w : Int} : ∀ {xs : List V} {ps : List PyData}, DpAll K H xs ps → ps.all (isPartD w) = true → xs.all flatV = true ∧ inV (.str "new") xs = hasNewD ps
  | _, _, .nil, _ => ⟨rfl, rfl⟩
  | _, _, .cons h t, e => by
    rw [List.all_cons, Bool.and_eq_true] at e
    obtain ⟨i1, i2⟩ := new_in t e.2
    obtain ⟨e1, _⟩ := e
    unfold inV at i2 ⊢
    cases h <;> first
      | (simp [isPartD] at e1; done)
      | exact ⟨by rw [List.all_cons, i1]; rfl, by rw [List.any_cons, i2, hasNew_cons]; first | rfl | rw [str_new]⟩
section
variable {P : Program} {w : World} {K : PySem.W.Frag} {mg : Str → Option Value} {base : Heap}
def spGrowth (K : PySem.W.Frag) (C B : Addr) : Sp := fun vs H Q E => ∃ p v d M, vs = [.ref p, v] ∧ KindsAt K C H p M ∧ Dp K H v d ∧ (∀ e ∈ M, d = .str e.1 → ∀ w ps, e.2.2 = .tuple [.int w, .tuple ps] → Q (.int ((ps.length : Int) - w)) H) ∧ (findE M d = none → Raises1 H E B "name" v)
theorem ok_Kinds_growth (T : Top K mg) : FnOk P w K mg base (L2.CX P w) 5 T.Kinds_growth.a T.Kinds_growth.d ["self", "name"] (spGrowth K T.cKinds.c T.cBadKinds.c) := by
  refine T.Kinds_growth.f.okX sc_Kinds_growth (fun vs H Q E h => ?_) (fun cdv A outer s H vs Q E hr h => ?_)
  · obtain ⟨p, v, d, M, rfl, _⟩ := h
    rfl
  · obtain ⟨p, v, d, M, rfl, hk, hd, q, r⟩ := h
    refine ⟨_, (pss_cons ((ps_asg ((pe_ownIx (ok_Kinds_getitem T) (hr.mono (by decide)) T.Kinds_getitem.b pX T.Kinds_getitem.i T.Kinds_getitem.g T.kf.fn (pv 0) (pv 1) (fun _ _ => rfl))) (pg_tup rfl (pgs_cons (pg_name (i := 2) sc_Kinds_growth.nd rfl (Or.inl rfl)) (pgs_cons (pg_name (i := 3) sc_Kinds_growth.nd rfl (Or.inl rfl)) pgs_nil))))) (pss_one ((ps_ret ((pe_op (op_sub) ((pe_callB call_len_seq (by rfl) T.bf.len_ PySem.boot_len (pa_cons (pv 3) pa_nil))) (pv 2))))))), ?_⟩
    obtain ⟨dx, D, hp, hD, hg⟩ := id hk
    refine ⟨_, rfl, _, rfl, p, dx, _, rfl, hp, p, v, d, M, rfl, hk, hd, fun x ex => ?_, r⟩
    obtain ⟨e, em, rfl, rfl⟩ := findE_some ex
    obtain ⟨wd, ps, ed, _, _, _⟩ := kind_form (hg e em)
    have dp := hD.ok.dp e em
    rw [ed] at dp
    obtain ⟨a, b, xs, rx, h1, h2, h3⟩ := kind_val dp
    rw [rx]
    refine ⟨a, _, rfl, h1, rfl, _, _, rfl, _, _, rfl, rfl, ?_⟩
    refine ⟨_, rfl, b, _, rfl, .inr h2, _, rfl, _, _, rfl, rfl, ?_⟩
    rw [all_len h3]
    exact q e em rfl wd ps ed
def spNeeds (K : PySem.W.Frag) (C : Addr) : Sp := fun vs H Q _ => ∃ p M e, vs = [.ref p, .str e.1] ∧ KindsAt K C H p M ∧ e ∈ M ∧ ∀ w ps, e.2.2 = .tuple [.int w, .tuple ps] → Q (.bl (hasNewD ps)) H
theorem ok_needs_letter (T : Top K mg) : FnOk P w K mg base (L2.CX P w) 5 T.needs_letter.a T.needs_letter.d ["kinds", "name"] (spNeeds K T.cKinds.c) := by
  refine T.needs_letter.f.okX sc_needs_letter (fun vs H Q E h => ?_) (fun cdv A outer s H vs Q E hr h => ?_)
  · obtain ⟨p, M, e, rfl, _⟩ := h
    rfl
  · obtain ⟨p, M, e, rfl, hk, em, q⟩ := h
    refine ⟨_, (pss_one ((ps_ret ((pe_cmpR (op_in_seq) (pe_str) ((pe_ix (ix_tup) ((pe_ownIx (ok_Kinds_getitem T) (hr.mono (by decide)) T.Kinds_getitem.b pX T.Kinds_getitem.i T.Kinds_getitem.g T.kf.fn (pv 0) (pv 1) (fun _ _ => rfl))) (pe_int) (fun _ _ => rfl))) (by rfl)))))), ?_⟩
    obtain ⟨dx, D, hp, hD, hg⟩ := id hk
    have fe := findE_of hD.ok.nd em
    obtain ⟨wd, ps, ed, _, _, hrow⟩ := kind_form (hg e em)
    have dp := hD.ok.dp e em
    rw [ed] at dp
    obtain ⟨a, b, xs, rx, h1, h2, h3⟩ := kind_val dp
    obtain ⟨f1, f2⟩ := new_in h3 (row_parts hrow)
    refine ⟨_, rfl, _, rfl, p, dx, _, rfl, hp, p, _, .str e.1, M, rfl, hk, .str _, fun x ex => ?_, fun z => by rw [fe] at z; cases z⟩
    rw [fe] at ex
    cases ex
    rw [rx]
    refine ⟨a, _, 1, _, rfl, rfl, h1, rfl, b, xs, rfl, .inr h2, rfl, f1, ?_⟩
    exact qb (q wd ps ed) f2
end
end K41

end

section
set_option Elab.async false
set_option linter.all false
set_option maxRecDepth 100000
set_option maxHeartbeats 4000000
/-! Texts and changes: what they are. -/
namespace K41
open PySem PySem.Spec PyProof.Rows L2 KX
def isTextD : PyData → Bool
  | .tuple ds => ds.all isIntD && decide (nDiff (ds.map keyD) (ds.map keyD).length = ds.length)
  | _ => false
def intV : V → Bool
  | .int _ => true
  | _ => false
theorem int_eq {K : PySem.W.Frag} {H : Hp} {v : V} {d : PyData} (h : Dp K H v d) : intV v = isIntD d := by
  cases h <;> rfl
theorem ints_eq {K : PySem.W.Frag} {H : Hp} : ∀ {xs : List V} {ds : List PyData}, DpAll K H xs ds → xs.map intV = ds.map isIntD
  | _, _, .nil => rfl
  | _, _, .cons h t => by rw [List.map_cons, List.map_cons, int_eq h, ints_eq t]
theorem keys_int {K : PySem.W.Frag} {H : Hp} : ∀ {xs : List V} {ds : List PyData}, DpAll K H xs ds → ds.all isIntD = true → xs = (ds.map keyD).map kV
  | _, _, .nil, _ => rfl
  | _, _, .cons h t, e => by
    rw [List.all_cons, Bool.and_eq_true] at e
    rw [List.map_cons, List.map_cons, ← keys_int t e.2]
    congr 1
    obtain ⟨e1, _⟩ := e
    cases h <;> first | rfl | (simp [isIntD] at e1)
def noneD : PyData → Bool
  | .none => true
  | _ => false
def nonnegD : PyData → Bool
  | .int n => decide (0 ≤ n)
  | _ => false
def entD (M : List Ent) (z : Str) : PyData := match M.find? fun e => decide (e.1 = z) with
  | some e => e.2.2
  | none => .none
def rowD (M : List Ent) (z : Str) : List PyData := match entD M z with
  | .tuple [_, .tuple ps] => ps
  | _ => []
def widthD (M : List Ent) (z : Str) : Int := match entD M z with
  | .tuple [.int w, _] => w
  | _ => 0
theorem entD_of : ∀ {M : List Ent} {e : Ent}, (M.map (·.1)).Nodup → e ∈ M → entD M e.1 = e.2.2
  | [], e, _, m => by simp at m
  | x :: r, e, nd, m => by
    rw [List.map_cons, List.nodup_cons] at nd
    unfold entD
    rcases List.mem_cons.mp m with z | z
    · subst z
      rw [List.find?_cons_of_pos (by simp)]
    · have ne : ¬ x.1 = e.1 := fun z' => nd.1 (z' ▸ List.mem_map_of_mem z)
      rw [List.find?_cons_of_neg (by simpa using ne)]
      exact entD_of nd.2 z
theorem rowD_of {M : List Ent} {e : Ent} {w : Int} {ps : List PyData} (nd : (M.map (·.1)).Nodup) (m : e ∈ M) (h : e.2.2 = .tuple [.int w, .tuple ps]) : rowD M e.1 = ps ∧ widthD M e.1 = w := by
  unfold rowD widthD
  rw [entD_of nd m, h]
  exact ⟨rfl, rfl⟩
def needsD (M : List Ent) : PyData → Bool
  | .str z => hasNewD (rowD M z)
  | _ => false
def isChangeD (M : List Ent) : PyData → Bool
  | .tuple [n, p, l, h] => (findE M n).isSome && (isIntD p && (isIntD h && (nonnegD h && (if needsD M n = true then isIntD l else noneD l))))
  | _ => false
theorem change_len {M : List Ent} {ps : List PyData} (h : ps.length ≠ 4) : isChangeD M (.tuple ps) = false := by
  unfold isChangeD
  split
  · rename_i e
    cases e
    exact absurd rfl h
  · rfl
section
variable {P : Program} {w : World} {K : PySem.W.Frag} {mg : Str → Option Value} {base : Heap}
def spText (K : PySem.W.Frag) : Sp := fun vs H Q _ => ∃ v d, vs = [v] ∧ Dp K H v d ∧ lenD d ≤ 100 ∧ ∀ H', Same H H' → Q (.bl (isTextD d)) H'
theorem ok_is_text (T : Top K mg) : FnOk P w K mg base (L2.CX P w) 2 T.is_text.a T.is_text.d ["text"] (spText K) := by
  refine T.is_text.f.okX sc_is_text (fun vs H Q E h => ?_) (fun cdv A outer s H vs Q E hr h => ?_)
  · obtain ⟨v, d, rfl, _⟩ := h
    rfl
  · obtain ⟨v, d, rfl, hd, sm, q⟩ := h
    refine ⟨_, (pss_one ((ps_ret (pe_and (pe_callB call_isD (by rfl) T.bf.isinstance_ (by decide +kernel) (pa_cons (pv 0) (pa_cons (pe_bltn (v := .ty "tuple") (by rfl) T.bf.tuple_ (by decide +kernel) rfl) pa_nil))) (pe_and (pe_callB (cr_all rfl) (by rfl) T.bf.all_ (by decide +kernel) (pa_cons ((pe_lc (own := [("letter", 1)]) (g := gName 1) (tt := tYes) rfl sc_is_text.nd (pi_tup (pv 0)) (blkOk_by (N := n_is_text) (sc := defScope s_is_text) (by decide +kernel)) (fun _ _ _ _ _ => pg_name (i := 1) sc_is_text.nd rfl (Or.inl rfl)) (fun _ _ _ _ _ => pts_nil) (fun _ _ _ _ _ => (pe_call (ok_is_whole T) (hr.mono (by decide)) (by rfl) T.is_whole.m T.is_whole.f.kp T.is_whole.b .nil passL (pa_cons (pv 1) pa_nil))))) pa_nil)) (pe_one (pe_cmpR (op_eq) ((pe_lenSetK (by rfl) T.bf.len_ (by rfl) T.bf.set_ (pv 0))) ((pe_callB call_len_seq (by rfl) T.bf.len_ PySem.boot_len (pa_cons (pv 0) pa_nil))) (nomark _)))))))), ?_⟩
    refine ⟨v, rfl, v, _, d, _, rfl, hd, isi_tuple d, _, rfl, ?_⟩
    cases hd with
    | non => exact iteF (q H (Same.refl H))
    | bl b => exact iteF (q H (Same.refl H))
    | int n => exact iteF (q H (Same.refl H))
    | str z => exact iteF (q H (Same.refl H))
    | lst a b => exact iteF (q H (Same.refl H))
    | @tup a xs ps hs ha =>
      have hl := all_len ha
      have sm : ps.length ≤ 100 := sm
      refine iteT ⟨_, rfl, a, rfl, ⟨_, hs⟩, fun D hD => lc_mapT (xs := xs) (i := 1) (fun x => .bl (intV x)) (Same.refl H) hs hD (by omega) (fun _ => rfl) (fun x hx H1 s1 Q1 q1 => ?_) fun H1 s1 hD1 => ?_⟩
      · obtain ⟨dx, _, hdx⟩ := all_get ha x hx
        refine ⟨_, rfl, x, dx, rfl, dp_same s1 hdx, ?_⟩
        rw [← int_eq hdx]
        exact q1 H1 (Same.refl H1)
      · refine ⟨D, ps.map isIntD, rfl, SqL.of (by rw [hD1, ← ints_eq ha, List.map_map]; rfl), _, rfl, ?_⟩
        have hs1 := sqT_same s1 hs
        have eall : (ps.map isIntD).all id = ps.all isIntD := by
          rw [List.all_map]
          rfl
        rw [eall]
        have fin : isTextD (.tuple ps) = (ps.all isIntD && decide (nDiff (ps.map keyD) (ps.map keyD).length = ps.length)) := rfl
        refine ite2 (fun c => ?_) (fun c => ?_)
        · have ek := keys_int ha c
          refine ⟨_, rfl, a, ps.map keyD, rfl, by rw [← ek]; exact hs1, by rw [List.length_map]; omega, _, rfl, a, xs, rfl, .inr hs1, rfl, ?_⟩
          refine qb (q H1 s1) ?_
          rw [fin, c, Bool.true_and, hl]
          by_cases z : nDiff (ps.map keyD) (ps.map keyD).length = ps.length
          · rw [z]
            simp
          · rw [decide_eq_false z]
            refine decide_eq_false fun z' => z ?_
            simp only [List.length_map] at z' ⊢
            simp at z'
            omega
        · have c : ps.all isIntD = false := by simpa using c
          exact qb (q H1 s1) (by rw [fin, c, Bool.false_and])
def spCheckText (K : PySem.W.Frag) (C : Addr) : Sp := fun vs H Q E => ∃ v d, vs = [v] ∧ Dp K H v d ∧ lenD d ≤ 100 ∧ ∀ H', Same H H' → if isTextD d = true then Q .non H' else E (.ref C) none H'
theorem ok_check_text (T : Top K mg) : FnOk P w K mg base (L2.CX P w) 3 T.check_text.a T.check_text.d ["text"] (spCheckText K T.cBadText.c) := by
  refine T.check_text.f.okX sc_check_text (fun vs H Q E h => ?_) (fun cdv A outer s H vs Q E hr h => ?_)
  · obtain ⟨v, d, rfl, _⟩ := h
    rfl
  · obtain ⟨v, d, rfl, hd, sm, q⟩ := h
    refine ⟨_, (pss_one ((ps_if (pt_not (pt_val ((pe_call (ok_is_text T) (hr.mono (by decide)) (by rfl) T.is_text.m T.is_text.f.kp T.is_text.b .nil pX (pa_cons (pv 0) pa_nil))))) ((pss_one (ps_raise rfl (takes_of rfl rfl rfl rfl) (pmk_own PySem.F.excBase_ValueError T.yBadText T.cBadText.m T.cBadText.k (raises_own T.eBadText.e.ex T.eBadText.t) rfl)))) (pss_nil)))), ?_⟩
    refine ⟨_, rfl, v, d, rfl, hd, sm, fun H1 s1 => ⟨_, rfl, ?_⟩⟩
    have q1 := q H1 s1
    cases e : isTextD d with
    | true =>
      rw [e, if_pos rfl] at q1
      exact iteF q1
    | false =>
      rw [e, if_neg (by simp)] at q1
      exact iteT q1
def spChange (K : PySem.W.Frag) (C : Addr) : Sp := fun vs H Q _ => ∃ p v d M, vs = [.ref p, v] ∧ KindsAt K C H p M ∧ Dp K H v d ∧ Q (.bl (isChangeD M d)) H
theorem ok_is_change (T : Top K mg) : FnOk P w K mg base (L2.CX P w) 6 T.is_change.a T.is_change.d ["kinds", "change"] (spChange K T.cKinds.c) := by
  refine T.is_change.f.okX sc_is_change (fun vs H Q E h => ?_) (fun cdv A outer s H vs Q E hr h => ?_)
  · obtain ⟨p, v, d, M, rfl, _⟩ := h
    rfl
  · obtain ⟨p, v, d, M, rfl, hk, hd, q⟩ := h
    refine ⟨_, (pss_cons ((ps_if (pt_not (PW.pt (pw_and (pt_val ((pe_callB call_isD (by rfl) T.bf.isinstance_ (by decide +kernel) (pa_cons (pv 1) (pa_cons (pe_bltn (v := .ty "tuple") (by rfl) T.bf.tuple_ (by decide +kernel) rfl) pa_nil))))) (pw_and1 (pt_cmpR (op_eq) ((pe_callB call_len_seq (by rfl) T.bf.len_ PySem.boot_len (pa_cons (pv 1) pa_nil))) (pe_int) (nomark _)))))) ((pss_one ((ps_ret (pe_bl))))) (pss_nil))) (pss_cons ((ps_asg (pv 1) (pg_tup rfl (pgs_cons (pg_name (i := 2) sc_is_change.nd rfl (Or.inl rfl)) (pgs_cons (pg_name (i := 3) sc_is_change.nd rfl (Or.inl rfl)) (pgs_cons (pg_name (i := 4) sc_is_change.nd rfl (Or.inl rfl)) (pgs_cons (pg_name (i := 5) sc_is_change.nd rfl (Or.inl rfl)) pgs_nil))))))) (pss_cons ((ps_if (pt_not (PW.pt (pw_and (pt_cmpR (op_ownIn (ok_Kinds_contains T) (hr.mono (by decide)) T.Kinds_contains.b pX T.Kinds_contains.i T.Kinds_contains.g) (pv 2) (pv 0) (by rfl)) (pw_and (pt_val ((pe_call (ok_is_whole T) (hr.mono (by decide)) (by rfl) T.is_whole.m T.is_whole.f.kp T.is_whole.b .nil pX (pa_cons (pv 3) pa_nil)))) (pw_and (pt_val ((pe_call (ok_is_whole T) (hr.mono (by decide)) (by rfl) T.is_whole.m T.is_whole.f.kp T.is_whole.b .nil pX (pa_cons (pv 5) pa_nil)))) (pw_and1 (pt_cmpR (op_ge) (pv 5) (pe_int) (nomark _)))))))) ((pss_one ((ps_ret (pe_bl))))) (pss_nil))) (pss_cons ((ps_if ((pt_val ((pe_call (ok_needs_letter T) (hr.mono (by decide)) (by rfl) T.needs_letter.m T.needs_letter.f.kp T.needs_letter.b .nil pX (pa_cons (pv 0) (pa_cons (pv 2) pa_nil)))))) ((pss_one ((ps_ret ((pe_call (ok_is_whole T) (hr.mono (by decide)) (by rfl) T.is_whole.m T.is_whole.f.kp T.is_whole.b .nil pX (pa_cons (pv 4) pa_nil))))))) (pss_nil))) (pss_one ((ps_ret ((pe_cmpR (op_isN) (pv 4) (pe_non) (nomark _)))))))))), ?_⟩
    refine ⟨v, rfl, v, _, d, _, rfl, hd, isi_tuple d, _, rfl, ?_⟩
    cases hd with
    | non => exact iteF (iteT q)
    | bl b => exact iteF (iteT q)
    | int n => exact iteF (iteT q)
    | str z => exact iteF (iteT q)
    | lst a b => exact iteF (iteT q)
    | @tup a xs ps hs ha =>
      refine iteT ⟨_, rfl, a, xs, rfl, .inr hs, rfl, _, rfl, ?_⟩
      have hl := all_len ha
      match ps, ha, q, hl with
      | [], .nil, q, hl => exact iteT (qb q (change_len (by simp)).symm)
      | [_], .cons _ .nil, q, hl => exact iteT (qb q (change_len (by simp)).symm)
      | [_, _], .cons _ (.cons _ .nil), q, hl => exact iteT (qb q (change_len (by simp)).symm)
      | [_, _, _], .cons _ (.cons _ (.cons _ .nil)), q, hl => exact iteT (qb q (change_len (by simp)).symm)
      | _ :: _ :: _ :: _ :: _ :: _, .cons _ (.cons _ (.cons _ (.cons _ (.cons _ _)))), q, hl =>
        refine ite2 (fun _ => qb q (change_len (by simp)).symm) fun c => ?_
        refine absurd ?_ c
        simp only [List.length_cons]
        simp
        omega
      | [n, p', l, h'], .cons (v := xn) hn (.cons (v := xp) hp' (.cons (v := xl) hl' (.cons (v := xh) hh .nil))), q, hl =>
        obtain ⟨dx, D, hp, hD, hg⟩ := id hk
        refine iteF ⟨_, rfl, a, _, rfl, hs, rfl, _, _, rfl, _, _, rfl, _, _, rfl, _, _, rfl, rfl, ?_⟩
        have fin : isChangeD M (.tuple [n, p', l, h']) = ((findE M n).isSome && (isIntD p' && (isIntD h' && (nonnegD h' && (if needsD M n = true then isIntD l else noneD l))))) := rfl
        refine ⟨_, rfl, _, rfl, p, dx, _, rfl, hp, p, xn, n, M, rfl, hk, hn, _, rfl, _, rfl, ?_⟩
        refine ite2 (fun c1 => ?_) (fun c1 => ?_)
        · have c1 : (findE M n).isSome = true := by simpa using c1
          refine ⟨_, rfl, xp, p', rfl, hp', _, rfl, ?_⟩
          refine ite2 (fun c2 => ?_) (fun c2 => ?_)
          · refine ⟨_, rfl, xh, h', rfl, hh, _, rfl, ?_⟩
            refine ite2 (fun c3 => ?_) (fun c3 => ?_)
            · cases hh with
              | int m =>
                refine ⟨_, rfl, _, _, rfl, rfl, _, rfl, ?_⟩
                refine ite2 (fun c4 => ?_) (fun c4 => ?_)
                · have hm : decide (0 ≤ m) = false := by simpa using c4
                  refine qb q ?_
                  have : nonnegD (.int m) = false := hm
                  rw [fin, this]
                  simp
                · have hm : 0 ≤ m := by simpa using c4
                  obtain ⟨x, hx⟩ := Option.isSome_iff_exists.mp c1
                  obtain ⟨e, em, rfl, rfl⟩ := findE_some hx
                  cases hn
                  obtain ⟨wd, ps, ed, _, _, _⟩ := kind_form (hg e em)
                  have hrow := (rowD_of hD.ok.nd em ed).1
                  have nn : needsD M (.str e.1) = hasNewD ps := by
                    show hasNewD (rowD M e.1) = _
                    rw [hrow]
                  refine ⟨_, rfl, _, rfl, p, M, e, rfl, hk, em, fun w' ps' ed' => ?_⟩
                  rw [ed] at ed'
                  cases ed'
                  refine ⟨_, rfl, ?_⟩
                  have fin2 : isChangeD M (.tuple [.str e.1, p', l, .int m]) = (if hasNewD ps = true then isIntD l else noneD l) := by
                    rw [fin, c1, c2, nn]
                    have : nonnegD (.int m) = true := decide_eq_true hm
                    rw [this]
                    rfl
                  refine ite2 (fun c5 => ?_) (fun c5 => ?_)
                  · refine ⟨_, rfl, xl, l, rfl, hl', qb q ?_⟩
                    rw [fin2, if_pos c5]
                  · refine ⟨_, rfl, rfl, qb q ?_⟩
                    rw [fin2, if_neg c5]
                    cases hl' <;> rfl
              | non => exact absurd c3 (by simp [isIntD])
              | bl b => exact absurd c3 (by simp [isIntD])
              | str z => exact absurd c3 (by simp [isIntD])
              | lst a b => exact absurd c3 (by simp [isIntD])
              | tup a b => exact absurd c3 (by simp [isIntD])
            · have c3 : isIntD h' = false := by simpa using c3
              exact iteT (qb q (by rw [fin, c3]; simp))
          · have c2 : isIntD p' = false := by simpa using c2
            exact iteT (qb q (by rw [fin, c2]; simp))
        · have c1 : (findE M n).isSome = false := by simpa using c1
          exact iteT (qb q (by rw [fin, c1]; simp))
end
end K41

end

section
set_option Elab.async false
set_option linter.all false
set_option maxRecDepth 100000
set_option maxHeartbeats 4000000
/-! Lists of changes. -/
namespace K41
open PySem PySem.Spec PyProof.Rows L2 KX
theorem seq_val {K : PySem.W.Frag} {H : Hp} {v : V} {d : PyData} {ds : List PyData} (h : Dp K H v d) (e : d = .list ds ∨ d = .tuple ds) : ∃ a xs, v = .ref a ∧ (SqL K H a xs ∨ SqT K H a xs) ∧ DpAll K H xs ds := by
  rcases e with rfl | rfl
  · cases h with
    | lst h a => exact ⟨_, _, rfl, .inl h, a⟩
  · cases h with
    | tup h a => exact ⟨_, _, rfl, .inr h, a⟩
def okC (M : List Ent) (d : PyData) : Bool := noneD d || isChangeD M d
def badC (M : List Ent) : Nat → List PyData → Option Nat
  | _, [] => none
  | i, d :: r => if okC M d = true then badC M (i + 1) r else some i
theorem badC_ok {M : List Ent} {i : Nat} {d : PyData} {r : List PyData} (h : okC M d = true) : badC M i (d :: r) = badC M (i + 1) r := by
  show (if _ then _ else _) = _
  rw [if_pos h]
theorem badC_no {M : List Ent} {i : Nat} {d : PyData} {r : List PyData} (h : okC M d = false) : badC M i (d :: r) = some i := by
  show (if _ then _ else _) = _
  rw [h]
  rfl
theorem drop_ix {α : Type} {l : List α} {i : Nat} {x : α} (h : l[i]? = some x) : l.drop i = x :: l.drop (i + 1) := by
  have hi := (List.getElem?_eq_some_iff.mp h).1
  rw [List.drop_eq_getElem_cons hi]
  congr 1
  exact (List.getElem?_eq_some_iff.mp h).2
theorem any_seq {K : PySem.W.Frag} {t : String} {b1 b2 : Bool} (h1 : kitB t "list" = some b1) (h2 : kitB t "tuple" = some b2) : PySem.W.kitAny K (.type t) [.type "list", .type "tuple"] = some (b1 || b2) := by
  show (match PySem.W.kitOne K (.type t) (.type "list") with | some true => some true | some false => PySem.W.kitAny K (.type t) [.type "tuple"] | none => none) = _
  rw [kit_ty h1]
  cases b1 with
  | true => rfl
  | false =>
    show (match PySem.W.kitOne K (.type t) (.type "tuple") with | some true => some true | some false => PySem.W.kitAny K (.type t) [] | none => none) = _
    rw [kit_ty h2]
    cases b2 <;> rfl
section
variable {P : Program} {w : World} {K : PySem.W.Frag} {mg : Str → Option Value} {base : Heap}
def NoSeq (H : Hp) (v : V) : Prop := (∃ n, v = .int n) ∨ ∃ a kvs, v = .ref a ∧ H a = some (.dK kvs)
theorem NoSeq.ty {K : PySem.W.Frag} {H : Hp} {v : V} (h : NoSeq H v) : ∃ t, TyX K H v (.type t) ∧ PySem.W.kitAny K (.type t) [.type "list", .type "tuple"] = some false := by
  rcases h with ⟨n, rfl⟩ | ⟨a, kvs, rfl, ha⟩
  · exact ⟨_, .base (.int n), any_seq (b1 := false) (b2 := false) (by decide +kernel) (by decide +kernel)⟩
  · exact ⟨_, .base (.dK ha), any_seq (b1 := false) (b2 := false) (by decide +kernel) (by decide +kernel)⟩
theorem NoSeq.same {H H' : Hp} {v : V} (h : NoSeq H v) (s : Same H H') : NoSeq H' v := by
  rcases h with h | ⟨a, kvs, h1, h2⟩
  · exact .inl h
  · exact .inr ⟨a, kvs, h1, s _ _ h2⟩
theorem seq_ty {K : PySem.W.Frag} {H : Hp} {a : Addr} {xs : List V} (h : SqL K H a xs ∨ SqT K H a xs) : ∃ t, TyX K H (.ref a) (.type t) ∧ PySem.W.kitAny K (.type t) [.type "list", .type "tuple"] = some true := by
  rcases h with h | h
  · exact ⟨_, sqL_ty h, any_seq (b1 := true) (b2 := false) (by decide +kernel) (by decide +kernel)⟩
  · exact ⟨_, sqT_ty h, any_seq (b1 := false) (b2 := true) (by decide +kernel) (by decide +kernel)⟩
theorem seq_same {K : PySem.W.Frag} {H H' : Hp} {a : Addr} {xs : List V} (s : Same H H') (h : SqL K H a xs ∨ SqT K H a xs) : SqL K H' a xs ∨ SqT K H' a xs := h.elim (fun h => .inl (s.seq h)) fun h => .inr (sqT_same s h)
theorem dpAll_same {K : PySem.W.Frag} {H H' : Hp} {xs : List V} {ds : List PyData} (s : Same H H') (h : DpAll K H xs ds) : DpAll K H' xs ds := dpAll_ext s h
theorem all_at : ∀ {K : PySem.W.Frag} {H : Hp} {xs : List V} {ds : List PyData}, DpAll K H xs ds → ∀ (i : Nat) (x : V), xs[i]? = some x → ∃ d, ds[i]? = some d ∧ Dp K H x d
  | _, _, _, _, .nil, i, x, h => by simp at h
  | _, _, _, _, .cons h t, 0, x, hx => by
    simp at hx
    subst hx
    exact ⟨_, rfl, h⟩
  | _, _, _, _, .cons h t, i + 1, x, hx => by
    obtain ⟨d, h1, h2⟩ := all_at t i x (by simpa using hx)
    exact ⟨d, by simpa using h1, h2⟩
theorem none_eq {K : PySem.W.Frag} {H : Hp} {v : V} {d : PyData} (h : Dp K H v d) : decide (v = V.non) = noneD d := by
  cases h <;> rfl
def SeqD (K : PySem.W.Frag) (H : Hp) (v : V) (ds : List PyData) : Prop := ∃ d, Dp K H v d ∧ (d = .list ds ∨ d = .tuple ds)
theorem SeqD.same {H H' : Hp} {v : V} {ds : List PyData} (h : SeqD K H v ds) (s : Same H H') : SeqD K H' v ds := let ⟨d, h1, h2⟩ := h; ⟨d, dp_same s h1, h2⟩
def spCheckChanges (K : PySem.W.Frag) (C B : Addr) : Sp := fun vs H Q E => ∃ p v M, vs = [.ref p, v] ∧ KindsAt K C H p M ∧ ((NoSeq H v ∧ Raises1 H E B "place" .non) ∨
  ∃ ds, SeqD K H v ds ∧ match badC M 0 ds with
    | some i => Raises1 H E B "place" (.int (i : Nat))
    | none => ∀ H', Same H H' → Q .non H')
theorem ok_check_changes (T : Top K mg) : FnOk P w K mg base (L2.CX P w) 7 T.check_changes.a T.check_changes.d ["kinds", "changes"] (spCheckChanges K T.cKinds.c T.cBadChange.c) := by
  refine T.check_changes.f.okX sc_check_changes (fun vs H Q E h => ?_) (fun cdv A outer s H vs Q E hr h => ?_)
  · obtain ⟨p, v, M, rfl, _⟩ := h
    rfl
  · obtain ⟨p, v, M, rfl, hk, h⟩ := h
    refine ⟨_, (pss_cons ((ps_if (pt_not (pt_val ((pe_callB call_isiT (by rfl) T.bf.isinstance_ (by decide +kernel) (pa_cons (pv 1) (pa_cons (pe_tup (pa_cons (pe_bltn (v := .ty "list") (by rfl) T.bf.list_ (by decide +kernel) rfl) (pa_cons (pe_bltn (v := .ty "tuple") (by rfl) T.bf.tuple_ (by decide +kernel) rfl) pa_nil))) pa_nil)))))) ((pss_one ((ps_raise rfl (takes_of rfl rfl rfl rfl) (pmk_oex T.oBadChange T.BadChange_init.i (fnTy T.BadChange_init.g) (ok_BadChange_init T) (hr.mono (by decide)) T.BadChange_init.b .nil pF (by rfl) T.cBadChange.m (pa_cons (pe_non) pa_nil)))))) (pss_nil))) (pss_one ((ps_for pO rfl (pi_enumT (by rfl) T.bf.enumerate_ (pa_cons (pv 1) pa_nil)) (pg_tup rfl (pgs_cons (pg_name (i := 2) sc_check_changes.nd rfl (Or.inl rfl)) (pgs_cons (pg_name (i := 3) sc_check_changes.nd rfl (Or.inl rfl)) pgs_nil))) ((pss_one ((ps_if (PW.pt (pw_and (pt_cmpR (op_notN) (pv 3) (pe_non) (nomark _)) (pw_and1 (pt_not (pt_val ((pe_call (ok_is_change T) (hr.mono (by decide)) (by rfl) T.is_change.m T.is_change.f.kp T.is_change.b .nil pX (pa_cons (pv 0) (pa_cons (pv 3) pa_nil))))))))) ((pss_one ((ps_raise rfl (takes_of rfl rfl rfl rfl) (pmk_oex T.oBadChange T.BadChange_init.i (fnTy T.BadChange_init.g) (ok_BadChange_init T) (hr.mono (by decide)) T.BadChange_init.b .nil pF (by rfl) T.cBadChange.m (pa_cons (pv 2) pa_nil)))))) (pss_nil))))))))), ?_⟩
    have cls : Paired ClsV [V.ty "list", .ty "tuple"] [Value.type "list", .type "tuple"] := .cons (.ty _) (.cons (.ty _) .nil)
    refine ⟨_, rfl, by show 2 ≤ sizeLine; decide, fun tp htp => ?_⟩
    have s1 : Same H (upd H tp (.tup [.ty "list", .ty "tuple"])) := same_upd (Same.refl H) htp
    rcases h with ⟨hno, hR⟩ | ⟨ds, hs, hm⟩
    · obtain ⟨t, ht, kb⟩ := (hno.same s1).ty (K := K)
      exact ⟨v, tp, _, _, _, false, rfl, upd_same, cls, ht, kb, _, rfl, iteT (mk_low (hR.same s1))⟩
    · obtain ⟨d, hd, ed⟩ := hs.same s1
      obtain ⟨a, xs, rfl, hsq, ha⟩ := seq_val hd ed
      have hl := all_len ha
      obtain ⟨t, ht, kb⟩ := seq_ty hsq
      generalize hH2 : upd H tp (.tup [.ty "list", .ty "tuple"]) = H2 at s1 hd hsq ha ht
      have htp2 : H2 tp = some (.tup [.ty "list", .ty "tuple"]) := by rw [← hH2, upd_same]
      refine ⟨_, tp, _, _, _, true, rfl, htp2, cls, ht, kb, _, rfl, iteF ?_⟩
      refine ⟨_, rfl, a, xs, rfl, hsq, fun J G wk hG => for_it wk (fun i σ H3 => (∃ x2 x3, σ = [some (.ref p), some (.ref a), x2, x3]) ∧ Same H2 H3 ∧ badC M 0 ds = badC M i (ds.drop i)) ⟨⟨_, _, rfl⟩, Same.refl H2, rfl⟩
        (fun i σ H3 _ q => hG H3 q.2.1) ?turn ?after⟩
      case turn =>
        rintro i x σ H3 H3' hi ⟨⟨x2, x3, rfl⟩, s3, hf⟩ ⟨Tp, y0, y1, rfl, hT, rfl, e0, e1⟩
        cases e0
        have s4 : Same H3 (upd H3 Tp (.tup [.int (i : Nat), y1])) := same_upd (Same.refl H3) hT
        refine ⟨Tp, _, rfl, SqT.of upd_same, rfl, _, _, rfl, _, _, rfl, rfl, ?_⟩
        generalize upd H3 Tp (.tup [.int (i : Nat), y1]) = H4 at s4 ⊢
        have s24 := s3.trans s4
        have s04 := s1.trans s24
        obtain ⟨di, hdi, hy⟩ := all_at (dpAll_same s24 ha) i y1 e1
        have hcons := drop_ix hdi
        rw [hcons] at hf
        have ne := none_eq hy
        refine ⟨_, rfl, rfl, _, rfl, ?_⟩
        rw [ne]
        have bad : okC M di = false → Raises1 H4 E T.cBadChange.c "place" (.int (i : Nat)) := fun h => by
          have fb := hf.trans (badC_no h)
          rw [fb] at hm
          exact hm.same s04
        have good : okC M di = true → badC M 0 ds = badC M (i + 1) (ds.drop (i + 1)) := fun h => hf.trans (badC_ok h)
        cases e : noneD di with
        | true => exact iteF ⟨⟨_, _, rfl⟩, s24, good (by unfold okC; rw [e]; rfl)⟩
        | false =>
          refine iteT ⟨_, rfl, _, rfl, p, y1, di, M, rfl, hk.same s04, hy, _, rfl, ?_⟩
          cases e2 : isChangeD M di with
          | true => exact iteF ⟨⟨_, _, rfl⟩, s24, good (by unfold okC; rw [e, e2]; rfl)⟩
          | false => exact iteT ⟨_, rfl, mk_low (bad (by unfold okC; rw [e, e2]; rfl))⟩
      case after =>
        rintro σ H3 ⟨⟨x2, x3, rfl⟩, s3, hf⟩
        have fb : badC M 0 ds = none := by
          rw [hf, hl, List.drop_length]
          rfl
        rw [fb] at hm
        exact hm H3 (s1.trans s3)
end
end K41

end

section
set_option Elab.async false
set_option linter.all false
set_option maxRecDepth 100000
set_option maxHeartbeats 4000000
/-! A change is done. -/
namespace K41
open PySem PySem.Spec PyProof.Rows L2 KX
/-- a text of whole numbers -/
def TextAt (K : PySem.W.Frag) (H : Hp) (v : V) (t : List Int) : Prop := ∃ a, v = .ref a ∧ SqT K H a (t.map V.int)
theorem TextAt.same {K : PySem.W.Frag} {H H' : Hp} {v : V} {t : List Int} (h : TextAt K H v t) (s : Same H H') : TextAt K H' v t := let ⟨a, h1, h2⟩ := h; ⟨a, h1, sqT_same s h2⟩
theorem ints_all {K : PySem.W.Frag} {H : Hp} : ∀ t : List Int, DpAll K H (t.map V.int) (t.map PyData.int)
  | [] => .nil
  | n :: r => .cons (.int n) (ints_all r)
theorem TextAt.dp {K : PySem.W.Frag} {H : Hp} {v : V} {t : List Int} (h : TextAt K H v t) : Dp K H v (.tuple (t.map .int)) := by
  obtain ⟨a, rfl, h⟩ := h
  exact .tup h (ints_all t)
def memD : PyData → List Int → Bool
  | .int n, t => decide (n ∈ t)
  | _, _ => false
def canD (w : Int) (t : List Int) (p : Int) (l : PyData) : Bool := decide (0 ≤ p) && (decide (p ≤ (t.length : Int) - w) && !memD l t)
def partVal (t : List Int) (p : Int) (l : PyData) : PyData → Int
  | .str _ => match l with
    | .int n => n
    | _ => 0
  | .int k => (t[(p + k).toNat]?).getD 0
  | _ => 0
def behindD (t : List Int) (ps : List PyData) (w p : Int) (l : PyData) : List Int := t.take p.toNat ++ (ps.map (partVal t p l) ++ t.drop (p + w).toNat)
theorem in_text : ∀ {x : V} {l : PyData} (t : List Int), (x = .non ∧ l = .none ∨ ∃ n, x = .int n ∧ l = .int n) → inV x (t.map V.int) = memD l t := fun {x l} t h => by
  unfold inV
  rcases h with ⟨rfl, rfl⟩ | ⟨n, rfl, rfl⟩
  · show _ = false
    rw [List.any_map]
    exact List.any_eq_false.mpr fun y _ => by simp [eqV]
  · show _ = decide (n ∈ t)
    rw [List.any_map]
    by_cases e : n ∈ t
    · rw [decide_eq_true e]
      exact List.any_eq_true.mpr ⟨n, e, by simp [eqV]⟩
    · rw [decide_eq_false e]
      exact List.any_eq_false.mpr fun y hy => by
        intro z
        have z : (y == n) = true := z
        rw [beq_iff_eq] at z
        exact e (z ▸ hy)
theorem flat_ints : ∀ t : List Int, (t.map V.int).all flatV = true
  | [] => rfl
  | n :: r => by rw [List.map_cons, List.all_cons, flat_ints r]; rfl
section
variable {P : Program} {w : World} {K : PySem.W.Frag} {mg : Str → Option Value} {base : Heap}
/-- a change of the entry e, done or not -/
structure ChangeAt (K : PySem.W.Frag) (H : Hp) (v : V) (z : Str) (p : Int) (l : PyData) (h : V) : Prop where
  here : ∃ a x, v = .ref a ∧ SqT K H a [.str z, .int p, x, h] ∧ (x = .non ∧ l = .none ∨ ∃ n, x = .int n ∧ l = .int n)
theorem ChangeAt.same {H H' : Hp} {v : V} {z : Str} {p : Int} {l : PyData} {h : V} (c : ChangeAt K H v z p l h) (s : Same H H') : ChangeAt K H' v z p l h := let ⟨a, x, h1, h2, h3⟩ := c.here; ⟨a, x, h1, sqT_same s h2, h3⟩
def spCan (K : PySem.W.Frag) (C : Addr) : Sp := fun vs H Q _ => ∃ p v vc M t e pl l h wd ps, vs = [.ref p, v, vc] ∧ KindsAt K C H p M ∧ TextAt K H v t ∧ e ∈ M ∧ e.2.2 = .tuple [.int wd, .tuple ps] ∧ ChangeAt K H vc e.1 pl l h ∧ Q (.bl (canD wd t pl l)) H
theorem ok_can_do (T : Top K mg) : FnOk P w K mg base (L2.CX P w) 5 T.can_do.a T.can_do.d ["kinds", "text", "change"] (spCan K T.cKinds.c) := by
  refine T.can_do.f.okX sc_can_do (fun vs H Q E h => ?_) (fun cdv A outer s H vs Q E hr h => ?_)
  · obtain ⟨p, v, vc, _, _, _, _, _, _, _, _, rfl, _⟩ := h
    rfl
  · obtain ⟨p, v, vc, M, t, e, pl, l, h, wd, ps, rfl, hk, ⟨b, rfl, hb⟩, em, ed, ⟨a, x, rfl, hc, hx⟩, q⟩ := h
    refine ⟨_, (pss_cons ((ps_asg (pv 2) (pg_tup rfl (pgs_cons (pg_name (i := 3) sc_can_do.nd rfl (Or.inl rfl)) (pgs_cons (pg_name (i := 4) sc_can_do.nd rfl (Or.inl rfl)) (pgs_cons (pg_name (i := 5) sc_can_do.nd rfl (Or.inl rfl)) (pgs_cons (pg_name (i := 6) sc_can_do.nd rfl (Or.inl rfl)) pgs_nil))))))) (pss_one ((ps_ret (pe_and (pe_chain op_le op_le pe_int (pv 4) (pe_op (op_sub) ((pe_callB call_len_seq (by rfl) T.bf.len_ PySem.boot_len (pa_cons (pv 1) pa_nil))) ((pe_ix (ix_tup) ((pe_ownIx (ok_Kinds_getitem T) (hr.mono (by decide)) T.Kinds_getitem.b pX T.Kinds_getitem.i T.Kinds_getitem.g T.kf.fn (pv 0) (pv 3) (fun _ _ => rfl))) (pe_int) (fun _ _ => rfl))))) (pe_one (pe_cmpR (op_notIn_seq) (pv 5) (pv 1) (by rfl)))))))), ?_⟩
    obtain ⟨dx, D, hp, hD, hg⟩ := id hk
    have fe := findE_of hD.ok.nd em
    have dp := hD.ok.dp e em
    rw [ed] at dp
    obtain ⟨ka, kb, xs, rx, h1, h2, h3⟩ := kind_val dp
    refine ⟨_, rfl, a, _, rfl, hc, rfl, _, _, rfl, _, _, rfl, _, _, rfl, _, _, rfl, rfl, ?_⟩
    refine ⟨_, rfl, _, _, rfl, rfl, _, rfl, ?_⟩
    have fin : canD wd t pl l = (decide (0 ≤ pl) && (decide (pl ≤ (t.length : Int) - wd) && !memD l t)) := rfl
    refine ite2 (fun c1 => ?_) (fun c1 => ?_)
    · refine ⟨_, rfl, b, _, rfl, .inr hb, ?_⟩
      refine ⟨_, rfl, _, rfl, p, dx, _, rfl, hp, p, _, .str e.1, M, rfl, hk, .str _, fun y ey => ?_, fun z => by rw [fe] at z; cases z⟩
      rw [fe] at ey
      cases ey
      rw [rx]
      refine ⟨ka, _, 0, _, rfl, rfl, h1, rfl, _, _, rfl, rfl, _, _, rfl, rfl, _, rfl, ?_⟩
      rw [List.length_map]
      refine ite2 (fun c2 => ?_) (fun c2 => ?_)
      · have fx : flatV x = true := by
          rcases hx with ⟨rfl, _⟩ | ⟨n, rfl, _⟩ <;> rfl
        refine ⟨_, rfl, _, rfl, b, _, rfl, .inr hb, fx, flat_ints t, ?_⟩
        refine qb q ?_
        rw [fin, c1, c2, if_pos rfl, in_text t hx]
        rfl
      · have c2 : decide (pl ≤ (t.length : Int) - wd) = false := by simpa using c2
        exact qb q (by rw [fin, c2]; simp)
    · have c1 : decide (0 ≤ pl) = false := by simpa using c1
      exact ⟨_, rfl, iteF (qb q (by rw [fin, c1]; simp))⟩
end
end K41

end

section
set_option Elab.async false
set_option linter.all false
set_option maxRecDepth 100000
set_option maxHeartbeats 4000000
/-! The text behind a change. -/
namespace K41
open PySem PySem.Spec PyProof.Rows L2 KX
theorem slA_of {K : PySem.W.Frag} {H : Hp} {a : Addr} {xs : List V} {lo hi : Option Int} {Q : VK} (h : SqT K H a xs) (q : ∀ b H', Same H H' → SqT K H' b (cutV xs lo hi) → Q (.ref b) H') : rSlA K (.ref a) lo hi H Q := by
  refine ⟨a, xs, rfl, h, fun ⟨h1, h2⟩ => q a H (Same.refl H) ?_, fun _ p hp => q p _ (same_upd (Same.refl H) hp) (SqT.of upd_same)⟩
  have e : cutV xs lo hi = xs := by
    unfold cutV
    rw [h1, h2]
    simp
  rw [e]
  exact h
theorem cut_drop {xs : List V} {i : Nat} : cutV xs (some (i : Nat)) none = xs.drop i := by
  unfold cutV
  rw [HT.sIx_none, HT.sIx_nat]
  by_cases h : i ≤ xs.length
  · rw [Nat.min_eq_left h, List.take_of_length_le (by rw [List.length_drop]; omega)]
  · rw [Nat.min_eq_right (by omega), List.drop_length, List.drop_eq_nil_of_le (by omega)]
    simp
def putV (t : List Int) (pl : Int) (x : V) : V → V
  | .str _ => x
  | .int k => .int ((t[(pl + k).toNat]?).getD 0)
  | _ => .non
theorem put_eq {K : PySem.W.Frag} {H : Hp} {wd pl : Int} {t : List Int} {x : V} {l : PyData} : ∀ {xs : List V} {ps : List PyData}, DpAll K H xs ps → ps.all (isPartD wd) = true → (hasNewD ps = true → ∃ n, x = .int n ∧ l = .int n) → xs.map (putV t pl x) = (ps.map (partVal t pl l)).map V.int
  | _, _, .nil, _, _ => rfl
  | _, _, .cons h tl, e, g => by
    rw [List.all_cons, Bool.and_eq_true] at e
    have ih := put_eq (t := t) (pl := pl) tl e.2 fun z => g (by rw [hasNew_cons, z, Bool.or_true])
    rw [List.map_cons, List.map_cons, List.map_cons, ih]
    congr 1
    obtain ⟨e1, _⟩ := e
    cases h with
    | str z =>
      have en : newD (.str z) = true := e1
      obtain ⟨n, rfl, rfl⟩ := g (by rw [hasNew_cons, en]; rfl)
      rfl
    | int k => rfl
    | non => simp [isPartD] at e1
    | bl b => simp [isPartD] at e1
    | lst a b => simp [isPartD] at e1
    | tup a b => simp [isPartD] at e1
section
variable {P : Program} {w : World} {K : PySem.W.Frag} {mg : Str → Option Value} {base : Heap}
def spBehind (K : PySem.W.Frag) (C : Addr) : Sp := fun vs H Q _ => ∃ p v vc M t e pl l h wd ps, vs = [.ref p, v, vc] ∧ KindsAt K C H p M ∧ TextAt K H v t ∧ e ∈ M ∧ e.2.2 = .tuple [.int wd, .tuple ps] ∧ ChangeAt K H vc e.1 pl l h ∧ t.length ≤ 700 ∧ 0 ≤ pl ∧ pl ≤ (t.length : Int) - wd ∧
  (hasNewD ps = true → isIntD l = true) ∧ ∀ b H', Same H H' → TextAt K H' (.ref b) (behindD t ps wd pl l) → Q (.ref b) H'
theorem ok_text_behind (T : Top K mg) : FnOk P w K mg base (L2.CX P w) 5 T.text_behind.a T.text_behind.d ["kinds", "text", "change"] (spBehind K T.cKinds.c) := by
  refine T.text_behind.f.okX sc_text_behind (fun vs H Q E h => ?_) (fun cdv A outer s H vs Q E hr h => ?_)
  · obtain ⟨p, v, vc, _, _, _, _, _, _, _, _, rfl, _⟩ := h
    rfl
  · obtain ⟨p, v, vc, M, t, e, pl, l, h, wd, ps, rfl, hk, ⟨b, rfl, hb⟩, em, ed, ⟨a, x, rfl, hc, hx⟩, sm, p0, p1, hn, q⟩ := h
    refine ⟨_, (pss_cons ((ps_asg (pv 2) (pg_tup rfl (pgs_cons (pg_name (i := 3) sc_text_behind.nd rfl (Or.inl rfl)) (pgs_cons (pg_name (i := 4) sc_text_behind.nd rfl (Or.inr rfl)) (pgs_cons (pg_name (i := 5) sc_text_behind.nd rfl (Or.inr rfl)) (pgs_cons (pg_name (i := 6) sc_text_behind.nd rfl (Or.inl rfl)) pgs_nil))))))) (pss_cons ((ps_asg ((pe_ownIx (ok_Kinds_getitem T) (hr.mono (by decide)) T.Kinds_getitem.b pX T.Kinds_getitem.i T.Kinds_getitem.g T.kf.fn (pv 0) (pv 3) (fun _ _ => rfl))) (pg_tup rfl (pgs_cons (pg_name (i := 7) sc_text_behind.nd rfl (Or.inl rfl)) (pgs_cons (pg_name (i := 8) sc_text_behind.nd rfl (Or.inl rfl)) pgs_nil))))) (pss_cons ((ps_setLc (i := 9) (own := [("part", 10)]) (g := gName 10) (tt := tYes) (by rfl) sc_text_behind.nd rfl rfl (sw_true rfl rfl rfl (by decide +kernel)) (pi_tup (pv 8)) (blkOk_by (N := n_text_behind) (sc := defScope s_text_behind) (by decide +kernel)) (fun _ _ _ _ _ => pg_name (i := 10) sc_text_behind.nd rfl (Or.inl rfl)) (fun _ _ _ _ _ => pts_nil) (fun _ _ _ _ _ => pe_ifExp (pt_cmpR (op_eq) (pv 10) (pe_str) (nomark _)) (pv 5) (pe_ix ((show IxR _ (rIxT K) from ix_tup)) (pv 1) ((pe_op (op_add) (pv 4) (pv 10))) (fun _ _ => rfl))))) (pss_one ((ps_ret (pe_tup (StX.pa_star (pe_slice sl_tupA (pv 1) po_none (po_some (pv 4))) (StX.pa_star (pv 9) (StX.pa_star (pe_slice sl_tupA (pv 1) (po_some (pe_op (op_add) (pv 4) (pv 7))) po_none) pa_nil)))))))))), ?_⟩
    obtain ⟨dx, D, hp, hD, hg⟩ := id hk
    have fe := findE_of hD.ok.nd em
    have dp := hD.ok.dp e em
    have sml := hD.ok.sm e em
    obtain ⟨wd', ps', ed', hw0, hw2, hrow⟩ := kind_form (hg e em)
    rw [ed] at ed'
    cases ed'
    rw [ed] at dp sml
    have sml : ps.length ≤ 100 := sml
    obtain ⟨ka, kb, xs, rx, h1, h2, h3⟩ := kind_val dp
    have hl := all_len h3
    refine ⟨_, rfl, a, _, rfl, hc, rfl, _, _, rfl, _, _, rfl, _, _, rfl, _, _, rfl, rfl, ?_⟩
    refine ⟨_, rfl, _, rfl, p, dx, _, rfl, hp, p, _, .str e.1, M, rfl, hk, .str _, fun y ey => ?_, fun z => by rw [fe] at z; cases z⟩
    rw [fe] at ey
    cases ey
    rw [rx]
    refine ⟨ka, _, rfl, h1, rfl, _, _, rfl, _, _, rfl, rfl, ?_⟩
    have hln : hasNewD ps = true → ∃ n, x = .int n ∧ l = .int n := fun z => by
      rcases hx with ⟨_, rfl⟩ | hx
      · exact absurd (hn z) (by simp [isIntD])
      · exact hx
    obtain ⟨pn, rfl⟩ := Int.eq_ofNat_of_zero_le p0
    obtain ⟨wn, rfl⟩ := Int.eq_ofNat_of_zero_le hw0
    refine ⟨_, rfl, kb, rfl, ⟨_, h2⟩, fun D2 hD2 => lc_mapT (xs := xs) (i := 10) (putV t (pn : Nat) x) (Same.refl H) h2 hD2 (by omega) (fun _ => rfl) (fun y hy H1 s1 Q1 q1 => ?_) fun H1 s1 hD1 => ?_⟩
    · obtain ⟨dy, hdm, hdy⟩ := all_get h3 y hy
      have hpart := List.all_eq_true.mp (row_parts hrow) dy hdm
      cases hdy with
      | str z =>
        refine ⟨_, rfl, rfl, _, rfl, ?_⟩
        have en : z = "new" := of_decide_eq_true hpart
        subst en
        refine iteT ⟨_, rfl, q1 H1 (Same.refl H1)⟩
      | int k =>
        have hk2 : 0 ≤ k ∧ k < (wn : Int) := by
          have hpart : (decide (0 ≤ k) && decide (k < (wn : Int))) = true := hpart
          simpa using hpart
        obtain ⟨kn, rfl⟩ := Int.eq_ofNat_of_zero_le hk2.1
        have hlt : pn + kn < t.length := by omega
        have e1 : ((pn : Int) + (kn : Int)) = ((pn + kn : Nat) : Int) := by omega
        refine ⟨_, rfl, rfl, _, rfl, iteF ?_⟩
        refine ⟨_, rfl, _, rfl, _, rfl, _, _, rfl, rfl, b, _, _, V.int t[pn + kn], rfl, rfl, sqT_same s1 hb, ?_, ?_⟩
        · rw [e1]
          refine atI_nat ?_
          rw [List.getElem?_map, List.getElem?_eq_getElem hlt]
          rfl
        · have := q1 H1 (Same.refl H1)
          show Q1 _ H1
          have e2 : putV t (pn : Nat) x (.int (kn : Nat)) = V.int t[pn + kn] := by
            show V.int _ = _
            rw [e1, Int.toNat_natCast, List.getElem?_eq_getElem hlt]
            rfl
          rw [← e2]
          exact this
      | non => simp [isPartD] at hpart
      | bl b => simp [isPartD] at hpart
      | lst a b => simp [isPartD] at hpart
      | tup a b => simp [isPartD] at hpart
    · rw [put_eq (t := t) (pl := (pn : Nat)) h3 (row_parts hrow) hln] at hD1
      have sb1 := sqT_same s1 hb
      have hlt : (t.map V.int).length = t.length := List.length_map _
      refine ⟨_, rfl, _, rfl, _, rfl, slA_of sb1 fun b1 H2 s2 hb2 => ?_⟩
      rw [cut_take (by omega)] at hb2
      refine ⟨b1, _, rfl, .inl hb2, _, rfl, D2, _, rfl, .inr (SqL.of (s2 _ _ hD1)), ?_⟩
      refine ⟨_, rfl, ⟨_, rfl, _, rfl, _, _, rfl, rfl, _, rfl, ?_⟩⟩
      simp only [tNoPart]
      refine slA_of (sqT_same s2 sb1) fun b3 H3 s3 hb3 => ?_
      have e1 : ((pn : Int) + (wn : Int)) = ((pn + wn : Nat) : Int) := by omega
      rw [e1, cut_drop] at hb3
      have ey : (t.map V.int).take pn ++ ((ps.map (partVal t (pn : Nat) l)).map V.int ++ (t.map V.int).drop (pn + wn)) = (behindD t ps (wn : Nat) (pn : Nat) l).map V.int := by
        unfold behindD
        rw [e1, Int.toNat_natCast, Int.toNat_natCast, List.map_append, List.map_append, List.map_take, List.map_drop]
      refine ⟨b3, _, rfl, .inl hb3, ?_, fun p4 hp4 => ?_⟩
      · rw [List.append_nil, ey, List.length_map]
        unfold behindD
        rw [List.length_append, List.length_append, List.length_take, List.length_map, List.length_drop]
        exact small (by omega)
      · rw [List.append_nil, ey]
        exact q p4 _ ((s1.trans s2).trans (s3.trans (same_upd (Same.refl H3) hp4))) ⟨p4, rfl, SqT.of upd_same⟩
end
end K41

end

section
set_option Elab.async false
set_option linter.all false
set_option maxRecDepth 100000
set_option maxHeartbeats 4000000
/-! Changes are done. -/
namespace K41
open PySem PySem.Spec PyProof.Rows L2 KX
def stepD (M : List Ent) (t : List Int) : PyData → Option (List Int)
  | .tuple [.str z, .int p, l, _] => if canD (widthD M z) t p l = true then some (behindD t (rowD M z) (widthD M z) p l) else none
  | _ => some t
def runD (M : List Ent) : Nat → List Int → List PyData → Nat ⊕ List Int
  | _, t, [] => .inr t
  | i, t, d :: r => match stepD M t d with
    | some t' => runD M (i + 1) t' r
    | none => .inl i
theorem runD_some {M : List Ent} {i : Nat} {t t' : List Int} {d : PyData} {r : List PyData} (h : stepD M t d = some t') : runD M i t (d :: r) = runD M (i + 1) t' r := by
  show (match stepD M t d with | some t' => runD M (i + 1) t' r | none => .inl i) = _
  rw [h]
theorem runD_none {M : List Ent} {i : Nat} {t : List Int} {d : PyData} {r : List PyData} (h : stepD M t d = none) : runD M i t (d :: r) = .inl i := by
  show (match stepD M t d with | some t' => runD M (i + 1) t' r | none => .inl i) = _
  rw [h]
theorem badC_all {M : List Ent} : ∀ {i : Nat} {ds : List PyData}, badC M i ds = none → ∀ d ∈ ds, okC M d = true
  | _, [], _, d, m => by simp at m
  | i, x :: r, h, d, m => by
    cases e : okC M x with
    | false => rw [badC_no e] at h; cases h
    | true =>
      rw [badC_ok e] at h
      rcases List.mem_cons.mp m with z | z
      · rw [z]; exact e
      · exact badC_all h d z
theorem change_form {K : PySem.W.Frag} {C : Addr} {H : Hp} {p : Addr} {M : List Ent} {d : PyData} {v : V} (hk : KindsAt K C H p M) (h : isChangeD M d = true) (hv : Dp K H v d) :
    ∃ e pl l hd wd ps hv, e ∈ M ∧ d = .tuple [.str e.1, .int pl, l, hd] ∧ e.2.2 = .tuple [.int wd, .tuple ps] ∧ 0 ≤ wd ∧ ps.length ≤ 100 ∧ (hasNewD ps = true → isIntD l = true) ∧ ChangeAt K H v e.1 pl l hv := by
  obtain ⟨dx, D, hp, hD, hg⟩ := hk
  unfold isChangeD at h
  split at h
  · rename_i n p' l hd
    rw [Bool.and_eq_true, Bool.and_eq_true, Bool.and_eq_true, Bool.and_eq_true] at h
    obtain ⟨h1, h2, h3, h4, h5⟩ := h
    obtain ⟨x, hx⟩ := Option.isSome_iff_exists.mp h1
    obtain ⟨e, em, rfl, rfl⟩ := findE_some hx
    obtain ⟨wd, ps, ed, w0, _, _⟩ := kind_form (hg e em)
    have nn : needsD M (.str e.1) = hasNewD ps := by
      show hasNewD (rowD M e.1) = _
      rw [(rowD_of hD.ok.nd em ed).1]
    have sml := hD.ok.sm e em
    rw [ed] at sml
    cases p' with
    | int pl =>
      cases hv with
      | tup hs ha =>
        cases ha with
        | cons a1 t1 =>
          cases a1
          cases t1 with
          | cons a2 t2 =>
            cases a2
            cases t2 with
            | cons a3 t3 =>
              cases t3 with
              | cons a4 t4 =>
                cases t4
                rw [nn] at h5
                refine ⟨e, pl, l, hd, wd, ps, _, em, rfl, ed, w0, sml, fun z => by rw [if_pos z] at h5; exact h5, ⟨_, _, rfl, hs, ?_⟩⟩
                by_cases z : hasNewD ps = true
                · rw [if_pos z] at h5
                  cases a3 <;> first
                    | exact .inr ⟨_, rfl, rfl⟩
                    | (simp [isIntD] at h5)
                · rw [if_neg z] at h5
                  cases a3 <;> first
                    | exact .inl ⟨rfl, rfl⟩
                    | (simp [noneD] at h5)
    | _ => simp [isIntD] at h2
  · cases h
theorem behind_len {t : List Int} {ps : List PyData} {w p : Int} {l : PyData} : (behindD t ps w p l).length ≤ t.length + (ps.length + t.length) := by
  unfold behindD
  rw [List.length_append, List.length_append, List.length_take, List.length_map, List.length_drop]
  omega
theorem behind_len2 {t : List Int} {ps : List PyData} {w p : Int} {l : PyData} (h0 : 0 ≤ p) (hw : 0 ≤ w) : (behindD t ps w p l).length ≤ t.length + ps.length := by
  unfold behindD
  rw [List.length_append, List.length_append, List.length_take, List.length_map, List.length_drop]
  omega
section
variable {P : Program} {w : World} {K : PySem.W.Frag} {mg : Str → Option Value} {base : Heap}
def NoKinds (H : Hp) (v : V) : Prop := (∃ a kvs, v = .ref a ∧ H a = some (.dK kvs)) ∨ v = .non
def spDoneAll (T : Top K mg) : Sp := fun vs H Q E => ∃ vk vt vc, vs = [vk, vt, vc] ∧ ((NoKinds H vk ∧ Raises1 H E T.cBadKinds.c "name" .non) ∨
  ∃ p M, vk = .ref p ∧ KindsAt K T.cKinds.c H p M ∧ ((∃ d, Dp K H vt d ∧ lenD d ≤ 100 ∧ isTextD d = false ∧ ∀ H', Same H H' → E (.ref T.cBadText.c) none H') ∨
    ∃ t, TextAt K H vt t ∧ isTextD (.tuple (t.map .int)) = true ∧ t.length ≤ 50 ∧ ((NoSeq H vc ∧ Raises1 H E T.cBadChange.c "place" .non) ∨
      ∃ ds, SeqD K H vc ds ∧ ds.length ≤ 6 ∧ match badC M 0 ds with
        | some i => Raises1 H E T.cBadChange.c "place" (.int (i : Nat))
        | none => match runD M 0 t ds with
          | .inl i => Raises1 H E T.cCannotDo.c "place" (.int (i : Nat))
          | .inr t' => ∀ v' H', Same H H' → TextAt K H' v' t' → Q v' H')))
theorem ok_done_all (T : Top K mg) : FnOk P w K mg base (L2.CX P w) 8 T.done_all.a T.done_all.d ["kinds", "text", "changes"] (spDoneAll T) := by
  refine T.done_all.f.okX sc_done_all (fun vs H Q E h => ?_) (fun cdv A outer s H vs Q E hr h => ?_)
  · obtain ⟨vk, vt, vc, rfl, _⟩ := h
    rfl
  · obtain ⟨vk, vt, vc, rfl, h⟩ := h
    refine ⟨_, (pss_cons (ps_expr (pe_call (ok_check_kinds T) (hr.mono (by decide)) (by rfl) T.check_kinds.m T.check_kinds.f.kp T.check_kinds.b .nil pX (pa_cons (pv 0) pa_nil))) (pss_cons (ps_expr (pe_call (ok_check_text T) (hr.mono (by decide)) (by rfl) T.check_text.m T.check_text.f.kp T.check_text.b .nil pX (pa_cons (pv 1) pa_nil))) (pss_cons (ps_expr (pe_call (ok_check_changes T) (hr.mono (by decide)) (by rfl) T.check_changes.m T.check_changes.f.kp T.check_changes.b .nil pX (pa_cons (pv 0) (pa_cons (pv 2) pa_nil)))) (pss_cons ((ps_set (i := 3) sc_done_all.nd rfl (Or.inl rfl) (pv 1))) (pss_cons ((ps_for pO rfl (pi_enumT (by rfl) T.bf.enumerate_ (pa_cons (pv 2) pa_nil)) (pg_tup rfl (pgs_cons (pg_name (i := 4) sc_done_all.nd rfl (Or.inl rfl)) (pgs_cons (pg_name (i := 5) sc_done_all.nd rfl (Or.inl rfl)) pgs_nil))) ((pss_one ((ps_if ((pt_cmpR (op_notN) (pv 5) (pe_non) (nomark _))) ((pss_cons ((ps_if (pt_not (pt_val ((pe_call (ok_can_do T) (hr.mono (by decide)) (by rfl) T.can_do.m T.can_do.f.kp T.can_do.b .nil pX (pa_cons (pv 0) (pa_cons (pv 3) (pa_cons (pv 5) pa_nil))))))) ((pss_one ((ps_raise rfl (takes_of rfl rfl rfl rfl) (pmk_oex T.oCannotDo T.CannotDo_init.i (fnTy T.CannotDo_init.g) (ok_CannotDo_init T) (hr.mono (by decide)) T.CannotDo_init.b .nil pF (by rfl) T.cCannotDo.m (pa_cons (pv 4) pa_nil)))))) (pss_nil))) (pss_one ((ps_set (i := 3) sc_done_all.nd rfl (Or.inl rfl) ((pe_call (ok_text_behind T) (hr.mono (by decide)) (by rfl) T.text_behind.m T.text_behind.f.kp T.text_behind.b .nil pX (pa_cons (pv 0) (pa_cons (pv 3) (pa_cons (pv 5) pa_nil)))))))))) (pss_nil))))))) (pss_one ((ps_ret (pv 3))))))))), ?_⟩
    rcases h with ⟨hno, hR⟩ | ⟨p, M, rfl, hk, h⟩
    · exact ⟨_, rfl, vk, rfl, .inr ⟨hno, hR⟩⟩
    · obtain ⟨dx, D, hp, hD, hg⟩ := id hk
      refine ⟨_, rfl, _, rfl, .inl ⟨p, dx, _, rfl, hp, ?_⟩⟩
      rcases h with ⟨d, hd, hl, ht, hR⟩ | ⟨t, ht, hT, hl, h⟩
      · refine ⟨_, rfl, vt, d, rfl, hd, hl, fun H1 s1 => ?_⟩
        rw [ht]
        exact hR H1 s1
      · refine ⟨_, rfl, vt, _, rfl, ht.dp, by show (t.map PyData.int).length ≤ 100; rw [List.length_map]; omega, fun H1 s1 => ?_⟩
        rw [hT, if_pos rfl]
        refine ⟨_, rfl, _, rfl, p, vc, M, rfl, hk.same s1, ?_⟩
        rcases h with ⟨hno, hR⟩ | ⟨ds, hs, hl6, hm⟩
        · exact .inl ⟨hno.same s1, hR.same s1⟩
        · refine .inr ⟨ds, hs.same s1, ?_⟩
          cases eb : badC M 0 ds with
          | some i =>
            rw [eb] at hm
            exact hm.same s1
          | none =>
            rw [eb] at hm
            intro H2 s2
            have s02 := s1.trans s2
            obtain ⟨d, hd, ed⟩ := hs.same s02
            obtain ⟨a, xs, rfl, hsq, ha⟩ := seq_val hd ed
            have hlx := all_len ha
            refine ⟨_, rfl, _, rfl, a, xs, rfl, hsq, fun J G wk hG => for_it wk (fun i σ H3 => (∃ vn x4 x5 tn, σ = [some (.ref p), some vt, some (.ref a), some vn, x4, x5] ∧ TextAt K H3 vn tn ∧ tn.length ≤ 50 + 100 * i ∧ runD M 0 t ds = runD M i tn (ds.drop i)) ∧ Same H2 H3)
              ⟨⟨vt, _, _, t, rfl, ht.same s02, by omega, rfl⟩, Same.refl H2⟩ (fun i σ H3 _ q => hG H3 q.2) ?turn ?after⟩
            case turn =>
              rintro i x σ H3 H3' hi ⟨⟨vn, x4, x5, tn, rfl, htn, hln, hf⟩, s3⟩ ⟨Tp, y0, y1, rfl, hT, rfl, e0, e1⟩
              cases e0
              have s4 : Same H3 (upd H3 Tp (.tup [.int (i : Nat), y1])) := same_upd (Same.refl H3) hT
              refine ⟨Tp, _, rfl, SqT.of upd_same, rfl, _, _, rfl, _, _, rfl, rfl, ?_⟩
              generalize upd H3 Tp (.tup [.int (i : Nat), y1]) = H4 at s4 ⊢
              have s24 := s3.trans s4
              have s04 := s02.trans s24
              obtain ⟨di, hdi, hy⟩ := all_at (dpAll_same s24 ha) i y1 e1
              have hcons := drop_ix hdi
              rw [hcons] at hf
              have okd := badC_all eb di (List.mem_of_getElem? hdi)
              refine ⟨_, rfl, rfl, _, rfl, ?_⟩
              rw [none_eq hy]
              cases en : noneD di with
              | true =>
                have ed : di = .none := by cases di <;> first | rfl | (simp [noneD] at en)
                subst ed
                exact iteF ⟨⟨vn, _, _, tn, rfl, htn.same s4, by omega, hf.trans (runD_some rfl)⟩, s24⟩
              | false =>
                have ic : isChangeD M di = true := by
                  unfold okC at okd
                  rw [en, Bool.false_or] at okd
                  exact okd
                have hk4 := hk.same s04
                obtain ⟨e, pl, l, hdd, wd, ps, hv, em, rfl, ed, w0, psl, hnl, hch⟩ := change_form hk4 ic hy
                have htn4 := htn.same s4
                obtain ⟨hrow, hwid⟩ := rowD_of hD.ok.nd em ed
                have st : stepD M tn (.tuple [.str e.1, .int pl, l, hdd]) = if canD wd tn pl l = true then some (behindD tn ps wd pl l) else none := by
                  show (if canD (widthD M e.1) tn pl l = true then some (behindD tn (rowD M e.1) (widthD M e.1) pl l) else none) = _
                  rw [hrow, hwid]
                refine iteT ⟨_, rfl, _, rfl, _, rfl, p, vn, y1, M, tn, e, pl, l, hv, wd, ps, rfl, hk4, htn4, em, ed, hch, _, rfl, ?_⟩
                cases ec : canD wd tn pl l with
                | false =>
                  rw [ec, if_neg (by simp)] at st
                  have fb := hf.trans (runD_none st)
                  rw [fb] at hm
                  exact iteT ⟨_, rfl, mk_low (hm.same s04)⟩
                | true =>
                  rw [ec, if_pos rfl] at st
                  have fb := hf.trans (runD_some st)
                  unfold canD at ec
                  rw [Bool.and_eq_true, Bool.and_eq_true] at ec
                  have p0 := of_decide_eq_true ec.1
                  have p1 := of_decide_eq_true ec.2.1
                  have bl := behind_len2 (t := tn) (ps := ps) (l := l) p0 w0
                  refine iteF ⟨_, rfl, _, rfl, _, rfl, p, vn, y1, M, tn, e, pl, l, hv, wd, ps, rfl, hk4, htn4, em, ed, hch, by omega, p0, p1, hnl, fun b H5 s5 ht5 => ?_⟩
                  exact ⟨⟨.ref b, _, _, _, rfl, ht5, by omega, fb⟩, s24.trans s5⟩
            case after =>
              rintro σ H3 ⟨⟨vn, x4, x5, tn, rfl, htn, hln, hf⟩, s3⟩
              have fb : runD M 0 t ds = .inr tn := by
                rw [hf, hlx, List.drop_length]
                rfl
              rw [fb] at hm
              exact ⟨_, rfl, hm vn H3 (s02.trans s3) htn⟩
def spDone (T : Top K mg) : Sp := fun vs H Q E => ∃ vk vt vc, vs = [vk, vt, vc] ∧ ∀ l H', Same H H' → H' l = some (.lst [vc]) → spDoneAll T [vk, vt, .ref l] H' Q E
theorem ok_done (T : Top K mg) : FnOk P w K mg base (L2.CX P w) 9 T.done.a T.done.d ["kinds", "text", "change"] (spDone T) := by
  refine T.done.f.okX sc_done (fun vs H Q E h => ?_) (fun cdv A outer s H vs Q E hr h => ?_)
  · obtain ⟨vk, vt, vc, rfl, _⟩ := h
    rfl
  · obtain ⟨vk, vt, vc, rfl, h⟩ := h
    refine ⟨_, (pss_one ((ps_ret ((pe_call (ok_done_all T) (hr.mono (by decide)) (by rfl) T.done_all.m T.done_all.f.kp T.done_all.b .nil pX (pa_cons (pv 0) (pa_cons (pv 1) (pa_cons ((pe_lst (pa_cons (pv 2) pa_nil))) pa_nil)))))))), ?_⟩
    refine ⟨_, rfl, _, rfl, _, rfl, by show 1 ≤ sizeLine; decide, fun l hl => ?_⟩
    exact h l _ (same_upd (Same.refl H) hl) upd_same
end
end K41

end

section
set_option Elab.async false
set_option linter.all false
set_option maxRecDepth 100000
set_option maxHeartbeats 4000000
/-! Draws. -/
namespace K41
open PySem PySem.Spec PyProof.Rows L2 KX
/-- at v: what is drawn from -/
def DrawAt (K : PySem.W.Frag) (H : Hp) (v : V) : Prop := ∃ (d a : Addr) (ns : List Int), v = .ref d ∧ H d = some (DrawO d a) ∧ SqL K H a (ns.map V.int) ∧ ns.length ≤ 63
theorem DrawAt.same {K : PySem.W.Frag} {H H' : Hp} {v : V} (h : DrawAt K H v) (s : Same H H') : DrawAt K H' v := let ⟨d, a, ns, h1, h2, h3, h4⟩ := h; ⟨d, a, ns, h1, s _ _ h2, s.seq h3, h4⟩
theorem ints_shaped : ∀ ns : List Int, PyData.canLayAll0 (ns.map PyData.int) = true ∧ PyData.depthAll (ns.map PyData.int) ≤ 1
  | [] => ⟨rfl, Nat.zero_le _⟩
  | n :: r => by
    obtain ⟨h1, h2⟩ := ints_shaped r
    rw [List.map_cons]
    refine ⟨?_, ?_⟩
    · simp only [PyData.canLayAll0, h1, Bool.and_true]
      rfl
    · simp only [PyData.depthAll]
      have : (PyData.int n).depth ≤ 1 := by simp [PyData.depth]
      omega
theorem shaped_ints (ns : List Int) : SeqAt.shaped (.list (ns.map PyData.int)) = true := by
  obtain ⟨h1, h2⟩ := ints_shaped ns
  unfold SeqAt.shaped
  simp only [PyData.canLay0, h1, Bool.true_and, PyData.depth]
  exact decide_eq_true (by omega)
theorem shaped_text (ns : List Int) : SeqAt.shaped (.tuple (ns.map PyData.int)) = true := by
  obtain ⟨h1, h2⟩ := ints_shaped ns
  unfold SeqAt.shaped
  simp only [PyData.canLay0, h1, Bool.true_and, PyData.depth]
  exact decide_eq_true (by omega)
section
variable {P : Program} {w : World} {K : PySem.W.Frag} {mg : Str → Option Value} {base : Heap}
def spNumber (K : PySem.W.Frag) : Sp := fun vs H Q _ => ∃ (a : Addr) (i : Int) (ns : List Int), vs = [.ref a, .int i] ∧ SqL K H a (ns.map V.int) ∧ ns.length ≤ 63 ∧ ∀ (n : Int) H', Same H H' → Q (.int n) H'
theorem ok__law_number (T : Top K mg) : FnOk P w K mg base (L2.CX P w) 1 T._law_number.a T._law_number.d ["script", "index"] (spNumber K) := by
  refine T._law_number.f.okX sc__law_number (fun vs H Q E h => ?_) (fun cdv A outer s H vs Q E hr h => ?_)
  · obtain ⟨a, i, ns, rfl, _⟩ := h
    rfl
  · obtain ⟨a, i, ns, rfl, hs, hl, q⟩ := h
    refine ⟨_, (pss_cons ((ps_if ((pt_cmpR (op_eqD hr.units) (pv 0) ((pe_lst pa_nil)) (by rfl))) ((pss_one ((ps_ret ((pe_callTy (call_int1) (by rfl) T.bf.int_ (by decide +kernel) (pa_cons ((pe_op (op_mod) ((pe_op (op_add) ((pe_op (op_mul) (pv 1) (pe_int))) (pe_int))) (pe_int))) pa_nil))))))) (pss_nil))) (pss_cons ((ps_set (i := 2) sc__law_number.nd rfl (Or.inl rfl) ((pe_ix (ix_list) (pv 0) ((pe_op (op_mod) (pv 1) ((pe_callB call_len_seq (by rfl) T.bf.len_ PySem.boot_len (pa_cons (pv 0) pa_nil))))) (fun _ _ => rfl))))) (pss_cons ((ps_if ((pt_cmpR (op_ge) ((pe_callB (call_abs) (by rfl) T.bf.abs_ (by decide +kernel) (pa_cons (pv 2) pa_nil))) ((pe_op (op_pow) (pe_int) (pe_int))) (by rfl))) ((pss_one ((ps_set (i := 2) sc__law_number.nd rfl (Or.inl rfl) ((pe_op (op_mod) (pv 2) ((pe_op (op_pow) (pe_int) (pe_int))))))))) (pss_nil))) (pss_cons ((ps_set (i := 3) sc__law_number.nd rfl (Or.inl rfl) ((pe_op (op_mod) ((pe_op (op_add) ((pe_op (op_mul) ((pe_op (op_add) (pv 2) ((pe_op (op_mul) (pe_int) (pv 1))))) (pe_int))) ((pe_op (op_mul) (pe_int) ((pe_callB call_len_seq (by rfl) T.bf.len_ PySem.boot_len (pa_cons (pv 0) pa_nil))))))) (pe_int))))) (pss_one ((ps_ret ((pe_callTy (call_int1) (by rfl) T.bf.int_ (by decide +kernel) (pa_cons ((pe_op (op_mod) ((pe_op (op_add) ((pe_op (op_mul) ((pe_op (op_mod) ((pe_op (op_mul) (pv 3) (pe_int))) (pe_int))) (pe_int))) (pv 1))) (pe_int))) pa_nil)))))))))), ?_⟩
    refine ⟨_, rfl, by show 0 ≤ sizeLine; decide, fun l hl => ?_⟩
    have s1 : Same H (upd H l (.lst [])) := same_upd (Same.refl H) hl
    have hs1 := s1.seq hs
    refine ⟨.list (ns.map .int), .list [], .lst hs1 (ints_all ns), .lst (SqL.of upd_same) .nil, shaped_ints ns, by decide +kernel, _, rfl, ?_⟩
    generalize upd H l (.lst []) = H1 at s1 hs1 ⊢
    cases ns with
    | nil =>
      exact iteT ⟨_, rfl, _, _, rfl, rfl, .inr ⟨by decide, by decide⟩, _, _, rfl, rfl, _, _, rfl, rfl, (show (0 : Int) < 2147483647 by decide), .inl ⟨_, rfl, q _ _ s1⟩⟩
    | cons c r =>
      have pos : (0 : Int) < (((c :: r).map V.int).length : Nat) := by rw [List.length_map, List.length_cons]; omega
      obtain ⟨j, hj⟩ := Int.eq_ofNat_of_zero_le (Int.emod_nonneg i (Int.ne_of_gt pos))
      have hlt : j < ((c :: r).map V.int).length := by
        have := Int.emod_lt_of_pos i pos
        omega
      have hget : ((c :: r).map V.int)[j]? = some (V.int ((c :: r)[j]'(by rw [List.length_map] at hlt; exact hlt))) := by
        rw [List.getElem?_map, List.getElem?_eq_getElem (by rw [List.length_map] at hlt; exact hlt)]
        rfl
      refine iteF ⟨_, rfl, _, rfl, _, rfl, a, _, rfl, .inl hs1, _, _, rfl, rfl, pos, a, _, _, _, rfl, rfl, hs1, by rw [hj]; exact atI_nat hget, ?_⟩
      refine ⟨_, rfl, _, rfl, _, _, rfl, rfl, ⟨by decide, by decide, by decide⟩, _, _, rfl, rfl, _, rfl, ?_⟩
      refine ite2 (fun _ => ?_) (fun _ => ?_)
      · refine ⟨_, rfl, _, _, rfl, rfl, ⟨by decide, by decide, by decide⟩, _, _, rfl, rfl, (show (0 : Int) < 10 ^ Int.toNat 18 by decide +kernel), ?_⟩
        exact ⟨_, rfl, _, rfl, _, _, rfl, rfl, .inl ⟨by decide, by decide⟩, _, _, rfl, rfl, _, _, rfl, rfl, .inr ⟨by decide, by decide⟩, _, rfl, a, _, rfl, .inl hs1, _, _, rfl, rfl, .inl ⟨by decide, by decide⟩, _, _, rfl, rfl, _, _, rfl, rfl, (show (0 : Int) < 2147483647 by decide),
          _, rfl, _, _, rfl, rfl, .inr ⟨by decide, by decide⟩, _, _, rfl, rfl, (show (0 : Int) < 2147483629 by decide), _, _, rfl, rfl, .inr ⟨by decide, by decide⟩, _, rfl, _, _, rfl, rfl, _, _, rfl, rfl, (show (0 : Int) < 2147483587 by decide), .inl ⟨_, rfl, q _ _ s1⟩⟩
      · exact ⟨_, rfl, _, rfl, _, _, rfl, rfl, .inl ⟨by decide, by decide⟩, _, _, rfl, rfl, _, _, rfl, rfl, .inr ⟨by decide, by decide⟩, _, rfl, a, _, rfl, .inl hs1, _, _, rfl, rfl, .inl ⟨by decide, by decide⟩, _, _, rfl, rfl, _, _, rfl, rfl, (show (0 : Int) < 2147483647 by decide),
          _, rfl, _, _, rfl, rfl, .inr ⟨by decide, by decide⟩, _, _, rfl, rfl, (show (0 : Int) < 2147483629 by decide), _, _, rfl, rfl, .inr ⟨by decide, by decide⟩, _, rfl, _, _, rfl, rfl, _, _, rfl, rfl, (show (0 : Int) < 2147483587 by decide), .inl ⟨_, rfl, q _ _ s1⟩⟩
def spTake (K : PySem.W.Frag) : Sp := fun vs H Q _ => ∃ v m, vs = [v, .int m] ∧ DrawAt K H v ∧ 0 < m ∧ ∀ (r : Nat) H', Same H H' → (r : Int) < m → Q (.int (r : Nat)) H'
theorem ok__law_take (T : Top K mg) : FnOk P w K mg base (L2.CX P w) 2 T._law_take.a T._law_take.d ["draw", "many"] (spTake K) := by
  refine T._law_take.f.okX sc__law_take (fun vs H Q E h => ?_) (fun cdv A outer s H vs Q E hr h => ?_)
  · obtain ⟨v, m, rfl, _⟩ := h
    rfl
  · obtain ⟨v, m, rfl, ⟨d, a, ns, rfl, hd, hs, hl⟩, hm, q⟩ := h
    refine ⟨_, pss_open (pss_cons (ps_augS (pv 0) pe_int get_list pe_int ip_add set_list) (pss_one ((ps_ret ((pe_op (op_mod) ((pe_callTy (call_int1) (by rfl) T.bf.int_ (by decide +kernel) (pa_cons ((pe_call (ok__law_number T) (hr.mono (by decide)) (by rfl) T._law_number.m T._law_number.f.kp T._law_number.b .nil pX (pa_cons ((pe_ix (ix_list) (pv 0) (pe_int) (fun _ _ => rfl))) (pa_cons ((pe_callTy (call_int1) (by rfl) T.bf.int_ (by decide +kernel) (pa_cons ((pe_ix (ix_list) (pv 0) (pe_int) (fun _ _ => rfl))) pa_nil))) pa_nil)))) pa_nil))) (pv 1))))))), ?_⟩
    refine ⟨d, a, hd, fun n => ?_⟩
    refine ⟨_, rfl, ⟨d, _, 1, _, rfl, rfl, SqL.of upd_same, rfl, _, _, rfl, rfl, d, _, 1, 1, rfl, rfl, upd_same, rfl, ?_⟩⟩
    generalize hH2 : upd (upd H d (HO.lst [V.ref a, V.int n])) d (HO.lst ([V.ref a, V.int n].set 1 (V.int ((fun i j => i + j) n 1)))) = H2
    have h2d : H2 d = some (.lst [.ref a, .int (n + 1)]) := by
      rw [← hH2]
      exact upd_same
    have h2b : ∀ b, b ≠ d → H2 b = H b := fun b h => by rw [← hH2, upd_ne h, upd_ne h]
    clear hH2
    have hs2 : SqL K H2 a (ns.map V.int) := by
      have ne : ∀ {u : HO}, H a = some u → (∀ φ, u ≠ .ext φ) → a ≠ d := fun {u} e h z => by
        rw [z, hd] at e
        exact h _ (Option.some.inj e).symm
      rcases hs with (h | ⟨o, h⟩) | h
      · exact .inl (.inl (by rw [h2b a (ne h fun φ z => nomatch z)]; exact h))
      · exact .inl (.inr ⟨o, by rw [h2b a (ne h fun φ z => nomatch z)]; exact h⟩)
      · exact .inr h
    refine ⟨_, rfl, ⟨d, _, 0, _, rfl, rfl, SqL.of h2d, rfl, ⟨_, rfl, ⟨d, _, 1, _, rfl, rfl, SqL.of h2d, rfl, .inl ⟨_, rfl, ?_⟩⟩⟩⟩⟩
    refine ⟨a, n + 1, ns, rfl, hs2, hl, fun nn H3 s3 => .inl ⟨_, rfl, _, rfl, _, _, rfl, rfl, hm, ⟨n + 1, s3 _ _ h2d⟩, ?_⟩⟩
    obtain ⟨r, hr'⟩ := Int.eq_ofNat_of_zero_le (Int.emod_nonneg nn (Int.ne_of_gt hm))
    have hlt := Int.emod_lt_of_pos nn hm
    show Q (.int (nn % m)) _
    rw [hr'] at hlt ⊢
    refine q r _ (fun b u e => ?_) hlt
    by_cases z : b = d
    · subst z
      rw [upd_same, ← e, hd]
    · rw [upd_ne z]
      exact s3 b u (by rw [h2b b z]; exact e)
def spPick (K : PySem.W.Frag) : Sp := fun vs H Q _ => ∃ v a xs, vs = [v, .ref a] ∧ DrawAt K H v ∧ (SqL K H a xs ∨ SqT K H a xs) ∧ 0 < xs.length ∧ ∀ x ∈ xs, ∀ H', Same H H' → Q x H'
theorem ok__law_pick (T : Top K mg) : FnOk P w K mg base (L2.CX P w) 3 T._law_pick.a T._law_pick.d ["draw", "items"] (spPick K) := by
  refine T._law_pick.f.okX sc__law_pick (fun vs H Q E h => ?_) (fun cdv A outer s H vs Q E hr h => ?_)
  · obtain ⟨v, a, xs, rfl, _⟩ := h
    rfl
  · obtain ⟨v, a, xs, rfl, hd, hs, hl, q⟩ := h
    refine ⟨_, (pss_one ((ps_ret ((pe_ix (ix_seq) (pv 1) ((pe_call (ok__law_take T) (hr.mono (by decide)) (by rfl) T._law_take.m T._law_take.f.kp T._law_take.b .nil pX (pa_cons (pv 0) (pa_cons ((pe_callB call_len_seq (by rfl) T.bf.len_ PySem.boot_len (pa_cons (pv 1) pa_nil))) pa_nil)))) (fun _ _ => rfl)))))), ?_⟩
    refine ⟨_, rfl, _, rfl, _, rfl, a, xs, rfl, hs.elim (fun h => .inl h) (fun h => .inr h), v, _, rfl, hd, by omega, fun r H1 s1 hr1 => ?_⟩
    have hlt : r < xs.length := by omega
    have hx : xs[r]? = some xs[r] := List.getElem?_eq_getElem hlt
    have qq := q xs[r] (List.getElem_mem hlt) H1 s1
    rcases hs with h | h
    · exact .inl ⟨a, xs, _, _, rfl, rfl, s1.seq h, atI_nat hx, qq⟩
    · exact .inr (.inl ⟨a, xs, _, _, rfl, rfl, sqT_same s1 h, atI_nat hx, qq⟩)
end
end K41

end

section
set_option Elab.async false
set_option linter.all false
set_option maxRecDepth 100000
set_option maxHeartbeats 4000000
/-! Written data; comprehensions of data. -/
namespace K41
open PySem PySem.Spec PyProof.Rows L2 KX
mutual
inductive Lit : Expr → PyData → Prop where
  | non {k p} : Lit (.Constant .none k p) .none
  | bl {b k p} : Lit (.Constant (.bool b) k p) (.bool b)
  | int {n k p} : Lit (.Constant (.int n) k p) (.int n)
  | str {x k p} : Lit (.Constant (.str x) k p) (.str x)
  | neg {n k p p2} : Lit (.UnaryOp .USub (.Constant (.int n) k p) p2) (.int (-n))
  | tup {es ds k p} (h : Lits es ds) : Lit (.Tuple es k p) (.tuple ds)
  | lst {es ds p} (h : Lits es ds) : Lit (.List es p) (.list ds)
inductive Lits : List Expr → List PyData → Prop where
  | nil : Lits [] []
  | cons {e d es ds} (h : Lit e d) (t : Lits es ds) (n : ds.length ≤ 99) : Lits (e :: es) (d :: ds)
end
def tLit (K : PySem.W.Frag) (d : PyData) : TE := fun σ H Q => ∀ v H', Same H H' → Dp K H' v d → Q v H'
def tLits (K : PySem.W.Frag) (ds : List PyData) : TA := fun σ H Q => ∀ vs H', Same H H' → DpAll K H' vs ds → ds.length ≤ 100 → Q vs H'
section
variable {X : Cx}
mutual
theorem pe_lit : ∀ {e : Expr} {d : PyData}, Lit e d → PE X e (tLit X.K d)
  | _, _, .non => ⟨fun pins s σ H Q I h => (pe_non).run pins s σ H Q I (h _ _ (Same.refl H) .non)⟩
  | _, _, .bl => ⟨fun pins s σ H Q I h => (pe_bl).run pins s σ H Q I (h _ _ (Same.refl H) (.bl _))⟩
  | _, _, .int => ⟨fun pins s σ H Q I h => (pe_int).run pins s σ H Q I (h _ _ (Same.refl H) (.int _))⟩
  | _, _, .str => ⟨fun pins s σ H Q I h => (pe_str).run pins s σ H Q I (h _ _ (Same.refl H) (.str _))⟩
  | _, _, .neg => ⟨fun pins s σ H Q I h => (pe_un un_neg pe_int).run pins s σ H Q I ⟨_, rfl, h _ _ (Same.refl H) (.int _)⟩⟩
  | _, _, .tup t => ⟨fun pins s σ H Q I h => (pe_tup (pa_lits t)).run pins s σ H Q I fun vs H1 s1 ha hl => ⟨by rw [all_len ha]; exact small (by omega), fun p hp =>
      let s2 := same_upd (o := .tup vs) (Same.refl H1) hp
      h _ _ (s1.trans s2) (.tup (SqT.of upd_same) (dpAll_same s2 ha))⟩⟩
  | _, _, .lst t => ⟨fun pins s σ H Q I h => (pe_lst (pa_lits t)).run pins s σ H Q I fun vs H1 s1 ha hl => ⟨by rw [all_len ha]; exact small (by omega), fun p hp =>
      let s2 := same_upd (o := .lst vs) (Same.refl H1) hp
      h _ _ (s1.trans s2) (.lst (SqL.of upd_same) (dpAll_same s2 ha))⟩⟩
theorem pa_lits : ∀ {es : List Expr} {ds : List PyData}, Lits es ds → PA X es (tLits X.K ds)
  | _, _, .nil => ⟨fun pos pins s σ H Q I h => pa_nil.run pos pins s σ H Q I (h _ _ (Same.refl H) .nil (by simp))⟩
  | _, _, .cons hd tl n => ⟨fun pos pins s σ H Q I h => (pa_cons (pe_lit hd) (pa_lits tl) (by cases hd <;> rfl)).run pos pins s σ H Q I fun v H1 s1 h1 vs H2 s2 h2 _ => h _ _ (s1.trans s2) (.cons (dp_same s2 h1) h2) (by rw [List.length_cons]; omega)⟩
end
end
mutual
def flatD : PyData → Bool
  | .list _ => false
  | .dict _ => false
  | .tuple ds => flatAll ds
  | _ => true
def flatAll : List PyData → Bool
  | [] => true
  | d :: r => flatD d && flatAll r
end
mutual
theorem dp_at {K : PySem.W.Frag} {H : Hp} {D : Addr} {vs ws : List V} (h : H D = some (.lst vs)) : ∀ {d : PyData} {v : V}, Dp K H v d → flatD d = true → Dp K (upd H D (.lst ws)) v d
  | .none, _, .non, _ => .non
  | .bool _, _, .bl b, _ => .bl b
  | .int _, _, .int i, _ => .int i
  | .str _, _, .str x, _ => .str x
  | .list _, _, .lst _ _, e => by simp [flatD] at e
  | .tuple ds, _, .tup (a := a) (xs := xs) hs ha, e => .tup (by
      have ne : ∀ {u : HO}, H a = some u → (∀ l, u ≠ .lst l) → a ≠ D := fun {u} e h' z => by
        rw [z, h] at e
        exact h' _ (Option.some.inj e).symm
      rcases hs with (hs | ⟨o, hs⟩) | hs
      · exact .inl (.inl (by rw [upd_ne (ne hs fun l z => nomatch z)]; exact hs))
      · exact .inl (.inr ⟨o, by rw [upd_ne (ne hs fun l z => nomatch z)]; exact hs⟩)
      · exact .inr hs) (dpAll_at h ha (by simpa [flatD] using e))
theorem dpAll_at {K : PySem.W.Frag} {H : Hp} {D : Addr} {vs ws : List V} (h : H D = some (.lst vs)) : ∀ {ds : List PyData} {xs : List V}, DpAll K H xs ds → flatAll ds = true → DpAll K (upd H D (.lst ws)) xs ds
  | [], _, .nil, _ => .nil
  | _ :: _, _, .cons hd tl, e => by
    have e : (flatD _ && flatAll _) = true := e
    rw [Bool.and_eq_true] at e
    exact .cons (dp_at h hd e.1) (dpAll_at h tl e.2)
end
theorem dpAll_snoc {K : PySem.W.Frag} {H : Hp} {v : V} {d : PyData} (h : Dp K H v d) : ∀ {xs : List V} {ds : List PyData}, DpAll K H xs ds → DpAll K H (xs ++ [v]) (ds ++ [d])
  | _, _, .nil => .cons h .nil
  | _, _, .cons a t => .cons a (dpAll_snoc h t)
theorem flat_snoc {d : PyData} (h : flatD d = true) : ∀ {ds : List PyData}, flatAll ds = true → flatAll (ds ++ [d]) = true
  | [], _ => by show (flatD d && true) = true; rw [h]; rfl
  | x :: r, e => by
    have e : (flatD x && flatAll r) = true := e
    rw [Bool.and_eq_true] at e
    show (flatD x && flatAll (r ++ [d])) = true
    rw [e.1, flat_snoc h e.2]
    rfl
section
variable {K : PySem.W.Frag} {J : It} {n i : Nat} {G : Hp → Prop} {Y : Nat → Hp → V → Hp → Prop} {te : TE} {σ : L2.St} {H0 : Hp} {D : Addr} {Qd : Hp → Prop}
theorem lc_rel (w : Walk J n G Y) (R : Nat → PyData → Prop) (hG : ∀ H, Same H0 H → G H) (h1 : H0 D = none) (sm : n ≤ 1000) (hw : ∀ x, wipe ((wipe σ [i]).set i (some x)) [i] = wipe σ [i])
    (hs : ∀ j x H H', j < n → Same H0 H → Y j H x H' → Same H H' ∧ ∀ Q : VK, (∀ v d H2, Same H' H2 → Dp K H2 v d → R j d → flatD d = true → Q v H2) → te ((wipe σ [i]).set i (some x)) H' Q)
    (hd : ∀ H vs ds, Same H0 H → H D = some (.lst vs) → DpAll K H vs ds → ds.length = n → (∀ j d, ds[j]? = some d → R j d) → Qd H) :
    ∃ W : Nat → Nat → Hp → Prop, (∃ m, W 0 m (upd H0 D (.lst []))) ∧ ∀ j m H, W j m H →
      (J.stop j H ∧ Qd H) ∨ (J.go j H ∧ ∃ Nx : Hp → Prop, (∀ H', Nx H' → ∃ m', m' < m ∧ W (j + 1) m' H') ∧ ∀ x H', J.yld j H x H' → gName i x (wipe σ [i]) H' fun σ2 H2 => wipe σ2 [i] = wipe σ [i] ∧ tYes σ2 H2 fun b H3 =>
        if b = true then te σ2 H3 fun y H4 => ∃ acc, H4 D = some (.lst acc) ∧ acc.length < sizeLine ∧ Nx (upd H4 D (.lst (acc ++ [y]))) else Nx H3) := by
  refine lc_it w (fun j H => Same H0 H ∧ ∃ vs ds, H D = some (.lst vs) ∧ DpAll K H vs ds ∧ flatAll ds = true ∧ ds.length = j ∧ ∀ k d, ds[k]? = some d → R k d) ⟨same_upd (Same.refl H0) h1, [], [], upd_same, .nil, rfl, rfl, fun k d h => by simp at h⟩ (fun j H _ p => hG H p.1) ?_ ?_
  · rintro j x H H' hj ⟨s, vs, ds, hD, ha, hf, hl, hr⟩ y
    obtain ⟨s1, hq⟩ := hs j x H H' hj s y
    refine ⟨hw _, ?_⟩
    simp only [tYes, if_true]
    refine hq _ fun v d H2 s2 hv hR hfd => ?_
    have hD2 := (s1.trans s2) _ _ hD
    refine ⟨vs, hD2, ?_, same_upd ((s.trans s1).trans s2) h1, vs ++ [v], ds ++ [d], upd_same, dpAll_at hD2 (dpAll_snoc hv (dpAll_same (s1.trans s2) ha)) (flat_snoc hfd hf), flat_snoc hfd hf, by rw [List.length_append, hl]; rfl, ?_⟩
    · rw [all_len ha, hl]
      exact small1000 (by omega)
    · intro k d' hk
      rw [List.getElem?_append] at hk
      split at hk
      · exact hr k d' hk
      · rename_i nk
        have : k - ds.length = 0 := by
          have := (List.getElem?_eq_some_iff.mp hk).1
          simp at this
          omega
        rw [this] at hk
        simp at hk
        subst hk
        have ek : k = j := by omega
        subst ek
        exact hR
  · rintro H ⟨s, vs, ds, hD, ha, hf, hl, hr⟩
    exact hd H vs ds s hD ha hl hr
end
end K41

end

section
set_option Elab.async false
set_option linter.all false
set_option maxRecDepth 100000
set_option maxHeartbeats 4000000
/-! All kinds. -/
namespace K41
open PySem PySem.Spec PyProof.Rows L2 KX
def rowsD : List PyData := [.tuple [], .tuple [.str "new"], .tuple [.int 1, .int 0], .tuple [.int 1, .str "new"], .tuple [.str "new", .int 0], .tuple [.int 1, .str "new", .int 0], .tuple [.str "new", .int 1, .int 0], .tuple [.int 1, .int 0, .str "new"]]
def kinds3 : List PyData := [.tuple [.int 0, .tuple [.str "new"]], .tuple [.int 1, .tuple []], .tuple [.int 1, .tuple [.str "new"]]]
def allK : List PyData := kinds3 ++ rowsD.map fun r => .tuple [.int 2, r]
theorem dpAll_app {K : PySem.W.Frag} {H : Hp} {ys : List V} {es : List PyData} (h : DpAll K H ys es) : ∀ {xs : List V} {ds : List PyData}, DpAll K H xs ds → DpAll K H (xs ++ ys) (ds ++ es)
  | _, _, .nil => h
  | _, _, .cons a t => .cons a (dpAll_app h t)
theorem walk_data {K : PySem.W.Frag} {a : Addr} {xs : List V} : Walk (Itl K a) xs.length (fun H => SqL K H a xs) (YAt xs) := walk_list
section
variable {P : Program} {w : World} {K : PySem.W.Frag} {mg : Str → Option Value} {base : Heap}
def spAllKinds (K : PySem.W.Frag) : Sp := fun vs H Q _ => vs = [] ∧ ∀ v H', Same H H' → Dp K H' v (.list allK) → Q v H'
theorem ok__law_all_kinds (T : Top K mg) : FnOk P w K mg base (L2.CX P w) 1 T._law_all_kinds.a T._law_all_kinds.d [] (spAllKinds K) := by
  refine T._law_all_kinds.f.okX sc__law_all_kinds (fun vs H Q E h => ?_) (fun cdv A outer s H vs Q E hr h => ?_)
  · obtain ⟨rfl, _⟩ := h
    rfl
  · obtain ⟨rfl, q⟩ := h
    refine ⟨_, (pss_cons ((ps_set (i := 0) sc__law_all_kinds.nd rfl (Or.inl rfl) (pe_lit (d := .list rowsD) (by repeat (first | (refine Lits.cons ?_ ?_ (Nat.le_of_lt_succ ?_)) | decide | constructor))))) (pss_one ((ps_ret ((pe_op (op_cat) ((pe_lst (pa_cons (pe_lit (d := .tuple [.int 0, .tuple [.str "new"]]) (by repeat (first | (refine Lits.cons ?_ ?_ (Nat.le_of_lt_succ ?_)) | decide | constructor))) (pa_cons (pe_lit (d := .tuple [.int 1, .tuple []]) (by repeat (first | (refine Lits.cons ?_ ?_ (Nat.le_of_lt_succ ?_)) | decide | constructor))) (pa_cons (pe_lit (d := .tuple [.int 1, .tuple [.str "new"]]) (by repeat (first | (refine Lits.cons ?_ ?_ (Nat.le_of_lt_succ ?_)) | decide | constructor))) pa_nil))))) ((pe_lc (own := [("row", 1)]) (g := gName 1) (tt := tYes) rfl sc__law_all_kinds.nd (pi_list (pv 0)) (blkOk_by (N := n__law_all_kinds) (sc := defScope s__law_all_kinds) (by decide +kernel)) (fun _ _ _ _ _ => pg_name (i := 1) sc__law_all_kinds.nd rfl (Or.inl rfl)) (fun _ _ _ _ _ => pts_nil) (fun _ _ _ _ _ => (pe_tup (pa_cons (pe_int) (pa_cons (pv 1) pa_nil)))))))))))), ?_⟩
    intro v H1 s1 hv
    cases hv with
    | @lst a xs _ hsq' ha' =>
      intro v1 H2 s2 h1 v2 H3 s3 h2 v3 H4 s4 h3
      refine ⟨by show 3 ≤ sizeLine; decide, fun l1 hl1 => ?_⟩
      have s5 : Same H4 (upd H4 l1 (.lst [v1, v2, v3])) := same_upd (Same.refl H4) hl1
      have hl1' : (upd H4 l1 (.lst [v1, v2, v3])) l1 = some (.lst [v1, v2, v3]) := upd_same
      generalize upd H4 l1 (.lst [v1, v2, v3]) = H5 at s5 hl1' ⊢
      have s15 := ((s2.trans s3).trans s4).trans s5
      have ha5 := dpAll_same s15 ha'
      have hl := all_len ha'
      refine ⟨_, rfl, _, rfl, ⟨_, s15.seq hsq'⟩, fun D hD => ?_⟩
      have fl : ∀ d ∈ rowsD, flatD d = true := by decide +kernel
      refine lc_rel (i := 1) (K := K) (walk_list (xs := xs)) (fun j d => ∃ r, rowsD[j]? = some r ∧ d = .tuple [.int 2, r]) (fun H s => s.seq (s15.seq hsq')) hD (by rw [hl]; decide) (fun _ => rfl) ?_ ?_
      · rintro j x H6 H6' hj s6 ⟨rfl, hx⟩
        refine ⟨Same.refl _, fun Q1 q1 => ?_⟩
        obtain ⟨dj, hdj, hxd⟩ := all_at (dpAll_same s6 ha5) j x hx
        refine ⟨_, rfl, by show 2 ≤ sizeLine; decide, fun p hp => ?_⟩
        have s7 : Same H6' (upd H6' p (.tup [.int 2, x])) := same_upd (Same.refl _) hp
        refine q1 _ (.tuple [.int 2, dj]) _ s7 (.tup (SqT.of upd_same) (.cons (.int 2) (.cons (dp_same s7 hxd) .nil))) ⟨dj, hdj, rfl⟩ ?_
        show (true && (flatD dj && true)) = true
        rw [fl dj (List.mem_of_getElem? hdj)]
        rfl
      · intro H6 vs ds s6 hD6 ha6 hl6 hr6
        have eds : ds = rowsD.map fun r => .tuple [.int 2, r] := by
          refine List.ext_getElem? fun j => ?_
          rw [List.getElem?_map]
          cases e : ds[j]? with
          | some d =>
            obtain ⟨r, h1, rfl⟩ := hr6 j d e
            rw [h1]
            rfl
          | none =>
            have : rowsD[j]? = none := by
              rw [List.getElem?_eq_none_iff] at e ⊢
              rw [hl6, hl] at e
              exact e
            rw [this]
            rfl
        subst eds
        have s26 := s15.trans s6
        refine ⟨l1, D, _, _, rfl, rfl, s6 _ _ hl1', hD6, ?_, fun p hp => ?_⟩
        · have := all_len ha6
          show 3 + vs.length ≤ sizeLine
          rw [this]
          exact small (by decide)
        · have s7 : Same H6 (upd H6 p (.lst ([v1, v2, v3] ++ vs))) := same_upd (Same.refl _) hp
          have s37 := ((s3.trans s4).trans s5).trans (s6.trans s7)
          refine q _ _ (s1.trans (s26.trans s7)) (.lst (SqL.of upd_same) (dpAll_app (dpAll_same s7 ha6) (ds := kinds3) ?_))
          exact .cons (dp_same s37 h1) (.cons (dp_same ((s4.trans s5).trans (s6.trans s7)) h2) (.cons (dp_same (s5.trans (s6.trans s7)) h3) .nil))
end
end K41

end

section
set_option Elab.async false
set_option linter.all false
set_option maxRecDepth 100000
set_option maxHeartbeats 4000000
/-! Drawn kinds. -/
namespace K41
open PySem PySem.Spec PyProof.Rows L2 KX
/-- what stands beside a dict that turns -/
theorem sqL_upd {K : PySem.W.Frag} {H : Hp} {d a : Addr} {o : HO} {kvs : List (Key × V)} {xs : List V} (hd : H d = some (.dK kvs)) (h : SqL K H a xs) : SqL K (upd H d o) a xs := by
  have ne : ∀ {u : HO}, H a = some u → (∀ l, u ≠ .dK l) → a ≠ d := fun {u} e h' z => by
    rw [z, hd] at e
    exact h' _ (Option.some.inj e).symm
  rcases h with (h | ⟨o, h⟩) | h
  · exact .inl (.inl (by rw [upd_ne (ne h fun l z => nomatch z)]; exact h))
  · exact .inl (.inr ⟨o, by rw [upd_ne (ne h fun l z => nomatch z)]; exact h⟩)
  · exact .inr h
theorem draw_upd {K : PySem.W.Frag} {H : Hp} {d : Addr} {o : HO} {kvs : List (Key × V)} {v : V} (hd : H d = some (.dK kvs)) (h : DrawAt K H v) : DrawAt K (upd H d o) v := by
  obtain ⟨dd, a, ns, h1, h2, h3, h4⟩ := h
  refine ⟨dd, a, ns, h1, ?_, sqL_upd hd h3, h4⟩
  rw [upd_ne (fun z => by
    rw [z, hd] at h2
    exact (nomatch (show HO.dK kvs = HO.ext _ from Option.some.inj h2)))]
  exact h2
theorem same_upd' {H0 H : Hp} {D : Addr} {o : HO} (s : Same H0 H) (h : H0 D = none) : Same H0 (upd H D o) := same_upd s h
mutual
theorem dp_updK {K : PySem.W.Frag} {H : Hp} {D : Addr} {o : HO} {kvs : List (Key × V)} (h : H D = some (.dK kvs)) : ∀ {d : PyData} {v : V}, Dp K H v d → Dp K (upd H D o) v d
  | .none, _, .non => .non
  | .bool _, _, .bl b => .bl b
  | .int _, _, .int i => .int i
  | .str _, _, .str x => .str x
  | .list _, _, .lst hs ha => .lst (sqL_upd h hs) (dpAll_updK h ha)
  | .tuple ds, _, .tup (a := a) (xs := xs) hs ha => .tup (by
      have ne : ∀ {u : HO}, H a = some u → (∀ l, u ≠ .dK l) → a ≠ D := fun {u} e h' z => by
        rw [z, h] at e
        exact h' _ (Option.some.inj e).symm
      rcases hs with (hs | ⟨o, hs⟩) | hs
      · exact .inl (.inl (by rw [upd_ne (ne hs fun l z => nomatch z)]; exact hs))
      · exact .inl (.inr ⟨o, by rw [upd_ne (ne hs fun l z => nomatch z)]; exact hs⟩)
      · exact .inr hs) (dpAll_updK h ha)
theorem dpAll_updK {K : PySem.W.Frag} {H : Hp} {D : Addr} {o : HO} {kvs : List (Key × V)} (h : H D = some (.dK kvs)) : ∀ {ds : List PyData} {xs : List V}, DpAll K H xs ds → DpAll K (upd H D o) xs ds
  | [], _, .nil => .nil
  | _ :: _, _, .cons hd tl => .cons (dp_updK h hd) (dpAll_updK h tl)
end
theorem list_val {K : PySem.W.Frag} {H : Hp} {v : V} {ds : List PyData} (h : Dp K H v (.list ds)) : ∃ a xs, v = .ref a ∧ SqL K H a xs ∧ DpAll K H xs ds := by
  cases h with
  | lst h a => exact ⟨_, _, rfl, h, a⟩
theorem tup_val {K : PySem.W.Frag} {H : Hp} {v : V} {ds : List PyData} (h : Dp K H v (.tuple ds)) : ∃ a xs, v = .ref a ∧ SqT K H a xs ∧ DpAll K H xs ds := by
  cases h with
  | tup h a => exact ⟨_, _, rfl, h, a⟩
def nm5 : List Str := ["put", "cut", "set", "b", "swap"]
structure GoodL (L : List Ent) : Prop where
  nm : ∀ e ∈ L, e.1 ∈ nm5
  kd : ∀ e ∈ L, e.2.2 ∈ allK
  df : L.Pairwise fun a b => PyData.eqv a.2.2 b.2.2 = false
  nd : (L.map (·.1)).Nodup
theorem allK_sym : ∀ a ∈ allK, ∀ b ∈ allK, PyData.eqv a b = PyData.eqv b a := by decide +kernel
theorem allK_kind : ∀ a ∈ allK, isKindD a = true := by decide +kernel
theorem allK_shape : ∀ a ∈ allK, SeqAt.shaped (.list [a]) = true := by decide +kernel
theorem allK_small : ∀ a ∈ allK, (match a with | .tuple [_, b] => decide (lenD b ≤ 100) | _ => true) = true := by decide +kernel
theorem nm5_short : ∀ n ∈ nm5, n.length ≤ 1000 := by decide +kernel
theorem nm5_name : ∀ n ∈ nm5, isNameS n = true := by decide +kernel
theorem smallD_of {a : PyData} (h : (match a with | .tuple [_, b] => decide (lenD b ≤ 100) | _ => true) = true) : smallD a := by
  unfold smallD
  split
  · exact of_decide_eq_true h
  · trivial
theorem nm5_nodup : nm5.Nodup := by decide +kernel
theorem nm5_at {K : PySem.W.Frag} {H : Hp} {xs : List V} {i : Nat} {n : Str} (h : DpAll K H xs (nm5.map .str)) (hn : nm5[i]? = some n) : xs[i]? = some (.str n) := by
  obtain ⟨x, h1, h2⟩ := all_ix h i (.str n) (by rw [List.getElem?_map, hn]; rfl)
  cases h2
  exact h1
theorem GoodL.put {L : List Ent} (g : GoodL L) {n : Str} {x : V} {dx : PyData} (hn : n ∈ nm5) (hx : dx ∈ allK) (h1 : ∀ e ∈ L, e.1 ≠ n) (h2 : (L.map fun e => e.2.2).any (fun z => PyData.eqv z dx) = false) : GoodL (L ++ [(n, x, dx)]) := by
  refine ⟨fun e he => ?_, fun e he => ?_, ?_, ?_⟩
  · rcases List.mem_append.mp he with z | z
    · exact g.nm e z
    · rw [List.mem_singleton.mp z]
      exact hn
  · rcases List.mem_append.mp he with z | z
    · exact g.kd e z
    · rw [List.mem_singleton.mp z]
      exact hx
  · refine List.pairwise_append.mpr ⟨g.df, List.pairwise_singleton _ _, fun a ha b hb => ?_⟩
    rw [List.mem_singleton.mp hb]
    have := List.any_eq_false.mp h2 a.2.2 (List.mem_map_of_mem ha)
    simpa using this
  · rw [List.map_append]
    refine List.nodup_append.mpr ⟨g.nd, by simp, fun a ha b hb z => ?_⟩
    obtain ⟨e, he, rfl⟩ := List.mem_map.mp ha
    simp at hb
    subst hb
    exact h1 e he z
theorem kvs_vals {L : List Ent} : (kvsT L).map (·.2) = L.map fun e => e.2.1 := by
  unfold kvsT
  rw [List.map_map]
  rfl
theorem kvs_app {L : List Ent} {n : Str} {x : V} {dx : PyData} : kvsT (L ++ [(n, x, dx)]) = kvsT L ++ [(Sum.inr n, x)] := by
  unfold kvsT
  rw [List.map_append]
  rfl
theorem GoodL.ents {K : PySem.W.Frag} {H : Hp} {L : List Ent} (g : GoodL L) (dp : ∀ e ∈ L, Dp K H e.2.1 e.2.2) (few : L.length ≤ 10) : Ents K H L :=
  ⟨dp, fun e he => allK_shape _ (g.kd e he), fun e he => smallD_of (allK_small _ (g.kd e he)), fun e he => nm5_short _ (g.nm e he), g.nd, few⟩
section
variable {P : Program} {w : World} {K : PySem.W.Frag} {mg : Str → Option Value} {base : Heap}
def spKinds (K : PySem.W.Frag) : Sp := fun vs H Q _ => ∃ v, vs = [v, .int 4] ∧ DrawAt K H v ∧ ∀ a L H', Same H H' → Told K H' a L → GoodL L → 0 < L.length → L.length ≤ 4 → Q (.ref a) H'
theorem ok__law_kinds (T : Top K mg) : FnOk P w K mg base (L2.CX P w) 4 T._law_kinds.a T._law_kinds.d ["draw", "most"] (spKinds K) := by
  refine T._law_kinds.f.okX sc__law_kinds (fun vs H Q E h => ?_) (fun cdv A outer s H vs Q E hr h => ?_)
  · obtain ⟨v, rfl, _⟩ := h
    rfl
  · obtain ⟨v, rfl, hd, q⟩ := h
    refine ⟨_, (pss_cons (ps_par (i := 2) (j := 3) (by rfl) sc__law_kinds.nd rfl rfl (by decide) rfl rfl (pa_cons (pe_call0 (ok__law_all_kinds T) (hr.mono (by decide)) (by rfl) T._law_all_kinds.m T._law_all_kinds.f.kp T._law_all_kinds.b .nil pX) (pa_cons pe_dnewK pa_nil)) (by rfl)) (pss_cons ((ps_set (i := 4) sc__law_kinds.nd rfl (Or.inl rfl) (pe_lit (d := .list (nm5.map .str)) (by repeat (first | (refine Lits.cons ?_ ?_ (Nat.le_of_lt_succ ?_)) | decide | constructor))))) (pss_cons ((ps_for pO rfl (pi_range1 (by rfl) T.bf.range_ (pa_cons (pe_op (op_add) (pe_int) ((pe_call (ok__law_take T) (hr.mono (by decide)) (by rfl) T._law_take.m T._law_take.f.kp T._law_take.b .nil pX (pa_cons (pv 0) (pa_cons (pv 1) pa_nil))))) pa_nil)) (pg_name (i := 5) sc__law_kinds.nd rfl (Or.inl rfl)) ((pss_cons ((ps_set (i := 6) sc__law_kinds.nd rfl (Or.inl rfl) (pe_ifExp (pt_cmpR (op_eq) ((pe_call (ok__law_take T) (hr.mono (by decide)) (by rfl) T._law_take.m T._law_take.f.kp T._law_take.b .nil pX (pa_cons (pv 0) (pa_cons (pe_int) pa_nil)))) (pe_int) (nomark _)) (pe_call (ok__law_pick T) (hr.mono (by decide)) (by rfl) T._law_pick.m T._law_pick.f.kp T._law_pick.b .nil pX (pa_cons (pv 0) (pa_cons (pe_slice sl_list (pv 2) po_none (po_some pe_int)) pa_nil))) (pe_call (ok__law_pick T) (hr.mono (by decide)) (by rfl) T._law_pick.m T._law_pick.f.kp T._law_pick.b .nil pX (pa_cons (pv 0) (pa_cons (pv 2) pa_nil)))))) (pss_one ((ps_if ((pt_cmpR (op_notInD (hu65 hr)) (pv 6) (pe_listValues (by rfl) (pv 3) (by rfl) T.bf.list_ (by decide +kernel)) (by rfl))) ((pss_one (ps_dput (hu_of hr) (pv 3) (pe_ix (ix_list) (pv 4) (pv 5) (fun _ _ => rfl)) (pv 6) rfl))) (pss_nil)))))))) (pss_one ((ps_ret (pv 3))))))), ?_⟩
    refine ⟨rfl, fun vk H1 s1 hvk => ?_⟩
    intro d hdn
    refine ⟨_, _, rfl, ?_⟩
    have hdN : H d = none := by
      cases z : H d with
      | none => rfl
      | some u => rw [s1 _ _ z] at hdn; cases hdn
    have s2 : Same H1 (upd H1 d (.dK [])) := same_upd (Same.refl _) hdn
    have hd2 : (upd H1 d (.dK [])) d = some (.dK (kvsT [])) := upd_same
    generalize upd H1 d (.dK []) = H2 at s2 hd2 ⊢
    intro vn H3 s3 hvn
    refine ⟨_, rfl, _, rfl, v, 4, rfl, hd.same ((s1.trans s2).trans s3), by omega, fun r H4 s4 hr4 => ?_⟩
    have s04 := (s1.trans s2).trans (s3.trans s4)
    have s24 := s3.trans s4
    have er : (1 + (r : Int)).toNat = 1 + r := by omega
    refine ⟨_, _, rfl, rfl, _, rfl, by omega, by omega, ?_⟩
    rw [er]
    refine for_it (walk_range (lo := 0) (n := 1 + r)) (fun i σ H' => (∃ x5 x6, σ = [some v, some (.int 4), some vk, some (.ref d), some vn, x5, x6]) ∧ Same H H' ∧ DrawAt K H' v ∧ Dp K H' vk (.list allK) ∧ Dp K H' vn (.list (nm5.map .str)) ∧
      ∃ L, H' d = some (.dK (kvsT L)) ∧ (∀ e ∈ L, Dp K H' e.2.1 e.2.2) ∧ GoodL L ∧ L.length ≤ i ∧ (∀ e ∈ L, ∃ j, j < i ∧ nm5[j]? = some e.1) ∧ (0 < i → 0 < L.length))
      ⟨⟨_, _, rfl⟩, s04, hd.same s04, dp_same (s2.trans s24) hvk, dp_same s4 hvn, [], s24 _ _ hd2, fun e he => by simp at he, ⟨fun e he => by simp at he, fun e he => by simp at he, .nil, by simp⟩, by simp, fun e he => by simp at he, fun h => absurd h (by omega)⟩
      (fun _ _ _ _ _ => trivial) ?turn ?after
    case turn =>
      rintro i x σ H5 H5' hi ⟨⟨x5, x6, rfl⟩, s05, hdr5, hvk5, hvn5, L, hd5, dp5, hG, hlen, hI, hpos⟩ ⟨rfl, rfl⟩
      have hi4 : i < 5 := by omega
      obtain ⟨n, hni⟩ : ∃ n, nm5[i]? = some n := ⟨_, List.getElem?_eq_getElem (by show i < 5; exact hi4)⟩
      refine ⟨_, rfl, v, 2, rfl, hdr5, by omega, fun r2 H6 s6 h2 => ⟨rfl, _, rfl, ?_⟩⟩
      have s06 := s05.trans s6
      have hd6 := s6 _ _ hd5
      have dp6 : ∀ e ∈ L, Dp K H6 e.2.1 e.2.2 := fun e he => dp_same s6 (dp5 e he)
      have hdr6 := hdr5.same s6
      have hvk6 := dp_same s6 hvk5
      have hvn6 := dp_same s6 hvn5
      cases hvk6' : hvk6 with
      | @lst ak xk _ hsk hak =>
        have hlk := all_len hak
        refine ite2 (fun _ => ?_) (fun _ => ?_)
        · refine ⟨_, rfl, _, rfl, _, rfl, ak, xk, rfl, hsk, fun p hp => ?_⟩
          have e3 : cutV xk none (some 3) = xk.take 3 := cut_take (i := 3) (by rw [hlk]; decide)
          rw [e3]
          have sp : Same H6 (upd H6 p (.lst (xk.take 3))) := same_upd (Same.refl _) hp
          refine ⟨v, p, xk.take 3, rfl, hdr6.same sp, .inl (SqL.of upd_same), by rw [List.length_take, hlk]; decide, fun x hx H7 s7 => ?_⟩
          obtain ⟨dx, hdx, hx6⟩ := all_get hak x (List.mem_of_mem_take hx)
          have s67 := sp.trans s7
          have hx7 := dp_same s67 hx6
          (
            have s07 := s06.trans s67
            have hd7 := s67 _ _ hd6
            have dp7 : ∀ e ∈ L, Dp K H7 e.2.1 e.2.2 := fun e he => dp_same s67 (dp6 e he)
            have e7 := hG.ents dp7 (by omega)
            refine ⟨_, rfl, _, rfl, d, kvsT L, rfl, hd7, fun l hl => ?_⟩
            rw [kvs_vals]
            have s8 : Same H7 (upd H7 l (.lst (L.map fun e => e.2.1))) := same_upd (Same.refl _) hl
            have hl8 : (upd H7 l (.lst (L.map fun e => e.2.1))) l = some (.lst (L.map fun e => e.2.1)) := upd_same
            generalize upd H7 l (.lst (L.map fun e => e.2.1)) = H8 at s8 hl8 ⊢
            have s68 := s67.trans s8
            have hd8 := s8 _ _ hd7
            have dp8 : ∀ e ∈ L, Dp K H8 e.2.1 e.2.2 := fun e he => dp_same s8 (dp7 e he)
            have hx8 := dp_same s8 hx7
            refine ⟨dx, L.map (fun e : Ent => e.2.2), hx8, .lst (SqL.of hl8) (dpAll_of dp8), shaped_el (allK_shape _ hdx), shaped_all (fun z hz => by obtain ⟨e, he, rfl⟩ := List.mem_map.mp hz; exact allK_shape _ (hG.kd e he)), _, rfl, ?_⟩
            refine ite2 (fun c => ?_) (fun c => ?_)
            · have c : (L.map fun e => e.2.2).any (fun z => PyData.eqv z dx) = false := by simpa using c
              obtain ⟨an, xn, rfl, hsn', hxn⟩ := list_val (dp_same s68 hvn6)
              have hnew : ∀ e ∈ L, e.1 ≠ n := fun e he z => by
                obtain ⟨j, hj, hnj⟩ := hI e he
                have := (List.getElem?_inj (by show i < 5; omega) nm5_nodup).mp (hni.trans (by rw [← z, ← hnj]))
                omega
              refine ⟨_, rfl, _, rfl, _, rfl, _, rfl, an, xn, _, _, rfl, rfl, hsn', by rw [Int.zero_add]; exact atI_nat (nm5_at hxn hni), d, _, rfl, DPut.k (k := Sum.inr n) hd8 (by rw [kvs_len]; exact small1000 (by omega)), ?_⟩
              rw [putK_new hnew]
              refine ⟨⟨_, _, rfl⟩, (same_upd' (s06.trans s68) hdN), draw_upd hd8 (hdr6.same s68), dp_updK hd8 (dp_same s68 hvk6), dp_updK hd8 (dp_same s68 hvn6), L ++ [(n, x, dx)], by rw [upd_same, kvs_app], fun e he => ?_, hG.put (List.mem_of_getElem? hni) hdx hnew c, by rw [List.length_append]; show L.length + 1 ≤ i + 1; omega, fun e he => ?_, fun _ => by rw [List.length_append]; show 0 < L.length + 1; omega⟩
              · rcases List.mem_append.mp he with z | z
                · exact dp_updK hd8 (dp8 e z)
                · rw [List.mem_singleton.mp z]
                  exact dp_updK hd8 hx8
              · rcases List.mem_append.mp he with z | z
                · obtain ⟨j, hj, hnj⟩ := hI e z
                  exact ⟨j, by omega, hnj⟩
                · rw [List.mem_singleton.mp z]
                  exact ⟨i, by omega, hni⟩
            · have c : (L.map fun e => e.2.2).any (fun z => PyData.eqv z dx) = true := by simpa using c
              refine ⟨⟨_, _, rfl⟩, s06.trans s68, hdr6.same s68, dp_same s68 hvk6, dp_same s68 hvn6, L, hd8, dp8, hG, by omega, fun e he => (hI e he).imp fun j h => ⟨by omega, h.2⟩, fun _ => ?_⟩
              cases L with
              | nil => simp at c
              | cons a r => simp
          )
        · refine ⟨_, rfl, _, rfl, v, ak, xk, rfl, hdr6, .inl hsk, by rw [hlk]; decide, fun x hx H7 s67 => ?_⟩
          obtain ⟨dx, hdx, hx6⟩ := all_get hak x hx
          have hx7 := dp_same s67 hx6
          (
            have s07 := s06.trans s67
            have hd7 := s67 _ _ hd6
            have dp7 : ∀ e ∈ L, Dp K H7 e.2.1 e.2.2 := fun e he => dp_same s67 (dp6 e he)
            have e7 := hG.ents dp7 (by omega)
            refine ⟨_, rfl, _, rfl, d, kvsT L, rfl, hd7, fun l hl => ?_⟩
            rw [kvs_vals]
            have s8 : Same H7 (upd H7 l (.lst (L.map fun e => e.2.1))) := same_upd (Same.refl _) hl
            have hl8 : (upd H7 l (.lst (L.map fun e => e.2.1))) l = some (.lst (L.map fun e => e.2.1)) := upd_same
            generalize upd H7 l (.lst (L.map fun e => e.2.1)) = H8 at s8 hl8 ⊢
            have s68 := s67.trans s8
            have hd8 := s8 _ _ hd7
            have dp8 : ∀ e ∈ L, Dp K H8 e.2.1 e.2.2 := fun e he => dp_same s8 (dp7 e he)
            have hx8 := dp_same s8 hx7
            refine ⟨dx, L.map (fun e : Ent => e.2.2), hx8, .lst (SqL.of hl8) (dpAll_of dp8), shaped_el (allK_shape _ hdx), shaped_all (fun z hz => by obtain ⟨e, he, rfl⟩ := List.mem_map.mp hz; exact allK_shape _ (hG.kd e he)), _, rfl, ?_⟩
            refine ite2 (fun c => ?_) (fun c => ?_)
            · have c : (L.map fun e => e.2.2).any (fun z => PyData.eqv z dx) = false := by simpa using c
              obtain ⟨an, xn, rfl, hsn', hxn⟩ := list_val (dp_same s68 hvn6)
              have hnew : ∀ e ∈ L, e.1 ≠ n := fun e he z => by
                obtain ⟨j, hj, hnj⟩ := hI e he
                have := (List.getElem?_inj (by show i < 5; omega) nm5_nodup).mp (hni.trans (by rw [← z, ← hnj]))
                omega
              refine ⟨_, rfl, _, rfl, _, rfl, _, rfl, an, xn, _, _, rfl, rfl, hsn', by rw [Int.zero_add]; exact atI_nat (nm5_at hxn hni), d, _, rfl, DPut.k (k := Sum.inr n) hd8 (by rw [kvs_len]; exact small1000 (by omega)), ?_⟩
              rw [putK_new hnew]
              refine ⟨⟨_, _, rfl⟩, (same_upd' (s06.trans s68) hdN), draw_upd hd8 (hdr6.same s68), dp_updK hd8 (dp_same s68 hvk6), dp_updK hd8 (dp_same s68 hvn6), L ++ [(n, x, dx)], by rw [upd_same, kvs_app], fun e he => ?_, hG.put (List.mem_of_getElem? hni) hdx hnew c, by rw [List.length_append]; show L.length + 1 ≤ i + 1; omega, fun e he => ?_, fun _ => by rw [List.length_append]; show 0 < L.length + 1; omega⟩
              · rcases List.mem_append.mp he with z | z
                · exact dp_updK hd8 (dp8 e z)
                · rw [List.mem_singleton.mp z]
                  exact dp_updK hd8 hx8
              · rcases List.mem_append.mp he with z | z
                · obtain ⟨j, hj, hnj⟩ := hI e z
                  exact ⟨j, by omega, hnj⟩
                · rw [List.mem_singleton.mp z]
                  exact ⟨i, by omega, hni⟩
            · have c : (L.map fun e => e.2.2).any (fun z => PyData.eqv z dx) = true := by simpa using c
              refine ⟨⟨_, _, rfl⟩, s06.trans s68, hdr6.same s68, dp_same s68 hvk6, dp_same s68 hvn6, L, hd8, dp8, hG, by omega, fun e he => (hI e he).imp fun j h => ⟨by omega, h.2⟩, fun _ => ?_⟩
              cases L with
              | nil => simp at c
              | cons a r => simp
          )
    case after =>
      rintro σ H5 ⟨⟨x5, x6, rfl⟩, s05, hdr5, hvk5, hvn5, L, hd5, dp5, hG, hlen, hI, hpos⟩
      exact ⟨_, rfl, q d L H5 s05 ⟨hd5, hG.ents dp5 (by omega)⟩ hG (hpos (by omega)) (by omega)⟩
end
end K41

end

section
set_option Elab.async false
set_option linter.all false
set_option maxRecDepth 100000
set_option maxHeartbeats 4000000
/-! The law's own doing. -/
namespace K41
open PySem PySem.Spec PyProof.Rows L2 KX
theorem catA_of {K : PySem.W.Frag} {H : Hp} {a b : Addr} {xs ys : List V} {Q : VK} (ha : SqT K H a xs) (hb : SqT K H b ys) (sm : xs.length + ys.length ≤ sizeLine) (q : ∀ c H', Same H H' → SqT K H' c (xs ++ ys) → Q (.ref c) H') : rCatA K (.ref a) (.ref b) H Q := by
  refine ⟨a, b, xs, ys, rfl, rfl, ha, hb, sm, fun e => ?_, fun _ e => ?_, fun _ _ p hp => ?_⟩
  · refine q b H (Same.refl H) ?_
    rw [e]
    exact hb
  · refine q a H (Same.refl H) ?_
    rw [e, List.append_nil]
    exact ha
  · exact q p _ (same_upd (Same.refl H) hp) (SqT.of upd_same)
section
variable {P : Program} {w : World} {K : PySem.W.Frag} {mg : Str → Option Value} {base : Heap}
def spHasNew (K : PySem.W.Frag) : Sp := fun vs H Q _ => ∃ a L e wd ps, vs = [.ref a, .str e.1] ∧ Told K H a L ∧ e ∈ L ∧ e.2.2 = .tuple [.int wd, .tuple ps] ∧ ps.all (isPartD wd) = true ∧ Q (.bl (hasNewD ps)) H
theorem ok__law_has_new (T : Top K mg) : FnOk P w K mg base (L2.CX P w) 1 T._law_has_new.a T._law_has_new.d ["kinds", "name"] (spHasNew K) := by
  refine T._law_has_new.f.okX sc__law_has_new (fun vs H Q E h => ?_) (fun cdv A outer s H vs Q E hr h => ?_)
  · obtain ⟨a, L, e, wd, ps, rfl, _⟩ := h
    rfl
  · obtain ⟨a, L, e, wd, ps, rfl, hL, em, ed, hps, q⟩ := h
    refine ⟨_, (pss_one ((ps_ret ((pe_cmpR (op_in_seq) (pe_str) ((pe_ix (ix_tup) ((pe_dget (hu_of hr) (pv 0) (pv 1) (fun _ _ => rfl))) (pe_int) (fun _ _ => rfl))) (by rfl)))))), ?_⟩
    have dp := hL.ok.dp e em
    rw [ed] at dp
    obtain ⟨ka, kb, xs, rx, h1, h2, h3⟩ := kind_val dp
    obtain ⟨f1, f2⟩ := new_in h3 hps
    have hg := hL.get em
    rw [rx] at hg
    refine ⟨_, rfl, _, rfl, a, _, rfl, hg, ka, _, 1, _, rfl, rfl, h1, rfl, kb, xs, rfl, .inr h2, rfl, f1, qb q f2⟩
def spMade (K : PySem.W.Frag) : Sp := fun vs H Q _ => ∃ a L e wd ps p h l, vs = [.ref a, .str e.1, .int p, .int h, .int l] ∧ Told K H a L ∧ e ∈ L ∧ e.2.2 = .tuple [.int wd, .tuple ps] ∧ ps.all (isPartD wd) = true ∧
  ∀ v H', Same H H' → Dp K H' v (.tuple [.str e.1, .int p, if hasNewD ps = true then .int l else .none, .int h]) → Q v H'
theorem ok__law_made (T : Top K mg) : FnOk P w K mg base (L2.CX P w) 2 T._law_made.a T._law_made.d ["kinds", "name", "place", "hand", "letter"] (spMade K) := by
  refine T._law_made.f.okX sc__law_made (fun vs H Q E h => ?_) (fun cdv A outer s H vs Q E hr h => ?_)
  · obtain ⟨a, L, e, wd, ps, p, h, l, rfl, _⟩ := h
    rfl
  · obtain ⟨a, L, e, wd, ps, p, h, l, rfl, hL, em, ed, hps, q⟩ := h
    refine ⟨_, (pss_one ((ps_ret ((pe_tup (pa_cons (pv 1) (pa_cons (pv 2) (pa_cons (pe_ifExp (pt_val ((pe_call (ok__law_has_new T) (hr.mono (by decide)) (by rfl) T._law_has_new.m T._law_has_new.f.kp T._law_has_new.b .nil pX (pa_cons (pv 0) (pa_cons (pv 1) pa_nil))))) (pv 4) pe_non) (pa_cons (pv 3) pa_nil))))))))), ?_⟩
    refine ⟨_, rfl, _, rfl, _, rfl, _, rfl, a, L, e, wd, ps, rfl, hL, em, ed, hps, _, rfl, ?_⟩
    cases en : hasNewD ps with
    | true =>
      refine iteT ⟨_, rfl, _, rfl, by show 4 ≤ sizeLine; decide, fun t ht => ?_⟩
      rw [en] at q
      exact q _ _ (same_upd (Same.refl H) ht) (.tup (SqT.of upd_same) (.cons (.str _) (.cons (.int _) (.cons (.int _) (.cons (.int _) .nil)))))
    | false =>
      refine iteF ⟨_, rfl, by show 4 ≤ sizeLine; decide, fun t ht => ?_⟩
      rw [en] at q
      exact q _ _ (same_upd (Same.refl H) ht) (.tup (SqT.of upd_same) (.cons (.str _) (.cons (.int _) (.cons .non (.cons (.int _) .nil)))))
def spDo (K : PySem.W.Frag) : Sp := fun vs H Q _ => ∃ a L v vc t, vs = [.ref a, v, vc] ∧ Told K H a L ∧ TextAt K H v t ∧ t.length ≤ 700 ∧ ((vc = .non ∧ Q v H) ∨ ∃ e pl l h wd ps, e ∈ L ∧ e.2.2 = .tuple [.int wd, .tuple ps] ∧ ps.all (isPartD wd) = true ∧ ps.length ≤ 100 ∧ 0 ≤ wd ∧ ChangeAt K H vc e.1 pl l h ∧
  (hasNewD ps = true → isIntD l = true) ∧ if canD wd t pl l = true then ∀ b H', Same H H' → TextAt K H' (.ref b) (behindD t ps wd pl l) → Q (.ref b) H' else Q .non H)
theorem ok__law_do (T : Top K mg) : FnOk P w K mg base (L2.CX P w) 1 T._law_do.a T._law_do.d ["kinds", "text", "change"] (spDo K) := by
  refine T._law_do.f.okX sc__law_do (fun vs H Q E h => ?_) (fun cdv A outer s H vs Q E hr h => ?_)
  · obtain ⟨a, L, v, vc, t, rfl, _⟩ := h
    rfl
  · obtain ⟨a, L, v, vc, t, rfl, hL, ⟨b, rfl, hb⟩, sm, h⟩ := h
    refine ⟨_, (pss_cons ((ps_if ((pt_cmpR (op_isN) (pv 2) (pe_non) (nomark _))) ((pss_one ((ps_ret (pv 1))))) (pss_nil))) (pss_cons ((ps_asg (pv 2) (pg_tup rfl (pgs_cons (pg_name (i := 3) sc__law_do.nd rfl (Or.inl rfl)) (pgs_cons (pg_name (i := 4) sc__law_do.nd rfl (Or.inr rfl)) (pgs_cons (pg_name (i := 5) sc__law_do.nd rfl (Or.inr rfl)) (pgs_cons (pg_name (i := 6) sc__law_do.nd rfl (Or.inl rfl)) pgs_nil))))))) (pss_cons ((ps_asg ((pe_dget (hu_of hr) (pv 0) (pv 3) (fun _ _ => rfl))) (pg_tup rfl (pgs_cons (pg_name (i := 7) sc__law_do.nd rfl (Or.inl rfl)) (pgs_cons (pg_name (i := 8) sc__law_do.nd rfl (Or.inl rfl)) pgs_nil))))) (pss_cons ((ps_if (PW.pt (pw_or (pt_cmpR (op_lt) (pv 4) (pe_int) (nomark _)) (pw_or (pt_cmpR (op_gt) ((pe_op (op_add) (pv 4) (pv 7))) ((pe_callB call_len_seq (by rfl) T.bf.len_ PySem.boot_len (pa_cons (pv 1) pa_nil))) (nomark _)) (pw_or1 (PW.pt (pw_and (pt_cmpR (op_notN) (pv 5) (pe_non) (nomark _)) (pw_and1 (pt_cmpR (op_in_seq) (pv 5) (pv 1) (by rfl))))))))) ((pss_one ((ps_ret (pe_non))))) (pss_nil))) (pss_one ((ps_ret ((pe_op (op_catA) ((pe_op (op_catA) (pe_slice sl_tupA (pv 1) po_none (po_some (pv 4))) ((pe_callTy (call_tuple_of) (by rfl) T.bf.tuple_ (by decide +kernel) (pa_cons ((pe_lc (own := [("part", 9)]) (g := gName 9) (tt := tYes) rfl sc__law_do.nd (pi_tup (pv 8)) (blkOk_by (N := n__law_do) (sc := defScope s__law_do) (by decide +kernel)) (fun _ _ _ _ _ => pg_name (i := 9) sc__law_do.nd rfl (Or.inl rfl)) (fun _ _ _ _ _ => pts_nil) (fun _ _ _ _ _ => pe_ifExp (pt_cmpR (op_eq) (pv 9) (pe_str) (nomark _)) (pv 5) (pe_ix ((show IxR _ (rIxT K) from ix_tup)) (pv 1) ((pe_op (op_add) (pv 4) (pv 9))) (fun _ _ => rfl))))) pa_nil))))) (pe_slice sl_tupA (pv 1) (po_some (pe_op (op_add) (pv 4) (pv 7))) po_none)))))))))), ?_⟩
    rcases h with ⟨rfl, q⟩ | ⟨e, pl, l, h, wd, ps, em, ed, hps, psl, hw0, ⟨a', x, rfl, hc, hx⟩, hn, q⟩
    · exact ⟨_, rfl, rfl, _, rfl, iteT ⟨_, rfl, q⟩⟩
    · have dp := hL.ok.dp e em
      rw [ed] at dp
      obtain ⟨ka, kb, xs, rx, h1, h2, h3⟩ := kind_val dp
      have hl := all_len h3
      have hg := hL.get em
      rw [rx] at hg
      refine ⟨_, rfl, rfl, _, rfl, iteF ?_⟩
      refine ⟨_, rfl, a', _, rfl, hc, rfl, _, _, rfl, _, _, rfl, _, _, rfl, _, _, rfl, rfl, ?_⟩
      refine ⟨_, rfl, _, rfl, a, _, rfl, hg, ka, _, rfl, h1, rfl, _, _, rfl, _, _, rfl, rfl, ?_⟩
      have hltn : (t.map V.int).length = t.length := List.length_map _
      have fin : canD wd t pl l = (decide (0 ≤ pl) && (decide (pl ≤ (t.length : Int) - wd) && !memD l t)) := rfl
      have no : canD wd t pl l = false → Q .non H := fun z => by
        rw [z, if_neg (by simp)] at q
        exact q
      refine ⟨_, rfl, _, _, rfl, rfl, _, rfl, ?_⟩
      refine ite2 (fun c1 => ?_) (fun c1 => ?_)
      · have c1 : pl < 0 := of_decide_eq_true c1
        exact no (by rw [fin, decide_eq_false (by omega)]; rfl)
      have p0 : 0 ≤ pl := by
        have c1 : ¬ pl < 0 := fun z => c1 (decide_eq_true z)
        omega
      refine ⟨_, rfl, _, rfl, _, _, rfl, rfl, _, rfl, b, _, rfl, .inr hb, _, _, rfl, rfl, _, rfl, ?_⟩
      rw [hltn]
      refine ite2 (fun c2 => ?_) (fun c2 => ?_)
      · have c2 : pl + wd > (t.length : Int) := of_decide_eq_true c2
        exact no (by rw [fin, decide_eq_false (by omega : ¬ pl ≤ (t.length : Int) - wd)]; simp)
      have p1 : pl ≤ (t.length : Int) - wd := by
        have c2 : ¬ pl + wd > (t.length : Int) := fun z => c2 (decide_eq_true z)
        omega
      have hln : hasNewD ps = true → ∃ n, x = .int n ∧ l = .int n := fun z => by
        rcases hx with ⟨_, rfl⟩ | hx
        · exact absurd (hn z) (by simp [isIntD])
        · exact hx
      have rest : memD l t = false → True := fun _ => trivial
      have hcan : memD l t = false → ∀ c H', Same H H' → TextAt K H' (.ref c) (behindD t ps wd pl l) → Q (.ref c) H' := fun z => by
        rw [fin, decide_eq_true p0, decide_eq_true p1, z, if_pos (by rfl)] at q
        exact q
      have hnot : memD l t = true → Q .non H := fun z => no (by rw [fin, z]; simp)
      clear q no fin
      obtain ⟨pn, rfl⟩ := Int.eq_ofNat_of_zero_le p0
      obtain ⟨wn, rfl⟩ := Int.eq_ofNat_of_zero_le hw0
      rcases hx with ⟨rfl, rfl⟩ | ⟨ln, rfl, rfl⟩
      · refine ⟨_, rfl, rfl, _, rfl, iteF ?_⟩
        have q := hcan rfl
        (
          refine ⟨_, rfl, _, rfl, _, rfl, ?_⟩
          refine slA_of hb fun b1 H1 s1 hb1 => ?_
          rw [cut_take (by omega)] at hb1
          refine ⟨_, rfl, kb, rfl, ⟨_, sqT_same s1 h2⟩, fun D2 hD2 => ?_⟩
          refine lc_mapT (xs := xs) (i := 9) (putV t (pn : Nat) V.non) (Same.refl H1) (sqT_same s1 h2) hD2 (by omega) (fun _ => rfl) (fun y hy H2 s2 Q1 q1 => ?_) fun H2 s2 hD3 => ?_
          · obtain ⟨dy, hdm, hdy⟩ := all_get h3 y hy
            have hpart := List.all_eq_true.mp hps dy hdm
            cases hdy with
            | str z =>
              refine ⟨_, rfl, rfl, _, rfl, ?_⟩
              have en : z = "new" := of_decide_eq_true hpart
              subst en
              exact iteT ⟨_, rfl, q1 H2 (Same.refl H2)⟩
            | int k =>
              have hk2 : 0 ≤ k ∧ k < (wn : Int) := by
                have hpart : (decide (0 ≤ k) && decide (k < (wn : Int))) = true := hpart
                simpa using hpart
              obtain ⟨kn, rfl⟩ := Int.eq_ofNat_of_zero_le hk2.1
              have hlt : pn + kn < t.length := by omega
              have e1 : ((pn : Int) + (kn : Int)) = ((pn + kn : Nat) : Int) := by omega
              refine ⟨_, rfl, rfl, _, rfl, iteF ?_⟩
              refine ⟨_, rfl, _, rfl, _, rfl, _, _, rfl, rfl, b, _, _, V.int t[pn + kn], rfl, rfl, sqT_same (s1.trans s2) hb, ?_, ?_⟩
              · rw [e1]
                refine atI_nat ?_
                rw [List.getElem?_map, List.getElem?_eq_getElem hlt]
                rfl
              · have := q1 H2 (Same.refl H2)
                show Q1 _ H2
                have e2 : putV t (pn : Nat) V.non (.int (kn : Nat)) = V.int t[pn + kn] := by
                  show V.int _ = _
                  rw [e1, Int.toNat_natCast, List.getElem?_eq_getElem hlt]
                  rfl
                rw [← e2]
                exact this
            | non => simp [isPartD] at hpart
            | bl b => simp [isPartD] at hpart
            | lst a b => simp [isPartD] at hpart
            | tup a b => simp [isPartD] at hpart
          · rw [put_eq (t := t) (pl := (pn : Nat)) h3 hps hln] at hD3
            have s12 := s1.trans s2
            have e1 : ((pn : Int) + (wn : Int)) = ((pn + wn : Nat) : Int) := by omega
            refine ⟨D2, _, rfl, .inl ⟨SqL.of hD3, fun l2 hl2 => ?_⟩⟩
            have s3 : Same H2 (upd H2 l2 (.tup ((ps.map (partVal t (pn : Nat) PyData.none)).map V.int))) := same_upd (Same.refl _) hl2
            have hl2' : (upd H2 l2 (.tup ((ps.map (partVal t (pn : Nat) PyData.none)).map V.int))) l2 = some (.tup ((ps.map (partVal t (pn : Nat) PyData.none)).map V.int)) := upd_same
            generalize upd H2 l2 (.tup ((ps.map (partVal t (pn : Nat) PyData.none)).map V.int)) = H3 at s3 hl2' ⊢
            refine catA_of (sqT_same (s2.trans s3) hb1) (SqT.of hl2') ?_ fun c1 H4 s4 hc1 => ?_
            · rw [List.length_map, List.length_map, List.length_take, List.length_map]
              exact small (by omega)
            · refine ⟨_, rfl, ⟨_, rfl, _, rfl, _, _, rfl, rfl, _, rfl, ?_⟩⟩
              simp only [tNoPart]
              refine slA_of (sqT_same ((s12.trans s3).trans s4) hb) fun b3 H5 s5 hb3 => ?_
              rw [e1, cut_drop] at hb3
              refine catA_of (sqT_same s5 hc1) hb3 ?_ fun c2 H6 s6 hc2 => ?_
              · rw [List.length_append, List.length_map, List.length_map, List.length_take, List.length_map, List.length_drop, List.length_map]
                exact small (by omega)
              · refine q c2 H6 ((s12.trans s3).trans (s4.trans (s5.trans s6))) ⟨c2, rfl, ?_⟩
                unfold behindD
                rw [e1, Int.toNat_natCast, Int.toNat_natCast, List.map_append, List.map_append, List.map_take, List.map_drop, ← List.append_assoc]
                exact hc2
        )
      · have q := hcan
        refine ⟨_, rfl, rfl, _, rfl, iteT ⟨_, rfl, _, rfl, b, _, rfl, .inr hb, rfl, flat_ints t, _, rfl, ?_⟩⟩
        rw [if_neg (by simp), in_text t (.inr ⟨ln, rfl, rfl⟩)]
        refine ite2 (fun c3 => hnot c3) (fun c3 => ?_)
        have q := hcan (by simpa using c3)
        (
          refine ⟨_, rfl, _, rfl, _, rfl, ?_⟩
          refine slA_of hb fun b1 H1 s1 hb1 => ?_
          rw [cut_take (by omega)] at hb1
          refine ⟨_, rfl, kb, rfl, ⟨_, sqT_same s1 h2⟩, fun D2 hD2 => ?_⟩
          refine lc_mapT (xs := xs) (i := 9) (putV t (pn : Nat) (V.int ln)) (Same.refl H1) (sqT_same s1 h2) hD2 (by omega) (fun _ => rfl) (fun y hy H2 s2 Q1 q1 => ?_) fun H2 s2 hD3 => ?_
          · obtain ⟨dy, hdm, hdy⟩ := all_get h3 y hy
            have hpart := List.all_eq_true.mp hps dy hdm
            cases hdy with
            | str z =>
              refine ⟨_, rfl, rfl, _, rfl, ?_⟩
              have en : z = "new" := of_decide_eq_true hpart
              subst en
              exact iteT ⟨_, rfl, q1 H2 (Same.refl H2)⟩
            | int k =>
              have hk2 : 0 ≤ k ∧ k < (wn : Int) := by
                have hpart : (decide (0 ≤ k) && decide (k < (wn : Int))) = true := hpart
                simpa using hpart
              obtain ⟨kn, rfl⟩ := Int.eq_ofNat_of_zero_le hk2.1
              have hlt : pn + kn < t.length := by omega
              have e1 : ((pn : Int) + (kn : Int)) = ((pn + kn : Nat) : Int) := by omega
              refine ⟨_, rfl, rfl, _, rfl, iteF ?_⟩
              refine ⟨_, rfl, _, rfl, _, rfl, _, _, rfl, rfl, b, _, _, V.int t[pn + kn], rfl, rfl, sqT_same (s1.trans s2) hb, ?_, ?_⟩
              · rw [e1]
                refine atI_nat ?_
                rw [List.getElem?_map, List.getElem?_eq_getElem hlt]
                rfl
              · have := q1 H2 (Same.refl H2)
                show Q1 _ H2
                have e2 : putV t (pn : Nat) (V.int ln) (.int (kn : Nat)) = V.int t[pn + kn] := by
                  show V.int _ = _
                  rw [e1, Int.toNat_natCast, List.getElem?_eq_getElem hlt]
                  rfl
                rw [← e2]
                exact this
            | non => simp [isPartD] at hpart
            | bl b => simp [isPartD] at hpart
            | lst a b => simp [isPartD] at hpart
            | tup a b => simp [isPartD] at hpart
          · rw [put_eq (t := t) (pl := (pn : Nat)) h3 hps hln] at hD3
            have s12 := s1.trans s2
            have e1 : ((pn : Int) + (wn : Int)) = ((pn + wn : Nat) : Int) := by omega
            refine ⟨D2, _, rfl, .inl ⟨SqL.of hD3, fun l2 hl2 => ?_⟩⟩
            have s3 : Same H2 (upd H2 l2 (.tup ((ps.map (partVal t (pn : Nat) (PyData.int ln))).map V.int))) := same_upd (Same.refl _) hl2
            have hl2' : (upd H2 l2 (.tup ((ps.map (partVal t (pn : Nat) (PyData.int ln))).map V.int))) l2 = some (.tup ((ps.map (partVal t (pn : Nat) (PyData.int ln))).map V.int)) := upd_same
            generalize upd H2 l2 (.tup ((ps.map (partVal t (pn : Nat) (PyData.int ln))).map V.int)) = H3 at s3 hl2' ⊢
            refine catA_of (sqT_same (s2.trans s3) hb1) (SqT.of hl2') ?_ fun c1 H4 s4 hc1 => ?_
            · rw [List.length_map, List.length_map, List.length_take, List.length_map]
              exact small (by omega)
            · refine ⟨_, rfl, ⟨_, rfl, _, rfl, _, _, rfl, rfl, _, rfl, ?_⟩⟩
              simp only [tNoPart]
              refine slA_of (sqT_same ((s12.trans s3).trans s4) hb) fun b3 H5 s5 hb3 => ?_
              rw [e1, cut_drop] at hb3
              refine catA_of (sqT_same s5 hc1) hb3 ?_ fun c2 H6 s6 hc2 => ?_
              · rw [List.length_append, List.length_map, List.length_map, List.length_take, List.length_map, List.length_drop, List.length_map]
                exact small (by omega)
              · refine q c2 H6 ((s12.trans s3).trans (s4.trans (s5.trans s6))) ⟨c2, rfl, ?_⟩
                unfold behindD
                rw [e1, Int.toNat_natCast, Int.toNat_natCast, List.map_append, List.map_append, List.map_take, List.map_drop, ← List.append_assoc]
                exact hc2
        )
end
end K41

end

section
set_option Elab.async false
set_option linter.all false
set_option maxRecDepth 100000
set_option maxHeartbeats 4000000
/-! Things that may be kinds. -/
namespace K41
open PySem PySem.Spec PyProof.Rows L2 KX
def boolD : PyData → Bool
  | .bool _ => true
  | _ => false
theorem isi_boolD (d : PyData) : kitB (tyD d) "bool" = some (boolD d) := (isi_bool d).trans (by cases d <;> rfl)
def lawKindD : PyData → Bool
  | .tuple [a, b] => !boolD a && allK.any fun z => PyData.eqv z (.tuple [a, b])
  | _ => false
def smallB : PyData → Bool
  | .tuple [_, b] => decide (lenD b ≤ 100)
  | _ => true
theorem smallB_of {a : PyData} (h : smallB a = true) : smallD a := by
  unfold smallD
  unfold smallB at h
  split
  · exact of_decide_eq_true h
  · trivial
def okT (d : PyData) : Bool := (lawKindD d == isKindD d) && (SeqAt.shaped (.list [d]) && smallB d)
def parts5 : List PyData := [.int 0, .int 1, .str "new", .int 2, .str "old"]
def things : List PyData := [.none, .int 3, .tuple [], .tuple [.int 1], .list [.int 1, .tuple []], .tuple [.int 1, .list []], .tuple [.bool true, .tuple []], .tuple [.int 3, .tuple []], .tuple [.int (-1), .tuple []], .tuple [.str "1", .tuple []], .tuple [.int 0, .tuple [.str "new"], .int 0]]
def exL : Nat → List (List PyData)
  | 0 => [[]]
  | n + 1 => parts5.flatMap fun a => (exL n).map fun r => a :: r
theorem exL_mem : ∀ {ps : List PyData}, (∀ p ∈ ps, p ∈ parts5) → ps ∈ exL ps.length
  | [], _ => List.mem_singleton.mpr rfl
  | p :: r, h => List.mem_flatMap.mpr ⟨p, h p List.mem_cons_self, List.mem_map.mpr ⟨r, exL_mem fun x m => h x (List.mem_cons_of_mem _ m), rfl⟩⟩
inductive Thing : PyData → Prop where
  | ex {d} (h : d ∈ things) : Thing d
  | kd {d} (h : d ∈ allK) : Thing d
  | row {w : Nat} {ps} (hw : w < 3) (hl : ps.length < 5) (h : ∀ p ∈ ps, p ∈ parts5) : Thing (.tuple [.int (w : Nat), .tuple ps])
theorem ok_things : things.all okT = true := by decide +kernel
theorem ok_allK : allK.all okT = true := by decide +kernel
theorem ok_rows : ([0, 1, 2, 3, 4].all fun n => [0, 1, 2].all fun w => (exL n).all fun ps => okT (.tuple [.int ((w : Nat) : Int), .tuple ps])) = true := by decide +kernel
theorem Thing.okT {d : PyData} (h : Thing d) : K41.okT d = true := by
  cases h with
  | ex h => exact List.all_eq_true.mp ok_things _ h
  | kd h => exact List.all_eq_true.mp ok_allK _ h
  | @row w ps hw hl h =>
    have h1 := List.all_eq_true.mp ok_rows ps.length (by
      have : ps.length = 0 ∨ ps.length = 1 ∨ ps.length = 2 ∨ ps.length = 3 ∨ ps.length = 4 := by omega
      rcases this with e | e | e | e | e <;> rw [e] <;> simp)
    have h2 := List.all_eq_true.mp h1 w (by
      have : w = 0 ∨ w = 1 ∨ w = 2 := by omega
      rcases this with e | e | e <;> rw [e] <;> simp)
    exact List.all_eq_true.mp h2 ps (exL_mem h)
theorem Thing.law {d : PyData} (h : Thing d) : lawKindD d = isKindD d := by
  have := h.okT
  unfold K41.okT at this
  rw [Bool.and_eq_true] at this
  exact beq_iff_eq.mp this.1
theorem Thing.shape {d : PyData} (h : Thing d) : SeqAt.shaped (.list [d]) = true := by
  have := h.okT
  unfold K41.okT at this
  rw [Bool.and_eq_true, Bool.and_eq_true] at this
  exact this.2.1
theorem Thing.small {d : PyData} (h : Thing d) : smallD d := by
  have := h.okT
  unfold K41.okT at this
  rw [Bool.and_eq_true, Bool.and_eq_true] at this
  exact smallB_of this.2.2
theorem shaped_allK : SeqAt.shaped (.list allK) = true := by decide +kernel
theorem lawKind_len {ps : List PyData} (h : ps.length ≠ 2) : lawKindD (.tuple ps) = false := by
  unfold lawKindD
  split
  · rename_i e
    cases e
    exact absurd rfl h
  · rfl
section
variable {P : Program} {w : World} {K : PySem.W.Frag} {mg : Str → Option Value} {base : Heap}
def spIsKind (K : PySem.W.Frag) : Sp := fun vs H Q _ => ∃ v d, vs = [v] ∧ Dp K H v d ∧ Thing d ∧ ∀ H', Same H H' → Q (.bl (isKindD d)) H'
theorem ok__law_is_kind (T : Top K mg) : FnOk P w K mg base (L2.CX P w) 2 T._law_is_kind.a T._law_is_kind.d ["thing"] (spIsKind K) := by
  refine T._law_is_kind.f.okX sc__law_is_kind (fun vs H Q E h => ?_) (fun cdv A outer s H vs Q E hr h => ?_)
  · obtain ⟨v, d, rfl, _⟩ := h
    rfl
  · obtain ⟨v, d, rfl, hd, ht, q⟩ := h
    refine ⟨_, (pss_one ((ps_ret (pe_and (pe_callB call_isD (by rfl) T.bf.isinstance_ (by decide +kernel) (pa_cons (pv 0) (pa_cons (pe_bltn (v := .ty "tuple") (by rfl) T.bf.tuple_ (by decide +kernel) rfl) pa_nil))) (pe_and (pe_cmpR (op_eq) ((pe_callB call_len_seq (by rfl) T.bf.len_ PySem.boot_len (pa_cons (pv 0) pa_nil))) (pe_int) (nomark _)) (pe_and (pe_not (pe_callB call_isD (by rfl) T.bf.isinstance_ (by decide +kernel) (pa_cons ((pe_ix (ix_tup) (pv 0) (pe_int) (fun _ _ => rfl))) (pa_cons (pe_bltn (v := .ty "bool") (by rfl) T.bf.bool_ (by decide +kernel) rfl) pa_nil)))) (pe_one (pe_cmpR (op_inD (hu65 hr)) (pv 0) (pe_call0 (ok__law_all_kinds T) (hr.mono (by decide)) (by rfl) T._law_all_kinds.m T._law_all_kinds.f.kp T._law_all_kinds.b .nil pX) (by rfl))))))))), ?_⟩
    rw [← ht.law] at q
    have sh := shaped_el ht.shape
    clear ht
    refine ⟨v, rfl, v, _, d, _, rfl, hd, isi_tuple d, _, rfl, ?_⟩
    cases hd with
    | non => exact iteF (q H (Same.refl H))
    | bl b => exact iteF (q H (Same.refl H))
    | int n => exact iteF (q H (Same.refl H))
    | str z => exact iteF (q H (Same.refl H))
    | lst a b => exact iteF (q H (Same.refl H))
    | @tup a xs ps hs ha =>
      have hl := all_len ha
      refine iteT ⟨_, rfl, a, xs, rfl, .inr hs, rfl, _, rfl, ?_⟩
      match ps, ha, q, hl, sh with
      | [], .nil, q, hl, sh => exact iteF (q H (Same.refl H))
      | [_], .cons _ .nil, q, hl, sh => exact iteF (qb (q H (Same.refl H)) (lawKind_len (by simp)).symm)
      | _ :: _ :: _ :: _, .cons _ (.cons _ (.cons _ _)), q, hl, sh =>
        refine ite2 (fun c => ?_) (fun _ => qb (q H (Same.refl H)) (lawKind_len (by simp)).symm)
        refine absurd c ?_
        simp only [List.length_cons]
        simp
        omega
      | [a0, b0], .cons (v := x0) h0 (.cons (v := x1) h1 .nil), q, hl, sh =>
        refine iteT ⟨_, rfl, a, _, 0, _, rfl, rfl, hs, rfl, x0, _, a0, _, rfl, h0, isi_boolD a0, _, rfl, ?_⟩
        have fin : lawKindD (.tuple [a0, b0]) = (!boolD a0 && allK.any fun z => PyData.eqv z (.tuple [a0, b0])) := rfl
        cases e : boolD a0 with
        | true => exact ⟨_, rfl, iteF (qb (q H (Same.refl H)) (by rw [fin, e]; rfl))⟩
        | false =>
          refine ⟨_, rfl, iteT ?_⟩
          refine ⟨_, rfl, ⟨rfl, fun vk H1 s1 hk => ?_⟩⟩
          refine ⟨_, allK, .tup (sqT_same s1 hs) (.cons (dp_same s1 h0) (.cons (dp_same s1 h1) .nil)), hk, sh, shaped_allK, ?_⟩
          exact qb (q H1 s1) (by rw [fin, e]; rfl)
end
end K41

end

section
set_option Elab.async false
set_option linter.all false
set_option maxRecDepth 100000
set_option maxHeartbeats 4000000
/-! A thing is drawn. -/
namespace K41
open PySem PySem.Spec PyProof.Rows L2 KX
def pick6 : List PyData := [.int 0, .int 1, .str "new", .str "new", .int 2, .str "old"]
def pick3 : List PyData := [.int 0, .int 1, .str "new"]
theorem pick6_in : ∀ d ∈ pick6, d ∈ parts5 := by
  intro d hd
  simp only [pick6, List.mem_cons, List.not_mem_nil, or_false] at hd
  rcases hd with rfl | rfl | rfl | rfl | rfl | rfl <;> simp [parts5]
theorem pick3_in : ∀ d ∈ pick3, d ∈ parts5 := by
  intro d hd
  simp only [pick3, List.mem_cons, List.not_mem_nil, or_false] at hd
  rcases hd with rfl | rfl | rfl <;> simp [parts5]
theorem flat_parts : ∀ d ∈ parts5, flatD d = true := by decide +kernel
section
variable {P : Program} {w : World} {K : PySem.W.Frag} {mg : Str → Option Value} {base : Heap}
def spThing (K : PySem.W.Frag) : Sp := fun vs H Q _ => ∃ v, vs = [v] ∧ DrawAt K H v ∧ ∀ x d H', Same H H' → Dp K H' x d → Thing d → Q x H'
theorem ok__law_thing (T : Top K mg) : FnOk P w K mg base (L2.CX P w) 4 T._law_thing.a T._law_thing.d ["draw"] (spThing K) := by
  refine T._law_thing.f.okX sc__law_thing (fun vs H Q E h => ?_) (fun cdv A outer s H vs Q E hr h => ?_)
  · obtain ⟨v, rfl, _⟩ := h
    rfl
  · obtain ⟨v, rfl, hdr, q⟩ := h
    refine ⟨_, (pss_cons ((ps_set (i := 1) sc__law_thing.nd rfl (Or.inr rfl) ((pe_call (ok__law_take T) (hr.mono (by decide)) (by rfl) T._law_take.m T._law_take.f.kp T._law_take.b .nil pX (pa_cons (pv 0) (pa_cons (pe_int) pa_nil)))))) (pss_cons ((ps_if ((pt_cmpR (op_eq) (pv 1) (pe_int) (nomark _))) ((pss_one ((ps_ret ((pe_call (ok__law_pick T) (hr.mono (by decide)) (by rfl) T._law_pick.m T._law_pick.f.kp T._law_pick.b .nil pX (pa_cons (pv 0) (pa_cons (pe_lit (d := .list things) (by repeat (first | (refine Lits.cons ?_ ?_ (Nat.le_of_lt_succ ?_)) | decide | constructor))) pa_nil)))))))) (pss_nil))) (pss_cons ((ps_set (i := 2) sc__law_thing.nd rfl (Or.inl rfl) ((pe_callTy (call_tuple_of) (by rfl) T.bf.tuple_ (by decide +kernel) (pa_cons ((pe_lc (own := [("turn", 3)]) (g := gName 3) (tt := tYes) rfl sc__law_thing.nd (pi_range1 (by rfl) T.bf.range_ (pa_cons (pe_call (ok__law_take T) (hr.mono (by decide)) (by rfl) T._law_take.m T._law_take.f.kp T._law_take.b .nil pX (pa_cons (pv 0) (pa_cons (pe_int) pa_nil))) pa_nil)) (blkOk_by (N := n__law_thing) (sc := defScope s__law_thing) (by decide +kernel)) (fun _ _ _ _ _ => pg_name (i := 3) sc__law_thing.nd rfl (Or.inl rfl)) (fun _ _ _ _ _ => pts_nil) (fun _ _ _ _ _ => pe_ifExp (pt_cmpR (op_lt) (pv 1) (pe_int) (nomark _)) (pe_call (ok__law_pick T) (hr.mono (by decide)) (by rfl) T._law_pick.m T._law_pick.f.kp T._law_pick.b .nil passL (pa_cons (pv 0) (pa_cons ((show PE _ _ (tLit K (.list pick6)) from pe_lit (by repeat (first | (refine Lits.cons ?_ ?_ (Nat.le_of_lt_succ ?_)) | decide | constructor)))) pa_nil))) (pe_call (ok__law_pick T) (hr.mono (by decide)) (by rfl) T._law_pick.m T._law_pick.f.kp T._law_pick.b .nil passL (pa_cons (pv 0) (pa_cons ((show PE _ _ (tLit K (.list pick3)) from pe_lit (by repeat (first | (refine Lits.cons ?_ ?_ (Nat.le_of_lt_succ ?_)) | decide | constructor)))) pa_nil)))))) pa_nil))))) (pss_one ((ps_ret ((pe_tup (pa_cons ((pe_call (ok__law_take T) (hr.mono (by decide)) (by rfl) T._law_take.m T._law_take.f.kp T._law_take.b .nil pX (pa_cons (pv 0) (pa_cons (pe_int) pa_nil)))) (pa_cons (pv 2) pa_nil)))))))))), ?_⟩
    refine ⟨_, rfl, v, 9, rfl, hdr, by omega, fun r H1 s1 hr1 => ?_⟩
    refine ⟨_, rfl, rfl, _, rfl, ?_⟩
    refine ite2 (fun _ => ?_) (fun _ => ?_)
    · refine ⟨_, rfl, fun vl H2 s2 hv2 => ?_⟩
      obtain ⟨al, xl, rfl, hsl, hal⟩ := list_val hv2
      refine ⟨v, al, xl, rfl, hdr.same (s1.trans s2), .inl hsl, by rw [all_len hal]; decide, fun x hx H3 s3 => ?_⟩
      obtain ⟨d, hd, hxd⟩ := all_get hal x hx
      exact q x d H3 ((s1.trans s2).trans s3) (dp_same s3 hxd) (.ex hd)
    · refine ⟨_, rfl, v, 5, rfl, hdr.same s1, by omega, fun n H2 s2 hn => ?_⟩
      have s02 := s1.trans s2
      have hdr2 := hdr.same s02
      have en : ((n : Nat) : Int).toNat = n := Int.toNat_natCast n
      refine ⟨_, rfl, by omega, by omega, fun D hD => ?_⟩
      rw [en]
      refine lc_rel (i := 3) (K := K) (walk_range (lo := 0) (n := n)) (fun j d => d ∈ parts5) (fun _ _ => trivial) hD (by omega) (fun _ => rfl) ?_ ?_
      · rintro j x H3 H3' hj s3 ⟨rfl, rfl⟩
        refine ⟨Same.refl _, fun Q1 q1 => ?_⟩
        refine ⟨_, rfl, _, _, rfl, rfl, _, rfl, ?_⟩
        refine ite2 (fun _ => ?_) (fun _ => ?_)
        · refine ⟨_, rfl, fun vl H4 s4 hv4 => ?_⟩
          obtain ⟨al, xl, rfl, hsl, hal⟩ := list_val hv4
          refine ⟨v, al, xl, rfl, hdr2.same (s3.trans s4), .inl hsl, by rw [all_len hal]; decide, fun x hx H5 s5 => ?_⟩
          obtain ⟨d, hd, hxd⟩ := all_get hal x hx
          exact q1 x d H5 (s4.trans s5) (dp_same s5 hxd) (pick6_in d hd) (flat_parts d (pick6_in d hd))
        · refine ⟨_, rfl, fun vl H4 s4 hv4 => ?_⟩
          obtain ⟨al, xl, rfl, hsl, hal⟩ := list_val hv4
          refine ⟨v, al, xl, rfl, hdr2.same (s3.trans s4), .inl hsl, by rw [all_len hal]; decide, fun x hx H5 s5 => ?_⟩
          obtain ⟨d, hd, hxd⟩ := all_get hal x hx
          exact q1 x d H5 (s4.trans s5) (dp_same s5 hxd) (pick3_in d hd) (flat_parts d (pick3_in d hd))
      · intro H3 vs ds s3 hD3 ha3 hl3 hr3
        refine ⟨D, vs, rfl, .inl ⟨SqL.of hD3, fun l hl => ?_⟩⟩
        have s4 : Same H3 (upd H3 l (.tup vs)) := same_upd (Same.refl _) hl
        have hl4 : (upd H3 l (.tup vs)) l = some (.tup vs) := upd_same
        generalize upd H3 l (.tup vs) = H4 at s4 hl4 ⊢
        have s24 := s3.trans s4
        refine ⟨_, rfl, v, 3, rfl, hdr2.same s24, by omega, fun r3 H5 s5 h3 => ⟨_, rfl, by show 2 ≤ sizeLine; decide, fun t ht => ?_⟩⟩
        have s6 : Same H5 (upd H5 t (.tup [.int (r3 : Nat), .ref l])) := same_upd (Same.refl _) ht
        refine q _ (.tuple [.int (r3 : Nat), .tuple ds]) _ (((s02.trans s24).trans s5).trans s6) (.tup (SqT.of upd_same) (.cons (.int _) (.cons (.tup (sqT_same (s5.trans s6) (SqT.of hl4)) (dpAll_same ((s4.trans s5).trans s6) ha3)) .nil))) (.row (by omega) (by omega) fun p hp => ?_)
        obtain ⟨j, hj⟩ := List.mem_iff_getElem?.mp hp
        exact hr3 j p hj
end
end K41

end

section
set_option Elab.async false
set_option linter.all false
set_option maxRecDepth 100000
set_option maxHeartbeats 4000000
/-! What an error tells. -/
namespace K41
open PySem PySem.Spec PyProof.Rows L2 KX LamX NdefX
theorem exm_x {K : PySem.W.Frag} {t : Value} {C B : Addr} {b : Bool} (e : Ef K C B) (hs : PySem.W.subIn K t (.ref C) = some b) : PySem.W.exmOne K t (.ref C) = some b := by
  have hc : (PySem.W.clsIn K C).isSome = true := e.e.cl
  unfold PySem.W.exmOne PySem.W.kitCls
  show (if (PySem.W.subIn K (.ref C) (.type "BaseException") == some true) = true then (if ((PySem.W.clsIn K C).isSome && PySem.W.typeIn K (.ref C) == some (.type "type")) = true then PySem.W.subIn K t (.ref C) else none) else none) = some b
  rw [e.e.ex, e.t, hc]
  exact hs
theorem takes_len {X : Cx} {W : WX} (tk : Takes X W) : Takes X (fun cls d σ' H' => σ'.length = X.N.length → W cls d σ' H') := by
  rintro u s' ⟨a, B, sI, pins', σ', H', cls, d, e, J', nb, up, sky, na, os, ag, w⟩
  exact tk u s' ⟨a, B, sI, pins', σ', H', cls, d, e, J', nb, up, sky, na, os, ag, w J'.len⟩
section
variable {P : Program} {w : World} {K : PySem.W.Frag} {mg : Str → Option Value} {base : Heap}
def TellsOf (Q : VK) (H' : Hp) (d : Option Addr) (f s : Str) : Prop := ∃ dd v, d = some dd ∧ H' dd = some (.xd [(f, v)]) ∧ ∀ p H'', Same H' H'' → H'' p = some (.tup [.str s, v]) → Q (.ref p) H''
def ToldE (T : Top K mg) (Q : VK) : XK := fun cls d H' => (cls = .ref T.cBadKinds.c ∧ TellsOf Q H' d "name" "kinds") ∨ (cls = .ref T.cBadChange.c ∧ TellsOf Q H' d "place" "change") ∨
  (cls = .ref T.cCannotDo.c ∧ TellsOf Q H' d "place" "cannot") ∨ (cls = .ref T.cBadText.c ∧ d = none ∧ Q (.str "text") H')
def toldTT (T : Top K mg) (tl : XK → Hp → VK → Prop) (H : Hp) (Q : VK) : Prop := ∀ E' : XK, (∀ cls d H', ToldE T Q cls d H' → E' cls d H') → tl E' H fun _ H' => Q .non H'
theorem teller (T : Top K mg) : Teller P w K mg base 20 19 T._law_told.a (toldTT T) := by
  intro A outer s H Q f tl hr e0 act isF tt
  obtain ⟨oc, od, kV, doc, pm, an, cdv, ct, osl, efd, lk, hcd⟩ := T._law_told.f.ex
  have hb := T._law_told.b s [.ref f] (e0.mod.kin.keeps fun b o e => (e0.bs b o e).1) rfl
  rw [efd] at lk hb
  refine run_ofS (N := n__law_told) (ps := ["deed"]) (us := [.ref f]) (vs := [.ref f]) lk hcd sc__law_told hr e0 hb (.cons rfl .nil) rfl fun hr' => ?_
  refine ⟨_, pss_cons (ps_try_clauses (Wz := fun _ _ _ _ => False) rfl rfl sc__law_told.nd L2.takes0
      (fun W pn xe tk po => pss_one (ps_expr (pe_actV (i := 0) (E := fun cls d H' => ∀ σ' : L2.St, σ'.length = 2 → W cls d σ' H') act rfl rfl rfl rfl hr' (takes_len tk) (fun _ _ σ' _ h hl => h σ' hl) rfl (.inl rfl) (by decide) (by decide) (fun pins σ H' s' Q I t => isF _ _ _ _ I.hok t))))
      (Clauses.cons (k := ⟨.ref T.cBadKinds.c, 1, _⟩) ⟨by rfl, by decide, .inl T.cBadKinds.m⟩ rfl rfl (fun a oe cls d pn hz hf => pss_one (ps_ret (pe_ifExp (pt_val (pe_callB (call_isErr T.eBadKinds.e hz hf) (by rfl) T.bf.isinstance_ (by decide +kernel) (pa_cons (pv 1) (pa_cons (pe_glob (x := "ChangeError") (v := .ref T.cChangeError.c) (by rfl) T.cChangeError.m rfl) pa_nil)))) (pe_tup (pa_cons pe_str (pa_cons (pe_xf T.eBadKinds.e.xf T.zBadKinds hz hf (pv 1)) pa_nil))) pe_str)))
        (Clauses.cons (k := ⟨.ref T.cBadChange.c, 1, _⟩) ⟨by rfl, by decide, .inl T.cBadChange.m⟩ rfl rfl (fun a oe cls d pn hz hf => pss_one (ps_ret (pe_ifExp (pt_val (pe_callB (call_isErr T.eBadChange.e hz hf) (by rfl) T.bf.isinstance_ (by decide +kernel) (pa_cons (pv 1) (pa_cons (pe_glob (x := "ChangeError") (v := .ref T.cChangeError.c) (by rfl) T.cChangeError.m rfl) pa_nil)))) (pe_tup (pa_cons pe_str (pa_cons (pe_xf T.eBadChange.e.xf T.zBadChange hz hf (pv 1)) pa_nil))) pe_str)))
        (Clauses.cons (k := ⟨.ref T.cCannotDo.c, 1, _⟩) ⟨by rfl, by decide, .inl T.cCannotDo.m⟩ rfl rfl (fun a oe cls d pn hz hf => pss_one (ps_ret (pe_ifExp (pt_val (pe_callB (call_isErr T.eCannotDo.e hz hf) (by rfl) T.bf.isinstance_ (by decide +kernel) (pa_cons (pv 1) (pa_cons (pe_glob (x := "ChangeError") (v := .ref T.cChangeError.c) (by rfl) T.cChangeError.m rfl) pa_nil)))) (pe_tup (pa_cons pe_str (pa_cons (pe_xf T.eCannotDo.e.xf T.zCannotDo hz hf (pv 1)) pa_nil))) pe_str)))
        (Clauses.cons (k := ⟨.ref T.cBadText.c, 1, _⟩) ⟨by rfl, by decide, .inl T.cBadText.m⟩ rfl rfl (fun a oe cls d pn hz hf => pss_one (ps_ret (pe_ifExp (pt_val (pe_callB (call_isErr T.eBadText.e hz hf) (by rfl) T.bf.isinstance_ (by decide +kernel) (pa_cons (pv 1) (pa_cons (pe_glob (x := "ChangeError") (v := .ref T.cChangeError.c) (by rfl) T.cChangeError.m rfl) pa_nil)))) (pe_str) pe_str))) .nil))))) (pss_one (ps_ret pe_non)), ?_⟩
  refine ⟨rfl, tt _ fun cls d H' told σ' hl => ?_⟩
  obtain ⟨x, y, rfl⟩ : ∃ x y, σ' = [x, y] := by
    match σ', hl with
    | [x, y], _ => exact ⟨x, y, rfl⟩
  rcases told with ⟨rfl, dd, v, rfl, hx, q⟩ | ⟨rfl, dd, v, rfl, hx, q⟩ | ⟨rfl, dd, v, rfl, hx, q⟩ | ⟨rfl, rfl, q⟩
  · exact ⟨true, exm_x T.eBadKinds T.xBadKinds.x1, fun _ a ha => ⟨_, rfl, _, _, _, rfl, rfl, fun u r => r, T.eBadKinds.u, .inr ⟨dd, _, rfl, hx⟩, _, rfl, iteT ⟨_, rfl, rfl, rfl, dd, _, v, rfl, hx, rfl, by show 2 ≤ sizeLine; decide, fun p hp => q p _ (same_upd (Same.refl _) hp) upd_same⟩⟩, (fun z => nomatch z)⟩
  · exact ⟨false, exm_x T.eBadKinds T.xBadChange.x1, (fun z => nomatch z), fun _ => ⟨true, exm_x T.eBadChange T.xBadChange.x2, fun _ a ha => ⟨_, rfl, _, _, _, rfl, rfl, fun u r => r, T.eBadChange.u, .inr ⟨dd, _, rfl, hx⟩, _, rfl, iteT ⟨_, rfl, rfl, rfl, dd, _, v, rfl, hx, rfl, by show 2 ≤ sizeLine; decide, fun p hp => q p _ (same_upd (Same.refl _) hp) upd_same⟩⟩, (fun z => nomatch z)⟩⟩
  · exact ⟨false, exm_x T.eBadKinds T.xCannotDo.x1, (fun z => nomatch z), fun _ => ⟨false, exm_x T.eBadChange T.xCannotDo.x2, (fun z => nomatch z), fun _ => ⟨true, exm_x T.eCannotDo T.xCannotDo.x3, fun _ a ha => ⟨_, rfl, _, _, _, rfl, rfl, fun u r => r, T.eCannotDo.u, .inr ⟨dd, _, rfl, hx⟩, _, rfl, iteT ⟨_, rfl, rfl, rfl, dd, _, v, rfl, hx, rfl, by show 2 ≤ sizeLine; decide, fun p hp => q p _ (same_upd (Same.refl _) hp) upd_same⟩⟩, (fun z => nomatch z)⟩⟩⟩
  · exact ⟨false, exm_x T.eBadKinds T.xBadText.x1, (fun z => nomatch z), fun _ => ⟨false, exm_x T.eBadChange T.xBadText.x2, (fun z => nomatch z), fun _ => ⟨false, exm_x T.eCannotDo T.xBadText.x3, (fun z => nomatch z), fun _ => ⟨true, exm_x T.eBadText T.xBadText.x4, fun _ a ha => ⟨_, rfl, _, _, _, rfl, rfl, fun u r => r, T.eBadText.u, .inl rfl, _, rfl, iteT q⟩, (fun z => nomatch z)⟩⟩⟩⟩
end
end K41

end

section
set_option Elab.async false
set_option linter.all false
set_option maxRecDepth 100000
set_option maxHeartbeats 4000000
/-! What stays while tables of code grow; a def that makes lambdas. -/
namespace K41
open PySem PySem.Spec PyProof.Rows L2 KX LamX NdefX
theorem Lf.okX {P : Program} {w : World} {K : PySem.W.Frag} {mg : Str → Option Value} {base : Heap} {x : Str} {st : Stmt} {f Pt : Addr} {fd : FuncData} {N ps : List Str} {k : Nat} {sp : Sp} (F : Lf K x st f fd Pt) (S : FnScope N ps (defScope st)) (len : ∀ vs H Q E, sp vs H Q E → vs.length = ps.length)
    (hbody : ∀ (A : Around) (outer : List Env) (s : Shared) (H : Hp) (vs : List V) (Q : VK) (E : XK), Room k (A.deeper (envOfC x (defScope st) s.heap.objs.size f (.ref F.c))) → sp vs H Q E →
      ∃ t, PSs (cxOf (L2.CX P w) P w K mg base N x (defScope st) f (.ref F.c) A outer s H E) (defBody st) t ∧ t { nx := fun _ H' => Q .non H', rt := Q } (L2.start N vs) H) : FnOk P w K mg base (L2.CX P w) (k + 1) f fd ps sp := by
  obtain ⟨oc, od, kV, doc, pm, an, ct, osl, efd, lk, hcd⟩ := F.ex
  rw [efd] at lk
  rw [efd]
  exact fn_of lk hcd S len fun A outer s H vs Q E hr hsp => hbody A outer s H vs Q E hr hsp
theorem Lf.ok0 {P : Program} {w : World} {K : PySem.W.Frag} {mg : Str → Option Value} {base : Heap} {x : Str} {st : Stmt} {f Pt : Addr} {fd : FuncData} {N ps : List Str} {k : Nat} {sp : Sp} (F : Lf K x st f fd Pt) (S : FnScope N ps (defScope st)) (len : ∀ vs H Q E, sp vs H Q E → vs.length = ps.length)
    (hbody : ∀ (A : Around) (outer : List Env) (s : Shared) (H : Hp) (vs : List V) (Q : VK) (E : XK), Room k (A.deeper (envOfC x (defScope st) s.heap.objs.size f (.ref F.c))) → sp vs H Q E →
      ∃ t, PSs (cxOf CX0 P w K mg base N x (defScope st) f (.ref F.c) A outer s H E) (defBody st) t ∧ t { nx := fun _ H' => Q .non H', rt := Q } (L2.start N vs) H) : FnOk P w K mg base CX0 (k + 1) f fd ps sp := by
  obtain ⟨oc, od, kV, doc, pm, an, ct, osl, efd, lk, hcd⟩ := F.ex
  rw [efd] at lk
  rw [efd]
  exact fn_of lk hcd S len fun A outer s H vs Q E hr hsp => hbody A outer s H vs Q E hr hsp
/-- tables apart, all stays; the tables that T names stay good -/
structure Ss (T : List (Addr × Str)) (H H' : Hp) : Prop where
  n : ExtN H H'
  t : Tabs T H → Tabs T H'
theorem Ss.refl {T : List (Addr × Str)} (H : Hp) : Ss T H H := ⟨ExtN.refl H, id⟩
theorem Ss.trans {T : List (Addr × Str)} {H H1 H2 : Hp} (a : Ss T H H1) (b : Ss T H1 H2) : Ss T H H2 := ⟨a.n.trans b.n, fun z => b.t (a.t z)⟩
theorem tabs_same {T : List (Addr × Str)} {H H' : Hp} (s : Same H H') (h : Tabs T H) : Tabs T H' := fun p hp => by
  obtain ⟨ps, h1, h2, h3⟩ := h p hp
  refine ⟨ps, s _ _ h1, h2, fun pos cv e => ?_⟩
  obtain ⟨c, e1, e2⟩ := h3 pos cv e
  exact ⟨c, e1, s _ _ e2⟩
theorem ss_of {T : List (Addr × Str)} {H H' : Hp} (s : Same H H') : Ss T H H' := ⟨ExtN.of fun b o e => s b o e, tabs_same s⟩
theorem sqT_n {K : PySem.W.Frag} {H H' : Hp} {a : Addr} {xs : List V} (e : ExtN H H') (h : SqT K H a xs) : SqT K H' a xs := by
  rcases h with (h | ⟨o, h⟩) | h
  · exact .inl (.inl (e _ _ h (fun _ z => nomatch z)))
  · exact .inl (.inr ⟨o, e _ _ h (fun _ z => nomatch z)⟩)
  · exact .inr h
theorem sqL_n {K : PySem.W.Frag} {H H' : Hp} {a : Addr} {xs : List V} (e : ExtN H H') (h : SqL K H a xs) : SqL K H' a xs := by
  rcases h with (h | ⟨o, h⟩) | h
  · exact .inl (.inl (e _ _ h (fun _ z => nomatch z)))
  · exact .inl (.inr ⟨o, e _ _ h (fun _ z => nomatch z)⟩)
  · exact .inr h
mutual
theorem dp_n {K : PySem.W.Frag} {H H' : Hp} (e : ExtN H H') : ∀ {d : PyData} {v : V}, Dp K H v d → Dp K H' v d
  | .none, _, .non => .non
  | .bool _, _, .bl b => .bl b
  | .int _, _, .int i => .int i
  | .str _, _, .str x => .str x
  | .list _, _, .lst h a => .lst (sqL_n e h) (dpAll_n e a)
  | .tuple _, _, .tup h a => .tup (sqT_n e h) (dpAll_n e a)
theorem dpAll_n {K : PySem.W.Frag} {H H' : Hp} (e : ExtN H H') : ∀ {ds : List PyData} {vs : List V}, DpAll K H vs ds → DpAll K H' vs ds
  | [], _, .nil => .nil
  | _ :: _, _, .cons h t => .cons (dp_n e h) (dpAll_n e t)
end
theorem Told.n {K : PySem.W.Frag} {H H' : Hp} {a : Addr} {L : List Ent} (h : Told K H a L) (e : ExtN H H') : Told K H' a L :=
  ⟨e _ _ h.at_ (fun _ z => nomatch z), fun x m => dp_n e (h.ok.dp x m), h.ok.sh, h.ok.sm, h.ok.ko, h.ok.nd, h.ok.few⟩
theorem DrawAt.n {K : PySem.W.Frag} {H H' : Hp} {v : V} (h : DrawAt K H v) (e : ExtN H H') : DrawAt K H' v := by
  obtain ⟨d, a, ns, h1, h2, h3, h4⟩ := h
  exact ⟨d, a, ns, h1, e _ _ h2 (fun _ z => nomatch (show HO.ext _ = HO.tbl _ from z)), sqL_n e h3, h4⟩
theorem KindsAt.n {K : PySem.W.Frag} {C : Addr} {H H' : Hp} {p : Addr} {M : List Ent} (h : KindsAt K C H p M) (e : ExtN H H') : KindsAt K C H' p M := by
  obtain ⟨dx, D, h1, h2, h3⟩ := h
  exact ⟨dx, D, e _ _ h1 (fun _ z => nomatch z), h2.n e, h3⟩
theorem TextAt.n {K : PySem.W.Frag} {H H' : Hp} {v : V} {t : List Int} (h : TextAt K H v t) (e : ExtN H H') : TextAt K H' v t := let ⟨a, h1, h2⟩ := h; ⟨a, h1, sqT_n e h2⟩
theorem lam_n {H H' : Hp} {f : Addr} {F : LF} (e : ExtN H H') (h : H f = some (LamO f F)) : H' f = some (LamO f F) := e _ _ h (fun _ z => nomatch (show HO.ext _ = HO.tbl _ from z))
theorem code_n {H H' : Hp} {c : Addr} {q : Str} (e : ExtN H H') (h : H c = some (CodeO c q)) : H' c = some (CodeO c q) := e _ _ h (fun _ z => nomatch (show HO.ext _ = HO.tbl _ from z))
end K41

end

section
set_option Elab.async false
set_option linter.all false
set_option maxRecDepth 100000
set_option maxHeartbeats 4000000
/-! Sorted names are one list. -/
namespace K41
open PySem PySem.Spec PyProof.Rows L2 KX LamX NdefX
theorem lt_cons {a b : Nat} {r t : List Nat} : ltCps (a :: r) (b :: t) = false ↔ ¬ a < b ∧ (a = b → ltCps r t = false) := by
  show (decide (a < b) || (a == b && ltCps r t)) = false ↔ _
  rw [Bool.or_eq_false_iff]
  refine and_congr (by simp) ?_
  by_cases e : a = b
  · subst e
    simp
  · have : (a == b) = false := beq_eq_false_iff_ne.mpr e
    rw [this]
    simp [e]
theorem lt_trans' : ∀ {x y z : List Nat}, ltCps y x = false → ltCps z y = false → ltCps z x = false
  | [], _, [], _, _ => rfl
  | [], _, _ :: _, _, _ => rfl
  | _ :: _, [], _, h, _ => by cases h
  | _ :: _, _ :: _, [], _, h => by cases h
  | a :: x, b :: y, c :: z, h1, h2 => by
    rw [lt_cons] at h1 h2 ⊢
    refine ⟨by omega, fun e => ?_⟩
    exact lt_trans' (h1.2 (by omega)) (h2.2 (by omega))
theorem lt_anti : ∀ {x y : List Nat}, ltCps y x = false → ltCps x y = false → x = y
  | [], [], _, _ => rfl
  | [], _ :: _, _, h => by cases h
  | _ :: _, [], h, _ => by cases h
  | a :: x, b :: y, h1, h2 => by
    rw [lt_cons] at h1 h2
    have e : a = b := by omega
    subst e
    rw [lt_anti (h1.2 rfl) (h2.2 rfl)]
def leS (a b : Str) : Prop := ltCps b.cps.toList a.cps.toList = false
theorem rising_pw : ∀ {l : List Str} {p : Str}, risingS p l = true → (p :: l).Pairwise leS
  | [], p, _ => List.pairwise_singleton _ _
  | x :: r, p, h => by
    have h : (!ltCps x.cps.toList p.cps.toList && risingS x r) = true := h
    rw [Bool.and_eq_true] at h
    have ih := rising_pw h.2
    have hp : leS p x := by
      have := h.1
      show ltCps x.cps.toList p.cps.toList = false
      simpa using this
    refine List.pairwise_cons.mpr ⟨fun y hy => ?_, ih⟩
    rcases List.mem_cons.mp hy with z | z
    · rw [z]; exact hp
    · exact lt_trans' hp ((List.pairwise_cons.mp ih).1 y z)
theorem sorted_pw : ∀ {l : List Str}, sortedS l = true → l.Pairwise leS
  | [], _ => .nil
  | x :: r, h => rising_pw h
theorem sorted_one {l1 l2 : List Str} (h1 : sortedS l1 = true) (h2 : sortedS l2 = true) (p : l1.Perm l2) : l1 = l2 :=
  List.Perm.eq_of_pairwise (fun a b _ _ h h' => by
    have e := lt_anti h h'
    obtain ⟨a⟩ := a
    obtain ⟨b⟩ := b
    exact congrArg Str.mk (Array.toList_inj.mp e)) (sorted_pw h1) (sorted_pw h2) p
theorem map_one {M N : List Ent} (nd : (M.map (·.1)).Nodup) (p : M.Perm N) (e : M.map (·.1) = N.map (·.1)) : M = N := by
  refine List.ext_getElem? fun i => ?_
  cases hm : M[i]? with
  | none =>
    have : N[i]? = none := by
      rw [List.getElem?_eq_none_iff] at hm ⊢
      rw [← p.length_eq]
      exact hm
    rw [this]
  | some x =>
    have hi := (List.getElem?_eq_some_iff.mp hm).1
    have hi' : i < N.length := by rw [← p.length_eq]; exact hi
    have hn : N[i]? = some N[i] := List.getElem?_eq_getElem hi'
    have e1 : (M.map (·.1))[i]? = some x.1 := by rw [List.getElem?_map, hm]; rfl
    have e2 : (N.map (·.1))[i]? = some N[i].1 := by rw [List.getElem?_map, hn]; rfl
    rw [← e, e1] at e2
    have en : x.1 = N[i].1 := Option.some.inj e2
    have hmem : N[i] ∈ M := p.mem_iff.mpr (List.getElem_mem _)
    obtain ⟨j, hj⟩ := List.mem_iff_getElem?.mp hmem
    have e3 : (M.map (·.1))[j]? = some x.1 := by rw [List.getElem?_map, hj, en]; rfl
    have ij : i = j := (List.getElem?_inj (by rw [List.length_map]; exact hi) nd).mp (e1.trans e3.symm)
    subst ij
    rw [hm] at hj
    rw [hn, hj]
theorem sorted_ents {L M N : List Ent} (nd : (L.map (·.1)).Nodup) (hM : M.Perm L) (hN : N.Perm L) (sM : sortedS (M.map (·.1)) = true) (sN : sortedS (N.map (·.1)) = true) : M = N := by
  have p : M.Perm N := hM.trans hN.symm
  exact map_one ((hM.map _).nodup_iff.mpr nd) p (sorted_one sM sN (p.map _))
end K41

end

section
set_option Elab.async false
set_option linter.all false
set_option maxRecDepth 100000
set_option maxHeartbeats 4000000
/-! Kinds() within a lambda, and what is told of it. -/
namespace K41
open PySem PySem.Spec PyProof.Rows L2 KX LamX NdefX
/-- what the error tells of a first bad name -/
def dueD : Option Str → PyData
  | none => .none
  | some n => .tuple [.str "kinds", .str n]
section
variable {P : Program} {w : World} {K : PySem.W.Frag} {mg : Str → Option Value} {base : Heap}
/-- what Kinds(v) ends with, as it is told -/
inductive KindsEnd (K : PySem.W.Frag) (H : Hp) (v : V) : PyData → Prop where
  | no (h : NoNames K H v) : KindsEnd K H v (.tuple [.str "kinds", .none])
  | of {a : Addr} {L M : List Ent} (e : v = .ref a) (h : Told K H a L) (n : hasNamesK (kvsT L) = true) (p : M.Perm L) (s : sortedS (M.map (·.1)) = true) : KindsEnd K H v (dueD (firstBad [] M))
theorem NoNames.n {H H' : Hp} {v : V} (e : ExtN H H') (h : NoNames K H v) : NoNames K H' v := by
  rcases h with ⟨d, h1, h2⟩ | ⟨a, kvs, h1, h2, h3, h4, h5⟩
  · exact .inl ⟨d, dp_n e h1, h2⟩
  · exact .inr ⟨a, kvs, h1, e _ _ h2 (fun _ z => nomatch z), h3, h4, h5⟩
theorem KindsEnd.n {H H' : Hp} {v : V} {d : PyData} (e : ExtN H H') (h : KindsEnd K H v d) : KindsEnd K H' v d := by
  cases h with
  | no h => exact .no (h.n e)
  | of e1 h n p s => exact .of e1 (h.n e) n p s
abbrev mkTb (T : Top K mg) : XK → TE := fun E => tMake T.cKinds.c (spInit K T.cKinds.c T.cBadKinds.c) [] E (tCons (tVar 0) tNil)
theorem told_kinds (T : Top K mg) {X : Cx} {Ts : List (Addr × Str)} {mk : Addr → LF} {y : Str} {js : List Nat} {σ : L2.St} {H : Hp} {Q : VK} {v : V} {d : PyData} (good : ∀ c', LamGood X 18 (mk c') [y] [y] js (mkTb T)) (hcc : ∀ c', (mk c').c = c') (hs : js.map (slotAt σ) = [some v]) (hT : Tabs Ts H)
    (he : KindsEnd K H v d) (q : ∀ tv H', Ss Ts H H' → Dp K H' tv d → Q tv H') : tTold X 18 (toldTT T) (tLamV Ts mk) σ H Q := by
  refine ⟨hT, fun f c' H1 eN T1 f0 back f1 c1 => ⟨f, mk c', [y], [y], js, mkTb T, rfl, good c', fun E' hE' => ⟨f1, by rw [hcc]; exact c1, ?_⟩⟩⟩
  rw [hs]
  have s1 : Ss Ts H H1 := ⟨eN, fun _ => T1⟩
  have he1 := he.n eN
  refine ⟨_, rfl, fun x dx hx hdx ne => ?_⟩
  have sx : Same H1 (upd (upd H1 dx (.own x)) x (.ins T.cKinds.c dx [])) := by
    refine same_upd (same_upd (Same.refl _) hdx) ?_
    exact hx
  have hx' : ∀ {H' : Hp} {o : HO}, Same (upd (upd H1 dx (.own x)) x (.ins T.cKinds.c dx [])) H' → Same H1 (upd H' x o) := fun {H' o} s => same_upd (sx.trans s) hx
  refine ⟨x, dx, v, rfl, upd_same, ?_⟩
  cases he1 with
  | no h =>
    refine .inl ⟨h.n (ss_of (T := Ts) sx).n, fun dd H' s' nd hxd => hE' _ _ _ (.inl ⟨rfl, dd, .non, rfl, hxd, fun p H'' s'' hp => ?_⟩)⟩
    exact q _ _ (s1.trans (ss_of ((sx.trans s').trans s''))) (.tup (SqT.of hp) (.cons (.str _) (.cons .non .nil)))
  | @of a L M e h n p s =>
    refine .inr ⟨a, L, e, h.n (ss_of (T := Ts) sx).n, n, fun M' hM' sM' => ?_⟩
    have eM := sorted_ents h.ok.nd hM' p sM' s
    subst eM
    cases eo : firstBad [] M' with
    | some nb =>
      refine fun dd H' s' nd hxd => hE' _ _ _ (.inl ⟨rfl, dd, .str nb, rfl, hxd, fun p H'' s'' hp => ?_⟩)
      refine q _ _ (s1.trans (ss_of ((sx.trans s').trans s''))) ?_
      rw [eo]
      exact .tup (SqT.of hp) (.cons (.str _) (.cons (.str _) .nil))
    | none =>
      refine fun H' D s' hD hDk => ⟨rfl, q _ _ (s1.trans (ss_of (hx' s'))) ?_⟩
      rw [eo]
      exact .non
end
end K41

end

section
set_option Elab.async false
set_option linter.all false
set_option maxRecDepth 100000
set_option maxHeartbeats 4000000
/-! Kinds are taken just if they are. -/
namespace K41
open PySem PySem.Spec PyProof.Rows L2 KX LamX NdefX
def nm4 : List Str := ["b", "ab", "cut", "put"]
theorem nm4_nodup : nm4.Nodup := by decide +kernel
theorem nm4_short : ∀ n ∈ nm4, n.length ≤ 1000 := by decide +kernel
theorem nm4_name : ∀ n ∈ nm4, isNameS n = true := by decide +kernel
structure ThingL (L : List Ent) (i : Nat) : Prop where
  th : ∀ e ∈ L, Thing e.2.2
  nm : L.map (·.1) = nm4.take i
theorem ThingL.len {L : List Ent} {i : Nat} (h : ThingL L i) : L.length ≤ i ∧ L.length ≤ 4 ∧ (i ≤ 4 → L.length = i) := by
  have : L.length = (nm4.take i).length := by rw [← h.nm, List.length_map]
  rw [List.length_take] at this
  have e : nm4.length = 4 := rfl
  omega
theorem ThingL.names {L : List Ent} {i : Nat} (h : ThingL L i) : ∀ e ∈ L, e.1 ∈ nm4 := fun e he => by
  have : e.1 ∈ L.map (·.1) := List.mem_map_of_mem he
  rw [h.nm] at this
  exact List.mem_of_mem_take this
theorem ThingL.nd {L : List Ent} {i : Nat} (h : ThingL L i) : (L.map (·.1)).Nodup := by
  rw [h.nm]
  exact nm4_nodup.sublist (List.take_sublist _ _)
theorem ThingL.ents {K : PySem.W.Frag} {H : Hp} {L : List Ent} {i : Nat} (g : ThingL L i) (dp : ∀ e ∈ L, Dp K H e.2.1 e.2.2) : Ents K H L :=
  ⟨dp, fun e he => (g.th e he).shape, fun e he => (g.th e he).small, fun e he => nm4_short _ (g.names e he), g.nd, by have := g.len; omega⟩
theorem ThingL.put {L : List Ent} {i : Nat} {n : Str} {x : V} {d : PyData} (g : ThingL L i) (hn : nm4[i]? = some n) (hd : Thing d) : ThingL (L ++ [(n, x, d)]) (i + 1) :=
  ⟨fun e he => (List.mem_append.mp he).elim (g.th e) fun z => by rw [List.mem_singleton.mp z]; exact hd, by rw [List.map_append, g.nm, List.take_add_one, hn]; rfl⟩
theorem ThingL.new {L : List Ent} {i : Nat} {n : Str} (g : ThingL L i) (hn : nm4[i]? = some n) : ∀ e ∈ L, e.1 ≠ n := fun e he z => by
  have h1 : e.1 ∈ nm4.take i := by rw [← g.nm]; exact List.mem_map_of_mem he
  obtain ⟨j, hj⟩ := List.mem_iff_getElem?.mp h1
  rw [List.getElem?_take] at hj
  split at hj
  · have hi := (List.getElem?_eq_some_iff.mp hn).1
    have := (List.getElem?_inj hi nm4_nodup).mp (hn.trans (by rw [← z, ← hj]))
    omega
  · cases hj
theorem has_names {L : List Ent} (h0 : 0 < L.length) (h4 : L.length ≤ 4) (h : ∀ e ∈ L, isNameS e.1 = true) : hasNamesK (kvsT L) = true := by
  unfold hasNamesK
  rw [kvs_len, decide_eq_true (by omega : 1 ≤ L.length), decide_eq_true h4, Bool.true_and, Bool.true_and]
  refine List.all_eq_true.mpr fun p hp => ?_
  obtain ⟨e, he, rfl⟩ := List.mem_map.mp hp
  exact h e he
theorem due_flat (o : Option Str) : flatD (dueD o) = true := by cases o <;> rfl
theorem due_shape0 : ∀ n ∈ nm4, SeqAt.shaped (dueD (some n)) = true := by decide +kernel
theorem due_shape {o : Option Str} (h : ∀ n, o = some n → n ∈ nm4) : SeqAt.shaped (dueD o) = true := by
  cases o with
  | none => decide +kernel
  | some n => exact due_shape0 n (h n rfl)
theorem firstBad_in : ∀ {seen : List PyData} {M : List Ent} {n : Str}, firstBad seen M = some n → ∃ e ∈ M, e.1 = n
  | _, [], _, h => by cases h
  | seen, e :: r, n, h => by
    cases hb : (isKindD e.2.2 && !(seen.any fun z => PyData.eqv z e.2.2)) with
    | true =>
      rw [bad_next hb] at h
      obtain ⟨x, hx, hn⟩ := firstBad_in h
      exact ⟨x, List.mem_cons_of_mem _ hx, hn⟩
    | false =>
      rw [bad_here hb] at h
      exact ⟨e, List.mem_cons_self, Option.some.inj h⟩
theorem pair_val {K : PySem.W.Frag} {H : Hp} {v : V} {z : Str} {d : PyData} (h : Dp K H v (.tuple [.str z, d])) : ∃ a y, v = .ref a ∧ SqT K H a [.str z, y] := by
  cases h with
  | tup hs ha =>
    cases ha with
    | cons h1 t =>
      cases h1
      cases t with
      | cons h2 t2 =>
        cases t2
        exact ⟨_, _, rfl, hs⟩
theorem names_one {k : Key} {v : V} (h : isNameK k = false) : hasNamesK [(k, v)] = false := by
  show (true && (true && (isNameK k && true))) = false
  rw [h]
  rfl
theorem due_eqv0 : ∀ n ∈ nm4, PyData.eqv (dueD (some n)) (dueD (some n)) = true := by decide +kernel
theorem due_eqv {o : Option Str} (h : ∀ n, o = some n → n ∈ nm4) : PyData.eqv (dueD o) (dueD o) = true := by
  cases o with
  | none => rfl
  | some n => exact due_eqv0 n (h n rfl)
theorem pN {P : Program} {w : World} {K : PySem.W.Frag} {mg : Str → Option Value} {base : Heap} {N : List Str} {F : NF} {f : Addr} {A : Around} {outer : List Env} {s : Shared} {H : Hp} {E : XK} : Passes (L2.CX P w) (ncx (L2.CX P w) P w K mg base N F f A outer s H E) E :=
  passes_call (takes_of rfl rfl rfl rfl) fun _ _ _ _ h => h
/-- the first bad name among the first i -/
def badTo (M : List Ent) (i : Nat) : Option Str := firstBad [] (M.take i)
theorem bad_snoc : ∀ {seen : List PyData} {l : List Ent} {e : Ent}, firstBad seen (l ++ [e]) = match firstBad seen l with
    | some n => some n
    | none => if (isKindD e.2.2 && !((seen ++ l.map (·.2.2)).any fun z => PyData.eqv z e.2.2)) = true then none else some e.1
  | seen, [], e => by
    show firstBad seen [e] = if _ then _ else _
    rw [List.map_nil, List.append_nil]
    rfl
  | seen, x :: r, e => by
    cases hb : (isKindD x.2.2 && !(seen.any fun z => PyData.eqv z x.2.2)) with
    | true =>
      rw [List.cons_append, bad_next hb, bad_next hb, bad_snoc, List.map_cons, List.append_assoc]
      rfl
    | false =>
      rw [List.cons_append, bad_here hb, bad_here hb]
theorem badTo_next {M : List Ent} {i : Nat} {e : Ent} (h : M[i]? = some e) : badTo M (i + 1) = match badTo M i with
    | some n => some n
    | none => if (isKindD e.2.2 && !(((M.take i).map (·.2.2)).any fun z => PyData.eqv z e.2.2)) = true then none else some e.1 := by
  unfold badTo
  rw [List.take_add_one, h]
  show firstBad [] (M.take i ++ [e]) = _
  rw [bad_snoc, List.nil_append]
section
variable {P : Program} {w : World} {K : PySem.W.Frag} {mg : Str → Option Value} {base : Heap} {P1 P2 P3 : Addr}
/-- the tables that lambdas are entered in -/
abbrev tabsT (P1 P2 P3 : Addr) : List (Addr × Str) := [(P1, "_law_kinds_right.<locals>.<lambda>"), (P2, "_law_refused.<locals>.<lambda>"), (P3, "law.<locals>.<lambda>")]
theorem hu1 {P1 P2 P3 : Addr} (h12 : P1 ≠ P2) (h13 : P1 ≠ P3) : ∀ p ∈ tabsT P1 P2 P3, p.1 = P1 → p.2 = "_law_kinds_right.<locals>.<lambda>" := by
  intro p hp e
  simp only [tabsT, List.mem_cons, List.not_mem_nil, or_false] at hp
  rcases hp with rfl | rfl | rfl
  · rfl
  · exact absurd e.symm h12
  · exact absurd e.symm h13
def spKindsRight (K : PySem.W.Frag) (Ts : List (Addr × Str)) : Sp := fun vs H Q _ => ∃ v, vs = [v] ∧ DrawAt K H v ∧ Tabs Ts H ∧ ∀ H', Ss Ts H H' → Q (.bl true) H'
theorem ok__law_kinds_right (L : TopL K mg P1 P2 P3) (TB : TabB base mg L.kr.c P1) (h12 : P1 ≠ P2) (h13 : P1 ≠ P3) : FnOk P w K mg base (L2.CX P w) 21 L.T._law_kinds_right.a L.T._law_kinds_right.d ["draw"] (spKindsRight K (tabsT P1 P2 P3)) := by
  have T := L.T
  refine L.kr.okX sc__law_kinds_right (fun vs H Q E h => ?_) (fun A outer s H vs Q E hr h => ?_)
  · obtain ⟨v, rfl, _⟩ := h
    rfl
  · obtain ⟨v, rfl, hdr, hT, q⟩ := h
    let T := L.T
    refine ⟨_, (pss_cons (ps_asg (pe_tup (pa_cons (pe_dnewK) (pa_cons (pe_lit (d := .list [.str "b", .str "ab", .str "cut", .str "put"]) (by repeat (first | (refine Lits.cons ?_ ?_ (Nat.le_of_lt_succ ?_)) | decide | constructor))) pa_nil))) (pg_tup rfl (pgs_cons (pg_name (i := 7) sc__law_kinds_right.nd rfl (Or.inr rfl)) (pgs_cons (pg_name (i := 1) sc__law_kinds_right.nd rfl (Or.inl rfl)) pgs_nil)))) (pss_cons ((ps_for pO rfl (pi_range1 (by rfl) T.bf.range_ (pa_cons (pe_op (op_add) (pe_int) ((pe_call (ok__law_take T) (hr.mono (by decide)) (by rfl) T._law_take.m T._law_take.f.kp T._law_take.b .nil pX (pa_cons (pv 0) (pa_cons (pe_int) pa_nil))))) pa_nil)) (pg_name (i := 2) sc__law_kinds_right.nd rfl (Or.inl rfl)) ((pss_one (ps_dput (hu_of hr) (pv 7) (pe_ix (ix_list) (pv 1) (pv 2) (fun _ _ => rfl)) (pe_ifExp (pt_cmpR (op_gt) ((pe_call (ok__law_take T) (hr.mono (by decide)) (by rfl) T._law_take.m T._law_take.f.kp T._law_take.b .nil pX (pa_cons (pv 0) (pa_cons (pe_int) pa_nil)))) (pe_int) (nomark _)) (pe_call (ok__law_thing T) (hr.mono (by decide)) (by rfl) T._law_thing.m T._law_thing.f.kp T._law_thing.b .nil pX (pa_cons (pv 0) pa_nil)) (pe_call (ok__law_pick T) (hr.mono (by decide)) (by rfl) T._law_pick.m T._law_pick.f.kp T._law_pick.b .nil pX (pa_cons (pv 0) (pa_cons ((pe_call0 (ok__law_all_kinds T) (hr.mono (by decide)) (by rfl) T._law_all_kinds.m T._law_all_kinds.f.kp T._law_all_kinds.b .nil pX)) pa_nil)))) rfl))))) (pss_cons ((ps_set (i := 3) sc__law_kinds_right.nd rfl (Or.inl rfl) (pe_non))) (pss_cons ((ps_set (i := 4) sc__law_kinds_right.nd rfl (Or.inl rfl) ((pe_lst pa_nil)))) (pss_cons ((ps_for pO rfl (pi_list (pe_callB (cr_sortedS) (by rfl) T.bf.sorted_ (by decide +kernel) (pa_cons ((pe_callTy (call_listD rfl) (by rfl) T.bf.list_ (by decide +kernel) (pa_cons (pv 7) pa_nil))) pa_nil))) (pg_name (i := 5) sc__law_kinds_right.nd rfl (Or.inl rfl)) ((pss_cons ((ps_if (PW.pt (pw_and (pt_cmpR (op_isN) (pv 3) (pe_non) (nomark _)) (pw_and1 (PW.pt (pw_or (pt_not (pt_val ((pe_call (ok__law_is_kind T) (hr.mono (by decide)) (by rfl) T._law_is_kind.m T._law_is_kind.f.kp T._law_is_kind.b .nil pX (pa_cons ((pe_dget (hu_of hr) (pv 7) (pv 5) (fun _ _ => rfl))) pa_nil))))) (pw_or1 (pt_cmpR (op_inD (hu65 hr)) (pe_dget (hu_of hr) (pv 7) (pv 5) (fun _ _ => rfl)) (pv 4) (by rfl)))))))) ((pss_one ((ps_set (i := 3) sc__law_kinds_right.nd rfl (Or.inl rfl) ((pe_tup (pa_cons (pe_str) (pa_cons (pv 5) pa_nil)))))))) (pss_nil))) (pss_one ((ps_expr (pe_bm PySem.F.plainAttrs_list PySem.F.slot_list_append PySem.F.type_list_append mt_append (pv 4) (pa_cons ((pe_dget (hu_of hr) (pv 7) (pv 5) (fun _ _ => rfl))) pa_nil))))))))) (pss_cons ((ps_if ((pt_cmpR (op_neD hr.units) (pe_told (teller T) (hr.mono (by decide)) (by rfl) T._law_told.m T._law_told.f.kp (pe_lam (T := tabsT P1 P2 P3) TB rfl ?m1 ?m2 ?m3 ?m4)) (pv 3) (by rfl))) ((pss_one ((ps_ret (pe_bl))))) (pss_nil))) (pss_cons ((ps_set (i := 6) sc__law_kinds_right.nd rfl (Or.inr rfl) (pe_lit (d := .tuple [.int 1, .tuple []]) (by repeat (first | (refine Lits.cons ?_ ?_ (Nat.le_of_lt_succ ?_)) | decide | constructor))))) (pss_cons ((ps_for pO rfl (pi_tup (pe_tup (pa_cons (pe_non) (pa_cons (pe_dnewK) (pa_cons ((pe_lst pa_nil)) (pa_cons ((pe_disp (pps_cons (pe_str) (pv 6) pps_nil) (by rfl) (by rfl) (fun z => by cases z) (by decide))) (pa_cons ((pe_disp (pps_cons (pe_str) (pv 6) pps_nil) (by rfl) (by rfl) (fun z => by cases z) (by decide))) (pa_cons ((pe_disp (pps_cons (pe_str) (pv 6) pps_nil) (by rfl) (by rfl) (fun z => by cases z) (by decide))) (pa_cons ((pe_disp (pps_cons (pe_int) (pv 6) pps_nil) (by rfl) (by rfl) (fun z => by cases z) (by decide))) (pa_cons ((pe_disp (pps_cons (pe_str) (pv 6) pps_nil) (by rfl) (by rfl) (fun z => by cases z) (by decide))) (pa_cons ((pe_callTy (call_dictP rfl) (by rfl) T.bf.dict_ (by decide +kernel) (pa_cons ((pe_lc (own := [("many", 9)]) (g := gName 9) (tt := tYes) rfl sc__law_kinds_right.nd (pi_range2 (by rfl) T.bf.range_ (pa_cons pe_int (pa_cons pe_int pa_nil))) (blkOk_by (N := n__law_kinds_right) (sc := defScope s__law_kinds_right) (by decide +kernel)) (fun _ _ _ _ _ => pg_name (i := 9) sc__law_kinds_right.nd rfl (Or.inl rfl)) (fun _ _ _ _ _ => pts_nil) (fun _ _ _ _ _ => (pe_tup (pa_cons ((pe_op (op_strMul) (pe_str) (pv 9))) (pa_cons (pv 6) pa_nil)))))) pa_nil))) pa_nil))))))))))) (pg_name (i := 8) sc__law_kinds_right.nd rfl (Or.inr rfl)) ((pss_one ((ps_if ((pt_cmpR (op_neD hr.units) (pe_told (teller T) (hr.mono (by decide)) (by rfl) T._law_told.m T._law_told.f.kp (pe_lam (T := tabsT P1 P2 P3) TB rfl ?m5 ?m6 ?m7 ?m8)) (pe_tup (pa_cons (pe_str) (pa_cons (pe_non) pa_nil))) (by rfl))) ((pss_one ((ps_ret (pe_bl))))) (pss_nil))))))) (pss_one ((ps_ret (pe_bl)))))))))))), ?_⟩
    case m1 => exact List.mem_cons.mpr (.inl rfl)
    case m5 => exact List.mem_cons.mpr (.inl rfl)
    case m2 => exact hu1 h12 h13
    case m6 => exact hu1 h12 h13
    case m3 => exact lamS_by (sc := defScope s__law_kinds_right) (by decide +kernel)
    case m7 => exact lamS_by (sc := defScope s__law_kinds_right) (by decide +kernel)
    case m4 => rfl
    case m8 => rfl
    intro d hdn vn H2 s2 hvn
    refine ⟨by show 2 ≤ sizeLine; decide, fun tp htp => ?_⟩
    have s3 : Same H2 (upd H2 tp (.tup [.ref d, vn])) := same_upd (Same.refl _) htp
    refine ⟨tp, _, rfl, SqT.of upd_same, rfl, _, _, rfl, _, _, rfl, rfl, ?_⟩
    generalize upd H2 tp (.tup [.ref d, vn]) = H3 at s3 ⊢
    have s1 : Same H (upd H d (.dK [])) := same_upd (Same.refl _) hdn
    have s13 := s2.trans s3
    have s03 := s1.trans s13
    have hd3 : H3 d = some (.dK (kvsT [])) := s13 _ _ upd_same
    have hvn3 := dp_same s3 hvn
    have hdr3 := hdr.same s03
    refine ⟨_, rfl, v, 4, rfl, hdr3, by omega, fun r H4 s4 hr4 => ?_⟩
    have s04 := s03.trans s4
    have er : (1 + (r : Int)).toNat = 1 + r := by omega
    refine ⟨_, _, rfl, rfl, _, rfl, by omega, by omega, ?_⟩
    rw [er]
    refine for_it (walk_range (lo := 0) (n := 1 + r)) (fun i σ H' => (∃ x2, σ = [some v, some vn, x2, none, none, none, none, some (.ref d), none, none]) ∧ Same H H' ∧ DrawAt K H' v ∧ Dp K H' vn (.list (nm4.map .str)) ∧
      ∃ L, H' d = some (.dK (kvsT L)) ∧ (∀ e ∈ L, Dp K H' e.2.1 e.2.2) ∧ ThingL L i)
      ⟨⟨_, rfl⟩, s04, hdr3.same s4, dp_same s4 hvn3, [], s4 _ _ hd3, fun e he => by simp at he, ⟨fun e he => by simp at he, rfl⟩⟩
      (fun _ _ _ _ _ => trivial) ?turn1 ?after1
    case turn1 =>
      rintro i x σ H5 H5' hi ⟨⟨x2, rfl⟩, s05, hdr5, hvn5, L, hd5, dp5, hG⟩ ⟨rfl, rfl⟩
      have hi4 : i < 4 := by omega
      obtain ⟨n, hni⟩ : ∃ n, nm4[i]? = some n := ⟨_, List.getElem?_eq_getElem (by show i < 4; exact hi4)⟩
      refine ⟨_, rfl, v, 3, rfl, hdr5, by omega, fun r2 H6 s6 h2 => ⟨_, _, rfl, rfl, _, rfl, ?_⟩⟩
      refine ite2 (fun _ => ?_) (fun _ => ?_)
      · refine ⟨_, rfl, v, rfl, hdr5.same s6, fun x dx H7 s67 hx7 hth => ?_⟩
        have s57 := s6.trans s67
        (
          obtain ⟨an, xn, rfl, hsn, hxn⟩ := list_val (dp_same s57 hvn5)
          have hd8 := s57 _ _ hd5
          have dp8 : ∀ e ∈ L, Dp K _ e.2.1 e.2.2 := fun e he => dp_same s57 (dp5 e he)
          have hat : xn[i]? = some (.str n) := by
            obtain ⟨x, h1, h2⟩ := all_ix hxn i (.str n) (by rw [List.getElem?_map, hni]; rfl)
            cases h2
            exact h1
          refine ⟨_, rfl, _, rfl, _, rfl, an, xn, _, _, rfl, rfl, hsn, by rw [Int.zero_add]; exact atI_nat hat, d, _, rfl, DPut.k (k := Sum.inr n) hd8 (by rw [kvs_len]; have := hG.len; exact small1000 (by omega)), ?_⟩
          rw [putK_new (hG.new hni)]
          refine ⟨⟨_, rfl⟩, same_upd' (s05.trans s57) hdn, draw_upd hd8 (hdr5.same s57), dp_updK hd8 (dp_same s57 hvn5), L ++ [(n, x, dx)], by rw [upd_same, kvs_app], fun e he => ?_, hG.put hni hth⟩
          rcases List.mem_append.mp he with z | z
          · exact dp_updK hd8 (dp8 e z)
          · rw [List.mem_singleton.mp z]
            exact dp_updK hd8 hx7
        )
      · refine ⟨_, rfl, rfl, fun vk H7 s67 hvk => ?_⟩
        obtain ⟨ak, xk, rfl, hsk, hak⟩ := list_val hvk
        refine ⟨v, ak, xk, rfl, (hdr5.same s6).same s67, .inl hsk, by rw [all_len hak]; decide, fun x hx H8 s78 => ?_⟩
        obtain ⟨dx, hdx, hx7⟩ := all_get hak x hx
        have hth : Thing dx := .kd hdx
        have s57 := (s6.trans s67).trans s78
        have hx7 := dp_same s78 hx7
        (
          obtain ⟨an, xn, rfl, hsn, hxn⟩ := list_val (dp_same s57 hvn5)
          have hd8 := s57 _ _ hd5
          have dp8 : ∀ e ∈ L, Dp K _ e.2.1 e.2.2 := fun e he => dp_same s57 (dp5 e he)
          have hat : xn[i]? = some (.str n) := by
            obtain ⟨x, h1, h2⟩ := all_ix hxn i (.str n) (by rw [List.getElem?_map, hni]; rfl)
            cases h2
            exact h1
          refine ⟨_, rfl, _, rfl, _, rfl, an, xn, _, _, rfl, rfl, hsn, by rw [Int.zero_add]; exact atI_nat hat, d, _, rfl, DPut.k (k := Sum.inr n) hd8 (by rw [kvs_len]; have := hG.len; exact small1000 (by omega)), ?_⟩
          rw [putK_new (hG.new hni)]
          refine ⟨⟨_, rfl⟩, same_upd' (s05.trans s57) hdn, draw_upd hd8 (hdr5.same s57), dp_updK hd8 (dp_same s57 hvn5), L ++ [(n, x, dx)], by rw [upd_same, kvs_app], fun e he => ?_, hG.put hni hth⟩
          rcases List.mem_append.mp he with z | z
          · exact dp_updK hd8 (dp8 e z)
          · rw [List.mem_singleton.mp z]
            exact dp_updK hd8 hx7
        )
    case after1 =>
      rintro σ H5 ⟨⟨x2, rfl⟩, s05, hdr5, hvn5, L, hd5, dp5, hG⟩
      have hlen := hG.len
      have hL5 : Told K H5 d L := ⟨hd5, hG.ents dp5⟩
      refine ⟨by show 0 ≤ sizeLine; decide, fun sl hsl5 => ?_⟩
      have sA : Same H5 (upd H5 sl (.lst [])) := same_upd (Same.refl _) hsl5
      have hslA : (upd H5 sl (.lst [])) sl = some (.lst []) := upd_same
      generalize upd H5 sl (.lst []) = HA at sA hslA ⊢
      refine ⟨_, rfl, d, kvsT L, rfl, .inl (sA _ _ hd5), fun l1 hl1 => ?_⟩
      have en : (kvsT L).map (fun kv => kV kv.1) = (L.map (·.1)).map V.str := by rw [kvs_keys, List.map_map]; rfl
      rw [en]
      have sB : Same HA (upd HA l1 (.lst ((L.map (·.1)).map V.str))) := same_upd (Same.refl _) hl1
      have hlB : (upd HA l1 (.lst ((L.map (·.1)).map V.str))) l1 = some (.lst ((L.map (·.1)).map V.str)) := upd_same
      generalize upd HA l1 (.lst ((L.map (·.1)).map V.str)) = HB at sB hlB ⊢
      refine ⟨l1, L.map (·.1), rfl, SqL.of hlB, by rw [List.length_map]; omega, fun ys nm pm so hnm => ?_⟩
      obtain ⟨M, hMp, rfl⟩ := perm_back (·.1) pm L rfl
      have enm : ((M.map (·.1)).map V.str) = M.map fun e => V.str e.1 := by rw [List.map_map]; rfl
      rw [enm]
      have sC : Same HB (upd HB nm (.lst (M.map fun e => V.str e.1))) := same_upd (Same.refl _) hnm
      have hnmC : (upd HB nm (.lst (M.map fun e => V.str e.1))) nm = some (.lst (M.map fun e => V.str e.1)) := upd_same
      have hslB := sB _ _ hslA
      have hnsl : sl ≠ nm := fun z => by rw [← z, hslB] at hnm; cases hnm
      have hslC := sC _ _ hslB
      generalize upd HB nm (.lst (M.map fun e => V.str e.1)) = HC at sC hnmC hslC ⊢
      have s5C := (sA.trans sB).trans sC
      have hlM : M.length = L.length := hMp.length_eq
      have eM := hL5.ok.perm hMp
      have hthM : ∀ e ∈ M, Thing e.2.2 := fun e he => hG.th e (hMp.mem_iff.mp he)
      refine ⟨nm, rfl, ⟨_, SqL.of hnmC⟩, for_it (walk_list (xs := M.map fun e => V.str e.1)) (fun i σ H' => (∃ dv x5, σ = [some v, some vn, x2, some dv, some (.ref sl), x5, none, some (.ref d), none, none] ∧ Dp K H' dv (dueD (badTo M i))) ∧ Same H5 H' ∧ H' sl = some (.lst ((M.take i).map (·.2.1))) ∧ H' nm = some (.lst (M.map fun e => V.str e.1)))
        ⟨⟨.non, _, rfl, .non⟩, s5C, hslC, hnmC⟩ (fun i σ H' _ p => SqL.of p.2.2.2) ?turn2 ?after2⟩
      case turn2 =>
        rintro i x σ H6 H6' hi ⟨⟨dv, x5, rfl, hdv6⟩, s56, hsl6, hnm6⟩ ⟨rfl, hx⟩
        obtain ⟨e, he, rfl⟩ := idx_map hx
        have em : e ∈ M := List.mem_of_getElem? he
        have hbn := badTo_next he
        refine ⟨_, rfl, rfl, _, rfl, ?_⟩
        rw [none_eq hdv6]
        cases hb : badTo M i with
        | some n =>
          rw [hb] at hbn hdv6
          refine iteF ?_
          have hdv : Dp K H6' dv (dueD (badTo M (i + 1))) := by rw [hbn]; exact hdv6
          have s67 := Same.refl H6'
          (
            have hsl7 := s67 _ _ hsl6
            have s57 := s56.trans s67
            refine ⟨_, rfl, .inl ⟨rfl, _, SqL.of hsl7⟩, _, rfl, _, rfl, d, _, rfl, (hL5.same s57).get (hMp.mem_iff.mp em), sl, _, _, rfl, rfl, hsl7, ?_, ?_⟩
            · rw [List.length_map, List.length_take]
              exact small1000 (by omega)
            · refine ⟨⟨_, _, rfl, dp_at hsl7 hdv (due_flat _)⟩, same_upd' s57 hsl5, ?_, ?_⟩
              · rw [upd_same, List.take_add_one, he, List.map_append]
                rfl
              · rw [upd_ne (fun z => hnsl z.symm)]
                exact s67 _ _ hnm6
          )
        | none =>
          rw [hb] at hbn hdv6
          have hbn : badTo M (i + 1) = if (isKindD e.2.2 && !(((M.take i).map (·.2.2)).any fun z => PyData.eqv z e.2.2)) = true then none else some e.1 := hbn
          refine iteT ⟨_, rfl, _, rfl, d, _, rfl, (hL5.same s56).get (hMp.mem_iff.mp em), e.2.1, e.2.2, rfl, dp_same s56 (eM.dp e em), hthM e em, fun H7 s67 => ⟨_, rfl, ?_⟩⟩
          have hsl7 := s67 _ _ hsl6
          have s57 := s56.trans s67
          have bad : (isKindD e.2.2 && !(((M.take i).map (·.2.2)).any fun z => PyData.eqv z e.2.2)) = false → badTo M (i + 1) = some e.1 := fun z => by rw [hbn, z]; rfl
          cases hk : isKindD e.2.2 with
          | false =>
            refine iteT ⟨_, rfl, by show 2 ≤ sizeLine; decide, fun t ht => ?_⟩
            have s7t : Same H7 (upd H7 t (.tup [.str "kinds", .str e.1])) := same_upd (Same.refl _) ht
            have s67 := s67.trans s7t
            have hdv : Dp K (upd H7 t (.tup [.str "kinds", .str e.1])) (.ref t) (dueD (badTo M (i + 1))) := by
              rw [bad (by rw [hk]; rfl)]
              exact .tup (SqT.of upd_same) (.cons (.str _) (.cons (.str _) .nil))
            (
              have hsl7 := s67 _ _ hsl6
              have s57 := s56.trans s67
              refine ⟨_, rfl, .inl ⟨rfl, _, SqL.of hsl7⟩, _, rfl, _, rfl, d, _, rfl, (hL5.same s57).get (hMp.mem_iff.mp em), sl, _, _, rfl, rfl, hsl7, ?_, ?_⟩
              · rw [List.length_map, List.length_take]
                exact small1000 (by omega)
              · refine ⟨⟨_, _, rfl, dp_at hsl7 hdv (due_flat _)⟩, same_upd' s57 hsl5, ?_, ?_⟩
                · rw [upd_same, List.take_add_one, he, List.map_append]
                  rfl
                · rw [upd_ne (fun z => hnsl z.symm)]
                  exact s67 _ _ hnm6
            )
          | true =>
            refine iteF ⟨_, rfl, _, rfl, d, _, rfl, (hL5.same s57).get (hMp.mem_iff.mp em), _, rfl, e.2.2, (M.take i).map (fun e : Ent => e.2.2), dp_same s57 (eM.dp e em), .lst (SqL.of hsl7) (dpAll_of fun e' m' => dp_same s57 (eM.dp e' (List.mem_of_mem_take m'))), shaped_el (eM.sh e em), shaped_all (fun z hz => by obtain ⟨e', m', rfl⟩ := List.mem_map.mp hz; exact eM.sh e' (List.mem_of_mem_take m')), _, rfl, ?_⟩
            refine ite2 (fun c => ?_) (fun c => ?_)
            · refine ⟨_, rfl, by show 2 ≤ sizeLine; decide, fun t ht => ?_⟩
              have s7t : Same H7 (upd H7 t (.tup [.str "kinds", .str e.1])) := same_upd (Same.refl _) ht
              have s67 := s67.trans s7t
              have hdv : Dp K (upd H7 t (.tup [.str "kinds", .str e.1])) (.ref t) (dueD (badTo M (i + 1))) := by
                rw [bad (by rw [hk, c]; rfl)]
                exact .tup (SqT.of upd_same) (.cons (.str _) (.cons (.str _) .nil))
              (
                have hsl7 := s67 _ _ hsl6
                have s57 := s56.trans s67
                refine ⟨_, rfl, .inl ⟨rfl, _, SqL.of hsl7⟩, _, rfl, _, rfl, d, _, rfl, (hL5.same s57).get (hMp.mem_iff.mp em), sl, _, _, rfl, rfl, hsl7, ?_, ?_⟩
                · rw [List.length_map, List.length_take]
                  exact small1000 (by omega)
                · refine ⟨⟨_, _, rfl, dp_at hsl7 hdv (due_flat _)⟩, same_upd' s57 hsl5, ?_, ?_⟩
                  · rw [upd_same, List.take_add_one, he, List.map_append]
                    rfl
                  · rw [upd_ne (fun z => hnsl z.symm)]
                    exact s67 _ _ hnm6
              )
            · have c : (((M.take i).map (·.2.2)).any fun z => PyData.eqv z e.2.2) = false := by simpa using c
              have hdv : Dp K H7 dv (dueD (badTo M (i + 1))) := by
                rw [hbn, hk, c, if_pos (by rfl)]
                exact dp_same s67 hdv6
              (
                have hsl7 := s67 _ _ hsl6
                have s57 := s56.trans s67
                refine ⟨_, rfl, .inl ⟨rfl, _, SqL.of hsl7⟩, _, rfl, _, rfl, d, _, rfl, (hL5.same s57).get (hMp.mem_iff.mp em), sl, _, _, rfl, rfl, hsl7, ?_, ?_⟩
                · rw [List.length_map, List.length_take]
                  exact small1000 (by omega)
                · refine ⟨⟨_, _, rfl, dp_at hsl7 hdv (due_flat _)⟩, same_upd' s57 hsl5, ?_, ?_⟩
                  · rw [upd_same, List.take_add_one, he, List.map_append]
                    rfl
                  · rw [upd_ne (fun z => hnsl z.symm)]
                    exact s67 _ _ hnm6
              )
      case after2 =>
        rintro σ H6 ⟨⟨dv, x5, rfl, hdv6⟩, s56, hsl6, hnm6⟩
        have hlx : (M.map fun e => V.str e.1).length = M.length := List.length_map _
        have ebt : badTo M (M.map fun e => V.str e.1).length = firstBad [] M := by
          unfold badTo
          rw [hlx, List.take_length]
        rw [ebt] at hdv6
        have s06 := s05.trans s56
        have hbn : ∀ n, firstBad [] M = some n → n ∈ nm4 := fun n h => by
          obtain ⟨e, he, rfl⟩ := firstBad_in h
          exact hG.names e (hMp.mem_iff.mp he)
        have hhas : hasNamesK (kvsT L) = true := has_names (by have := hlen.2.2 (by omega); omega) hlen.2.1 fun e he => nm4_name _ (hG.names e he)
        refine told_kinds T (y := "told") (js := [7]) (fun c' => ⟨nscope_by (by dsimp only; decide +kernel), fun _ _ => rfl, fun f A outer s H E hr => pe_make T.kf.mkK (ok_Kinds_init T) (hr.mono (by decide)) (by rfl) T.cKinds.m T.Kinds_init.b .nil pN (pa_cons (pv 0) pa_nil),
          fun ok => Caps.made ok (lamS_by (sc := defScope s__law_kinds_right) (by decide +kernel)).free (by decide +kernel) rfl⟩) (fun _ => rfl) rfl (tabs_same s06 hT) (.of rfl (hL5.same s56) hhas hMp so) fun tv H7 s67 htv => ?_
        refine ⟨_, rfl, dueD (firstBad [] M), dueD (firstBad [] M), htv, dp_n s67.n hdv6, due_shape hbn, due_shape hbn, _, rfl, ?_⟩
        rw [due_eqv hbn]
        refine iteF ?_
        intro vk H8 s78 hvk
        have s08 : Ss (tabsT P1 P2 P3) H H8 := (ss_of s06).trans (s67.trans (ss_of s78))
        have hT8 := s08.t hT
        intro d2 hd2
        have sa : Same H8 (upd H8 d2 (.dK [])) := same_upd (Same.refl _) hd2
        have ha : (upd H8 d2 (.dK [])) d2 = some (.dK []) := upd_same
        generalize upd H8 d2 (.dK []) = Ha at sa ha ⊢
        refine ⟨by show 0 ≤ sizeLine; decide, fun l3 hl3 => ?_⟩
        have sb : Same Ha (upd Ha l3 (.lst [])) := same_upd (Same.refl _) hl3
        have hb : (upd Ha l3 (.lst [])) l3 = some (.lst []) := upd_same
        generalize upd Ha l3 (.lst []) = Hb at sb hb ⊢
        intro p0 hp0
        have sc0 : Same Hb (upd (upd Hb p0 (.dK [])) p0 (.dK (mergeK [] [(Sum.inr ("A" : Str), vk)]))) := same_upd (same_upd (Same.refl _) hp0) hp0
        have hc0 : (upd (upd Hb p0 (.dK [])) p0 (.dK (mergeK [] [(Sum.inr ("A" : Str), vk)]))) p0 = some (.dK [(Sum.inr ("A" : Str), vk)]) := upd_same
        refine ⟨_, rfl, upd_same, [(Sum.inr ("A" : Str), vk)], rfl, by show 1 ≤ 15; omega, ?_⟩
        generalize upd (upd Hb p0 (.dK [])) p0 (.dK (mergeK [] [(Sum.inr ("A" : Str), vk)])) = Hc0 at sc0 hc0 ⊢
        intro p1 hp1
        have sc1 : Same Hc0 (upd (upd Hc0 p1 (.dK [])) p1 (.dK (mergeK [] [(Sum.inr ("" : Str), vk)]))) := same_upd (same_upd (Same.refl _) hp1) hp1
        have hc1 : (upd (upd Hc0 p1 (.dK [])) p1 (.dK (mergeK [] [(Sum.inr ("" : Str), vk)]))) p1 = some (.dK [(Sum.inr ("" : Str), vk)]) := upd_same
        refine ⟨_, rfl, upd_same, [(Sum.inr ("" : Str), vk)], rfl, by show 1 ≤ 15; omega, ?_⟩
        generalize upd (upd Hc0 p1 (.dK [])) p1 (.dK (mergeK [] [(Sum.inr ("" : Str), vk)])) = Hc1 at sc1 hc1 ⊢
        intro p2 hp2
        have sc2 : Same Hc1 (upd (upd Hc1 p2 (.dK [])) p2 (.dK (mergeK [] [(Sum.inr ("abcdefghi" : Str), vk)]))) := same_upd (same_upd (Same.refl _) hp2) hp2
        have hc2 : (upd (upd Hc1 p2 (.dK [])) p2 (.dK (mergeK [] [(Sum.inr ("abcdefghi" : Str), vk)]))) p2 = some (.dK [(Sum.inr ("abcdefghi" : Str), vk)]) := upd_same
        refine ⟨_, rfl, upd_same, [(Sum.inr ("abcdefghi" : Str), vk)], rfl, by show 1 ≤ 15; omega, ?_⟩
        generalize upd (upd Hc1 p2 (.dK [])) p2 (.dK (mergeK [] [(Sum.inr ("abcdefghi" : Str), vk)])) = Hc2 at sc2 hc2 ⊢
        intro p3 hp3
        have sc3 : Same Hc2 (upd (upd Hc2 p3 (.dK [])) p3 (.dK (mergeK [] [(Sum.inl (3 : Int), vk)]))) := same_upd (same_upd (Same.refl _) hp3) hp3
        have hc3 : (upd (upd Hc2 p3 (.dK [])) p3 (.dK (mergeK [] [(Sum.inl (3 : Int), vk)]))) p3 = some (.dK [(Sum.inl (3 : Int), vk)]) := upd_same
        refine ⟨_, rfl, upd_same, [(Sum.inl (3 : Int), vk)], rfl, by show 1 ≤ 15; omega, ?_⟩
        generalize upd (upd Hc2 p3 (.dK [])) p3 (.dK (mergeK [] [(Sum.inl (3 : Int), vk)])) = Hc3 at sc3 hc3 ⊢
        intro p4 hp4
        have sc4 : Same Hc3 (upd (upd Hc3 p4 (.dK [])) p4 (.dK (mergeK [] [(Sum.inr ("a1" : Str), vk)]))) := same_upd (same_upd (Same.refl _) hp4) hp4
        have hc4 : (upd (upd Hc3 p4 (.dK [])) p4 (.dK (mergeK [] [(Sum.inr ("a1" : Str), vk)]))) p4 = some (.dK [(Sum.inr ("a1" : Str), vk)]) := upd_same
        refine ⟨_, rfl, upd_same, [(Sum.inr ("a1" : Str), vk)], rfl, by show 1 ≤ 15; omega, ?_⟩
        generalize upd (upd Hc3 p4 (.dK [])) p4 (.dK (mergeK [] [(Sum.inr ("a1" : Str), vk)])) = Hc4 at sc4 hc4 ⊢
        have s8c := (((((sa.trans sb).trans sc0).trans sc1).trans sc2).trans sc3).trans sc4
        have hvk4 := dp_same s8c hvk
        refine ⟨1, 6, rfl, ⟨by decide, by decide, by decide, by decide⟩, fun D hD => ?_⟩
        refine lc_rel (i := 9) (K := K) (walk_range (lo := 1) (n := 5)) (fun j dd => dd = .tuple [.str ⟨(List.replicate (1 + j) 97).toArray⟩, .tuple [.int 1, .tuple []]]) (fun _ _ => trivial) hD (by decide) (fun _ => rfl) ?elt ?done
        case elt =>
          rintro j x H9 H9' hj s9 ⟨rfl, rfl⟩
          refine ⟨Same.refl _, fun Q1 q1 => ?_⟩
          have e1 : (1 : Int) + (j : Nat) = ((1 + j : Nat) : Int) := by omega
          refine ⟨_, rfl, 97, 1 + j, rfl, by show V.int _ = V.int _; rw [e1], by omega, by omega, _, rfl, by show 2 ≤ sizeLine; decide, fun p hp => ?_⟩
          have s10 : Same H9' (upd H9' p (.tup [.str ⟨(List.replicate (1 + j) 97).toArray⟩, vk])) := same_upd (Same.refl _) hp
          exact q1 _ _ _ s10 (.tup (SqT.of upd_same) (.cons (.str _) (.cons (dp_same (s9.trans s10) hvk4) .nil))) rfl rfl
        case done =>
          intro H9 vs ds s9 hD9 ha9 hl9 hr9
          match ds, hl9, hr9, ha9 with
          | [a0, a1, a2, a3, a4], _, hr9, .cons (v := v0) b0 (.cons (v := v1) b1 (.cons (v := v2) b2 (.cons (v := v3) b3 (.cons (v := v4) b4 .nil)))) =>
          have f0 := hr9 0 a0 rfl
          have f1 := hr9 1 a1 rfl
          have f2 := hr9 2 a2 rfl
          have f3 := hr9 3 a3 rfl
          have f4 := hr9 4 a4 rfl
          subst f0 f1 f2 f3 f4
          obtain ⟨q0, y0, rfl, g0⟩ := pair_val b0
          obtain ⟨q1, y1, rfl, g1⟩ := pair_val b1
          obtain ⟨q2, y2, rfl, g2⟩ := pair_val b2
          obtain ⟨q3, y3, rfl, g3⟩ := pair_val b3
          obtain ⟨q4, y4, rfl, g4⟩ := pair_val b4
          refine ⟨D, [q0, q1, q2, q3, q4], [(Sum.inr ⟨(List.replicate 1 97).toArray⟩, y0), (Sum.inr ⟨(List.replicate 2 97).toArray⟩, y1), (Sum.inr ⟨(List.replicate 3 97).toArray⟩, y2), (Sum.inr ⟨(List.replicate 4 97).toArray⟩, y3), (Sum.inr ⟨(List.replicate 5 97).toArray⟩, y4)], rfl, SqL.of hD9,
            .cons g0 (.cons g1 (.cons g2 (.cons g3 (.cons g4 .nil)))), fun p9 hp9 => ?_⟩
          generalize hkv : mergeK [] [((Sum.inr ⟨(List.replicate 1 97).toArray⟩ : Key), y0), (Sum.inr ⟨(List.replicate 2 97).toArray⟩, y1), (Sum.inr ⟨(List.replicate 3 97).toArray⟩, y2), (Sum.inr ⟨(List.replicate 4 97).toArray⟩, y3), (Sum.inr ⟨(List.replicate 5 97).toArray⟩, y4)] = kv9
          have hkv2 : kv9 = [((Sum.inr ⟨(List.replicate 1 97).toArray⟩ : Key), y0), (Sum.inr ⟨(List.replicate 2 97).toArray⟩, y1), (Sum.inr ⟨(List.replicate 3 97).toArray⟩, y2), (Sum.inr ⟨(List.replicate 4 97).toArray⟩, y3), (Sum.inr ⟨(List.replicate 5 97).toArray⟩, y4)] := by
            rw [← hkv]
            rfl
          have sd : Same H9 (upd H9 p9 (.dK kv9)) := same_upd (Same.refl _) hp9
          have hc9 : (upd H9 p9 (.dK kv9)) p9 = some (.dK kv9) := upd_same
          generalize upd H9 p9 (.dK kv9) = H10 at sd hc9 ⊢
          refine ⟨by show 9 ≤ sizeLine; decide, fun tw htw => ?_⟩
          have se : Same H10 (upd H10 tw (.tup [.non, .ref d2, .ref l3, .ref p0, .ref p1, .ref p2, .ref p3, .ref p4, .ref p9])) := same_upd (Same.refl _) htw
          have hte : (upd H10 tw (.tup [.non, .ref d2, .ref l3, .ref p0, .ref p1, .ref p2, .ref p3, .ref p4, .ref p9])) tw = some (.tup [.non, .ref d2, .ref l3, .ref p0, .ref p1, .ref p2, .ref p3, .ref p4, .ref p9]) := upd_same
          generalize upd H10 tw (.tup [.non, .ref d2, .ref l3, .ref p0, .ref p1, .ref p2, .ref p3, .ref p4, .ref p9]) = H11 at se hte ⊢
          have sde := sd.trans se
          have s4e := s9.trans sde
          have s3e := sc4.trans s4e
          have s2e := sc3.trans s3e
          have s1e := sc2.trans s2e
          have s0e := sc1.trans s1e
          have sbe := sc0.trans s0e
          have sae := sb.trans sbe
          have one : ∀ {p : Addr} {k : Key} {y : V}, H11 p = some (.dK [(k, y)]) → isNameK k = false → keyOk k → NoNames K H11 (.ref p) := fun {p k y} h hk ho =>
            .inr ⟨p, [(k, y)], rfl, h, by show 1 ≤ 100; omega, fun q hq => by rw [List.mem_singleton.mp hq]; exact ho, names_one hk⟩
          have hall : ∀ x ∈ [V.non, .ref d2, .ref l3, .ref p0, .ref p1, .ref p2, .ref p3, .ref p4, .ref p9], NoNames K H11 x := fun x hx => by
            simp only [List.mem_cons, List.not_mem_nil, or_false] at hx
            rcases hx with rfl | rfl | rfl | rfl | rfl | rfl | rfl | rfl | rfl
            · exact .inl ⟨.none, .non, rfl⟩
            · exact .inr ⟨d2, [], rfl, sae _ _ ha, by show 0 ≤ 100; omega, fun q hq => by simp at hq, rfl⟩
            · exact .inl ⟨.list [], .lst (SqL.of (sbe _ _ hb)) .nil, rfl⟩
            · exact one (s0e _ _ hc0) (by decide +kernel) (by show (_ : Nat) ≤ 1000; decide +kernel)
            · exact one (s1e _ _ hc1) (by decide +kernel) (by show (_ : Nat) ≤ 1000; decide +kernel)
            · exact one (s2e _ _ hc2) (by decide +kernel) (by show (_ : Nat) ≤ 1000; decide +kernel)
            · exact one (s3e _ _ hc3) rfl trivial
            · exact one (s4e _ _ hc4) (by decide +kernel) (by show (_ : Nat) ≤ 1000; decide +kernel)
            · refine .inr ⟨p9, kv9, rfl, se _ _ hc9, by rw [hkv2]; show 5 ≤ 100; omega, fun q hq => ?_, by rw [hkv2]; rfl⟩
              rw [hkv2] at hq
              simp only [List.mem_cons, List.not_mem_nil, or_false] at hq
              rcases hq with rfl | rfl | rfl | rfl | rfl <;> (show (_ : Nat) ≤ 1000; decide +kernel)
          have s0f : Ss (tabsT P1 P2 P3) H H11 := s08.trans (ss_of (s8c.trans s4e))
          refine ⟨tw, rfl, ⟨_, SqT.of hte⟩, for_it (walk_tup (xs := [.non, .ref d2, .ref l3, .ref p0, .ref p1, .ref p2, .ref p3, .ref p4, .ref p9])) (fun i σ H' => (∃ x8, σ = [some v, some vn, x2, some dv, some (.ref sl), x5, some vk, some (.ref d), x8, none]) ∧ Ss (tabsT P1 P2 P3) H11 H')
            ⟨⟨none, rfl⟩, Ss.refl _⟩ (fun i σ H' _ p => sqT_n p.2.n (SqT.of hte)) ?turn3 ?after3⟩
          case turn3 =>
            rintro i x σ H12 H12' hi ⟨⟨x8, rfl⟩, s12⟩ ⟨rfl, hx⟩
            have hno := (hall x (List.mem_of_getElem? hx)).n s12.n
            refine told_kinds T (y := "wrong") (js := [8]) (fun c' => ⟨nscope_by (by dsimp only; decide +kernel), fun _ _ => rfl, fun f A outer s H E hr => pe_make T.kf.mkK (ok_Kinds_init T) (hr.mono (by decide)) (by rfl) T.cKinds.m T.Kinds_init.b .nil pN (pa_cons (pv 0) pa_nil),
              fun ok => Caps.made ok (lamS_by (sc := defScope s__law_kinds_right) (by decide +kernel)).free (by decide +kernel) rfl⟩) (fun _ => rfl) rfl (s12.t (s0f.t hT)) (.no hno) fun tv H13 s13 htv => ?_
            refine ⟨by show 2 ≤ sizeLine; decide, fun t ht => ?_⟩
            have st : Same H13 (upd H13 t (.tup [.str "kinds", .non])) := same_upd (Same.refl _) ht
            refine ⟨_, _, dp_same st htv, .tup (SqT.of upd_same) (.cons (.str _) (.cons .non .nil)), by decide +kernel, by decide +kernel, _, rfl, ?_⟩
            exact iteF ⟨⟨_, rfl⟩, s12.trans (s13.trans (ss_of st))⟩
          case after3 =>
            rintro σ H12 ⟨⟨x8, rfl⟩, s12⟩
            exact q _ (s0f.trans s12)
end
end K41

end

section
set_option Elab.async false
set_option linter.all false
set_option maxRecDepth 100000
set_option maxHeartbeats 4000000
/-! Deeds: a lambda, and what is due of it. -/
namespace K41
open PySem PySem.Spec PyProof.Rows L2 KX LamX NdefX
theorem text_dp {K : PySem.W.Frag} {H : Hp} {v : V} {t : List Int} (h : Dp K H v (.tuple (t.map .int))) : TextAt K H v t := by
  cases h with
  | tup hs ha =>
    refine ⟨_, rfl, ?_⟩
    have : ∀ {xs : List V} {t : List Int}, DpAll K H xs (t.map .int) → xs = t.map V.int := by
      intro xs t
      induction t generalizing xs with
      | nil => intro h; cases h; rfl
      | cons n r ih =>
        intro h
        cases h with
        | cons h1 h2 =>
          cases h1
          rw [ih h2]
          rfl
    rw [← this ha]
    exact hs
section
variable {P : Program} {w : World} {K : PySem.W.Frag} {mg : Str → Option Value} {base : Heap}
/-- what is known within _law_refused -/
structure RF (T : Top K mg) (p a g : Addr) (M L : List Ent) (e : Ent) (wd : Int) (ps : List PyData) (H : Hp) : Prop where
  k : KindsAt K T.cKinds.c H p M
  t : Told K H a L
  em : e ∈ M
  ed : e.2.2 = .tuple [.int wd, .tuple ps]
  g : Dp K H (.ref g) (.tuple [.str e.1, .int 0, if hasNewD ps = true then .int 100 else .none, .int 0])
  zz : ∀ x ∈ M, x.1 ≠ "zz"
theorem RF.n {T : Top K mg} {p a g : Addr} {M L : List Ent} {e : Ent} {wd : Int} {ps : List PyData} {H H' : Hp} (h : RF T p a g M L e wd ps H) (x : ExtN H H') : RF T p a g M L e wd ps H' := ⟨h.k.n x, h.t.n x, h.em, h.ed, dp_n x h.g, h.zz⟩
theorem RF.same {T : Top K mg} {p a g : Addr} {M L : List Ent} {e : Ent} {wd : Int} {ps : List PyData} {H H' : Hp} (h : RF T p a g M L e wd ps H) (s : Same H H') : RF T p a g M L e wd ps H' := h.n (ExtN.of fun b o e => s b o e)
/-- the state within it -/
abbrev stR (p a g : Addr) (e : Ent) (x y : Option V) : L2.St := [some (.ref p), some (.ref a), none, some (.ref g), some (.str e.1), x, y]
/-- at v: something that can be called, and what is told of it -/
def DeedOk (T : Top K mg) (X : Cx) (σ : L2.St) (H : Hp) (v : V) (d : PyData) : Prop := ∃ f F N fr js tb, v = .ref f ∧ H f = some (LamO f F) ∧ H F.c = some (CodeO F.c F.qual) ∧ LamGood X 18 F N fr js tb ∧ (∀ j ∈ js, j ≠ 2) ∧
  ∀ H1, ExtN H H1 → ∀ Q : VK, (∀ tv H', Same H1 H' → Dp K H' tv d → Q tv H') → toldTT T (lamTl f F N tb (js.map (slotAt σ))) H1 Q
theorem DeedOk.n {T : Top K mg} {X : Cx} {σ : L2.St} {H H' : Hp} {v : V} {d : PyData} (e : ExtN H H') (h : DeedOk T X σ H v d) : DeedOk T X σ H' v d := by
  obtain ⟨f, F, N, fr, js, tb, h1, h2, h3, h4, h5, h6⟩ := h
  exact ⟨f, F, N, fr, js, tb, h1, lam_n e h2, code_n e h3, h4, h5, fun H1 e1 => h6 H1 (e.trans e1)⟩
def DeedAt (T : Top K mg) (X : Cx) (σ : L2.St) (H : Hp) (v : V) (d : PyData) : Prop := ∃ t f dv, v = .ref t ∧ SqT K H t [f, dv] ∧ Dp K H dv d ∧ DeedOk T X σ H f d
theorem DeedAt.n {T : Top K mg} {X : Cx} {σ : L2.St} {H H' : Hp} {v : V} {d : PyData} (e : ExtN H H') (h : DeedAt T X σ H v d) : DeedAt T X σ H' v d := by
  obtain ⟨t, f, dv, h1, h2, h3, h4⟩ := h
  exact ⟨t, f, dv, h1, sqT_n e h2, dp_n e h3, h4.n e⟩
def tDeed (T : Top K mg) (X : Cx) (Ts : List (Addr × Str)) (d : PyData) : TE := fun σ H Q => ∃ p a g M L e wd ps, σ = stR p a g e none none ∧ Tabs Ts H ∧ RF T p a g M L e wd ps H ∧ ∀ v H', Ss Ts H H' → DeedAt T X σ H' v d → Q v H'
def tDeeds (T : Top K mg) (X : Cx) (Ts : List (Addr × Str)) (ds : List PyData) : TA := fun σ H Q => ∃ p a g M L e wd ps, σ = stR p a g e none none ∧ Tabs Ts H ∧ RF T p a g M L e wd ps H ∧ ∀ vs H', Ss Ts H H' → Paired (DeedAt T X σ H') vs ds → Q vs H'
theorem pa_deed0 (T : Top K mg) {X : Cx} {Ts : List (Addr × Str)} : PA X [] (tDeeds T X Ts []) := ⟨fun pos pins s σ H Q I h => by
  obtain ⟨p, a, g, M, L, e, wd, ps, rfl, hT, rf, q⟩ := h
  exact pa_nil.run pos pins s _ H Q I (q _ _ (Ss.refl H) .nil)⟩
theorem pa_deed (T : Top K mg) {X : Cx} {Ts : List (Addr × Str)} {d : PyData} {ds : List PyData} {x : Expr} {es : List Expr} (hx : PE X x (tDeed T X Ts d)) (hr : PA X es (tDeeds T X Ts ds)) (hs : starEach (x :: es) X.env = (false, eval x X.env) :: starEach es X.env := by rfl) :
    PA X (x :: es) (tDeeds T X Ts (d :: ds)) := ⟨fun pos pins s σ H Q I h => by
  obtain ⟨p, a, g, M, L, e, wd, ps, rfl, hT, rf, q⟩ := h
  refine (pa_cons hx hr hs).run pos pins s _ H Q I ?_
  refine ⟨p, a, g, M, L, e, wd, ps, rfl, hT, rf, fun v H1 s1 h1 => ?_⟩
  refine ⟨p, a, g, M, L, e, wd, ps, rfl, s1.t hT, rf.n s1.n, fun vs H2 s2 h2 => ?_⟩
  exact q _ _ (s1.trans s2) (.cons (h1.n s2.n) h2)⟩
theorem pe_deed (T : Top K mg) {X : Cx} {Ts : List (Addr × Str)} {d : PyData} {c Pt : Addr} {params : Arguments} {body dueE : Expr} {scope : Scope} {kk : Nat} {pos pos2 : Pos} {N fr : List Str} {js : List Nat} {tb : XK → TE}
    (hK : X.K = K) (TB : TabB X.base X.mg c Pt) (hcode : X.env.code = .ref c) (hm : (Pt, X.env.qual ++ "<lambda>") ∈ Ts) (hu : ∀ p ∈ Ts, p.1 = Pt → p.2 = X.env.qual ++ "<lambda>") (LS : LamS X.env.scope scope) (hdef : defaultsOf params X.env = ([], []))
    (good : ∀ c', LamGood X 18 ⟨X.env.qual ++ "<lambda>", params, body, scope, cloFrom X.env.cells scope.names [], c'⟩ N fr js tb) (hd : Lit dueE d)
    (run : ∀ p a g M L e wd ps H, RF T p a g M L e wd ps H → ∀ Q : VK, (∀ tv H', Same H H' → Dp K H' tv d → Q tv H') → ∀ E' : XK, (∀ cls dd H', ToldE T Q cls dd H' → E' cls dd H') → tb E' (startF N [] (js.map (slotAt (stR p a g e none none)))) H fun _ H' => Q .non H')
    (hj : ∀ j ∈ js, j ≠ 2 := by decide) (hs1 : starEach (Expr.Lambda params body scope pos :: [dueE]) X.env = (false, eval (Expr.Lambda params body scope pos) X.env) :: starEach [dueE] X.env := by rfl) :
    PE X (.Tuple [.Lambda params body scope pos, dueE] kk pos2) (tDeed T X Ts d) := by
  have hs2 : starEach [dueE] X.env = (false, eval dueE X.env) :: starEach [] X.env := by cases hd <;> rfl
  subst hK
  refine ⟨fun pins s σ H Q I h => ?_⟩
  obtain ⟨p, a, g, M, L, e, wd, ps, rfl, hT, rf, q⟩ := h
  refine (pe_tup (pa_cons (pe_lam (T := Ts) TB hcode hm hu LS hdef) (pa_cons (pe_lit hd) pa_nil hs2) hs1)).run pins s _ H Q I ?_
  refine ⟨hT, fun f c' H1 eN T1 f0 back f1 c1 => ?_⟩
  intro dv H2 s2 hdv
  refine ⟨by show 2 ≤ sizeLine; decide, fun t ht => ?_⟩
  have s3 : Same H2 (upd H2 t (.tup [.ref f, dv])) := same_upd (Same.refl _) ht
  have e13 : ExtN H1 (upd H2 t (.tup [.ref f, dv])) := (ss_of (T := Ts) (s2.trans s3)).n
  refine q _ _ (⟨eN, fun _ => T1⟩ |> fun z : Ss Ts H H1 => z.trans (ss_of (s2.trans s3))) ⟨t, .ref f, dv, rfl, SqT.of upd_same, dp_same s3 hdv, ?_⟩
  refine ⟨f, _, N, fr, js, tb, rfl, lam_n e13 f1, code_n e13 c1, good c', hj, fun H4 e4 Q4 q4 E' hE' => ?_⟩
  have e14 := e13.trans e4
  exact ⟨lam_n e14 f1, code_n e14 c1, run p a g M L e wd ps H4 (rf.n (eN.trans e14)) Q4 q4 E' hE'⟩
/-! what errors end with -/
theorem r_kinds (T : Top K mg) {Q : VK} {E' : XK} {H : Hp} {v : V} {dv : PyData} (hE' : ∀ cls dd H', ToldE T Q cls dd H' → E' cls dd H') (q : ∀ tv H', Same H H' → Dp K H' tv (.tuple [.str "kinds", dv]) → Q tv H') (hv : ∀ H', Dp K H' v dv) : Raises1 H E' T.cBadKinds.c "name" v :=
  fun dd H' s n hx => hE' _ _ _ (.inl ⟨rfl, dd, v, rfl, hx, fun p H'' s'' hp => q _ _ (s.trans s'') (.tup (SqT.of hp) (.cons (.str _) (.cons (hv _) .nil)))⟩)
theorem r_change (T : Top K mg) {Q : VK} {E' : XK} {H : Hp} {v : V} {dv : PyData} (hE' : ∀ cls dd H', ToldE T Q cls dd H' → E' cls dd H') (q : ∀ tv H', Same H H' → Dp K H' tv (.tuple [.str "change", dv]) → Q tv H') (hv : ∀ H', Dp K H' v dv) : Raises1 H E' T.cBadChange.c "place" v :=
  fun dd H' s n hx => hE' _ _ _ (.inr (.inl ⟨rfl, dd, v, rfl, hx, fun p H'' s'' hp => q _ _ (s.trans s'') (.tup (SqT.of hp) (.cons (.str _) (.cons (hv _) .nil)))⟩))
theorem r_cannot (T : Top K mg) {Q : VK} {E' : XK} {H : Hp} {v : V} {dv : PyData} (hE' : ∀ cls dd H', ToldE T Q cls dd H' → E' cls dd H') (q : ∀ tv H', Same H H' → Dp K H' tv (.tuple [.str "cannot", dv]) → Q tv H') (hv : ∀ H', Dp K H' v dv) : Raises1 H E' T.cCannotDo.c "place" v :=
  fun dd H' s n hx => hE' _ _ _ (.inr (.inr (.inl ⟨rfl, dd, v, rfl, hx, fun p H'' s'' hp => q _ _ (s.trans s'') (.tup (SqT.of hp) (.cons (.str _) (.cons (hv _) .nil)))⟩)))
theorem r_text (T : Top K mg) {Q : VK} {E' : XK} {H : Hp} (hE' : ∀ cls dd H', ToldE T Q cls dd H' → E' cls dd H') (q : ∀ tv H', Same H H' → Dp K H' tv (.str "text") → Q tv H') : ∀ H', Same H H' → E' (.ref T.cBadText.c) none H' :=
  fun H' s => hE' _ _ _ (.inr (.inr (.inr ⟨rfl, rfl, q _ _ s (.str _)⟩)))
def glD (ps : List PyData) : PyData := if hasNewD ps = true then .int 100 else .none
theorem findE_none {M : List Ent} {n : Str} (h : ∀ x ∈ M, x.1 ≠ n) : findE M (.str n) = none := by
  cases e : findE M (.str n) with
  | none => rfl
  | some x =>
    obtain ⟨y, hy, h1, h2⟩ := findE_some e
    exact absurd (PyData.str.inj h1).symm (h y hy)
theorem RF.needs {T : Top K mg} {p a g : Addr} {M L : List Ent} {e : Ent} {wd : Int} {ps : List PyData} {H : Hp} (h : RF T p a g M L e wd ps H) : needsD M (.str e.1) = hasNewD ps ∧ findE M (.str e.1) = some e.2.1 ∧ rowD M e.1 = ps ∧ widthD M e.1 = wd ∧ 0 ≤ wd := by
  obtain ⟨dx, D, h1, h2, h3⟩ := h.k
  obtain ⟨r1, r2⟩ := rowD_of h2.ok.nd h.em h.ed
  obtain ⟨w', ps', ed', w0, _, _⟩ := kind_form (h3 e h.em)
  rw [h.ed] at ed'
  cases ed'
  refine ⟨?_, findE_of h2.ok.nd h.em, r1, r2, w0⟩
  show hasNewD (rowD M e.1) = _
  rw [r1]
theorem RF.change {T : Top K mg} {p a g : Addr} {M L : List Ent} {e : Ent} {wd : Int} {ps : List PyData} {H : Hp} (h : RF T p a g M L e wd ps H) (pl hd : Int) : isChangeD M (.tuple [.str e.1, .int pl, glD ps, .int hd]) = decide (0 ≤ hd) := by
  obtain ⟨n1, n2, _⟩ := h.needs
  show ((findE M (.str e.1)).isSome && (true && (true && (decide (0 ≤ hd) && (if needsD M (.str e.1) = true then isIntD (glD ps) else noneD (glD ps)))))) = _
  rw [n1, n2]
  unfold glD
  cases hasNewD ps <;> simp [isIntD, noneD]
theorem RF.good {T : Top K mg} {p a g : Addr} {M L : List Ent} {e : Ent} {wd : Int} {ps : List PyData} {H : Hp} (h : RF T p a g M L e wd ps H) : ∃ gv, SqT K H g [.str e.1, .int 0, gv, .int 0] ∧ Dp K H gv (glD ps) := by
  have hg : Dp K H (.ref g) (.tuple [.str e.1, .int 0, glD ps, .int 0]) := h.g
  cases hg with
  | tup hs ha =>
    cases ha with
    | cons a1 t1 =>
      cases a1
      cases t1 with
      | cons a2 t2 =>
        cases a2
        cases t2 with
        | cons a3 t3 =>
          cases t3 with
          | cons a4 t4 =>
            cases a4
            cases t4
            exact ⟨_, hs, a3⟩
theorem txt12 : isTextD (.tuple ([1, 2].map PyData.int)) = true := by decide +kernel
/-- a list of changes, the first bad one told -/
theorem chgs (T : Top K mg) {H : Hp} {Q : VK} {E : XK} {p : Addr} {M : List Ent} {vt vc : V} {ds : List PyData} {i : Nat} (hk : KindsAt K T.cKinds.c H p M) (ht : Dp K H vt (.tuple [.int 1, .int 2])) (hs : SeqD K H vc ds) (hl : ds.length ≤ 6) (h0 : badC M 0 ds = some i) (r : Raises1 H E T.cBadChange.c "place" (.int (i : Nat))) : spDoneAll T [.ref p, vt, vc] H Q E := by
  refine ⟨.ref p, vt, vc, rfl, .inr ⟨p, M, rfl, hk, .inr ⟨[1, 2], text_dp (t := [1, 2]) ht, txt12, by decide, .inr ⟨ds, hs, hl, ?_⟩⟩⟩⟩
  rw [h0]
  exact r
theorem chg1 (T : Top K mg) {H : Hp} {Q : VK} {E : XK} {p l : Addr} {M : List Ent} {vt vc : V} {d : PyData} (hk : KindsAt K T.cKinds.c H p M) (ht : Dp K H vt (.tuple [.int 1, .int 2])) (hl : H l = some (.lst [vc])) (hv : Dp K H vc d) (h0 : okC M d = false) (r : Raises1 H E T.cBadChange.c "place" (.int (0 : Nat))) : spDoneAll T [.ref p, vt, .ref l] H Q E :=
  chgs T hk ht ⟨.list [d], .lst (SqL.of hl) (.cons hv .nil), .inl rfl⟩ (by show 1 ≤ 6; omega) (badC_no h0) r
/-- .. the first that can't be done -/
theorem chgn (T : Top K mg) {H : Hp} {Q : VK} {E : XK} {p : Addr} {M : List Ent} {vt vc : V} {ds : List PyData} {i : Nat} (hk : KindsAt K T.cKinds.c H p M) (ht : Dp K H vt (.tuple [.int 1, .int 2])) (hs : SeqD K H vc ds) (hl : ds.length ≤ 6) (h0 : badC M 0 ds = none) (h1 : runD M 0 [1, 2] ds = .inl i) (r : Raises1 H E T.cCannotDo.c "place" (.int (i : Nat))) : spDoneAll T [.ref p, vt, vc] H Q E := by
  refine ⟨.ref p, vt, vc, rfl, .inr ⟨p, M, rfl, hk, .inr ⟨[1, 2], text_dp (t := [1, 2]) ht, txt12, by decide, .inr ⟨ds, hs, hl, ?_⟩⟩⟩⟩
  rw [h0, h1]
  exact r
theorem txtb (T : Top K mg) {H : Hp} {Q : VK} {E : XK} {p : Addr} {M : List Ent} {vt vc : V} {d : PyData} (hk : KindsAt K T.cKinds.c H p M) (ht : Dp K H vt d) (hl : lenD d ≤ 100) (h0 : isTextD d = false) (r : ∀ H', Same H H' → E (.ref T.cBadText.c) none H') : spDoneAll T [.ref p, vt, vc] H Q E :=
  ⟨.ref p, vt, vc, rfl, .inr ⟨p, M, rfl, hk, .inl ⟨d, ht, hl, h0, r⟩⟩⟩
theorem RF.okC {T : Top K mg} {p a g : Addr} {M L : List Ent} {e : Ent} {wd : Int} {ps : List PyData} {H : Hp} (h : RF T p a g M L e wd ps H) (pl hd : Int) : K41.okC M (.tuple [.str e.1, .int pl, glD ps, .int hd]) = decide (0 ≤ hd) := by
  unfold K41.okC
  rw [h.change]
  rfl
theorem DeedOk.slot {T : Top K mg} {X : Cx} {σ σ' : L2.St} {H : Hp} {v : V} {d : PyData} (h : DeedOk T X σ H v d) (e : ∀ j, j ≠ 2 → σ'[j]? = σ[j]?) : DeedOk T X σ' H v d := by
  obtain ⟨f, F, N, fr, js, tb, h1, h2, h3, h4, h5, h6⟩ := h
  refine ⟨f, F, N, fr, js, tb, h1, h2, h3, h4, h5, fun H1 e1 Q q => ?_⟩
  have : js.map (slotAt σ') = js.map (slotAt σ) := List.map_congr_left fun j hj => by
    unfold NdefX.slotAt
    rw [e j (h5 j hj)]
  rw [this]
  exact h6 H1 e1 Q q
theorem lcE_it {J : It} {n : Nat} {G : Hp → Prop} {Y : Nat → Hp → V → Hp → Prop} (w : Walk J n G Y) {g : TG} {te : TE} {vs : List Nat} {σ : L2.St} {H1 : Hp} {D : Addr} {Qd : Hp → Prop} (Pv : Nat → Hp → Prop) (h0 : Pv 0 (upd H1 D (.lst []))) (hG : ∀ i H, i ≤ n → Pv i H → G H)
    (hs : ∀ i x H H', i < n → Pv i H → Y i H x H' → g x (wipe σ vs) H' fun σ2 H2 => wipe σ2 vs = wipe σ vs ∧ te σ2 H2 fun y H4 => ∃ acc, H4 D = some (.lst acc) ∧ acc.length < sizeLine ∧ Pv (i + 1) (upd H4 D (.lst (acc ++ [y])))) (hd : ∀ H, Pv n H → Qd H) :
    ∃ W : Nat → Nat → Hp → Prop, (∃ m, W 0 m (upd H1 D (.lst []))) ∧ ∀ i m H, W i m H →
      (J.stop i H ∧ Qd H) ∨ (J.go i H ∧ ∃ Nx : Hp → Prop, (∀ H', Nx H' → ∃ m', m' < m ∧ W (i + 1) m' H') ∧ ∀ x H', J.yld i H x H' → g x (wipe σ vs) H' fun σ2 H2 => wipe σ2 vs = wipe σ vs ∧
        te σ2 H2 fun y H4 => ∃ acc, H4 D = some (.lst acc) ∧ acc.length < sizeLine ∧ Nx (upd H4 D (.lst (acc ++ [y])))) := by
  refine ⟨fun i m H => m = n - i ∧ i ≤ n ∧ Pv i H, ⟨n, by simp, Nat.zero_le _, h0⟩, ?_⟩
  rintro i m H ⟨rfl, hi, p⟩
  have q := hG i H hi p
  by_cases hlt : i < n
  · refine .inr ⟨w.goes i H hlt q, Pv (i + 1), fun H' p' => ⟨n - (i + 1), by omega, rfl, hlt, p'⟩, fun x H' y => hs i x H H' hlt p (w.yields i H x H' hlt q y)⟩
  · have e : i = n := by omega
    subst e
    exact .inl ⟨w.stops H q, hd H p⟩
theorem tabs_updL {Ts : List (Addr × Str)} {H : Hp} {D : Addr} {vs ws : List V} (h : H D = some (.lst vs)) (t : Tabs Ts H) : Tabs Ts (upd H D (.lst ws)) := fun p hp => by
  obtain ⟨ps, h1, h2, h3⟩ := t p hp
  have ne : ∀ {b : Addr} {u : HO}, H b = some u → (∀ l, u ≠ .lst l) → b ≠ D := fun {b u} e h' z => by
    rw [z, h] at e
    exact h' _ (Option.some.inj e).symm
  refine ⟨ps, by rw [upd_ne (ne h1 (fun l z => nomatch z))]; exact h1, h2, fun pos cv e => ?_⟩
  obtain ⟨c, e1, e2⟩ := h3 pos cv e
  exact ⟨c, e1, by rw [upd_ne (ne e2 (fun l z => nomatch (show HO.ext _ = HO.lst _ from z)))]; exact e2⟩
theorem ss_updL {Ts : List (Addr × Str)} {H0 H : Hp} {D : Addr} {vs ws : List V} (s : Ss Ts H0 H) (h0 : H0 D = none) (h : H D = some (.lst vs)) : Ss Ts H0 (upd H D (.lst ws)) :=
  ⟨fun b o hb nt => by rw [upd_ne (ne_of_none hb h0)]; exact s.n b o hb nt, fun z => tabs_updL h (s.t z)⟩
end
end K41

end

section
set_option Elab.async false
set_option linter.all false
set_option maxRecDepth 100000
set_option maxHeartbeats 8000000
/-! What is wrong is refused. -/
namespace K41
open PySem PySem.Spec PyProof.Rows L2 KX LamX NdefX
def rLst (K : PySem.W.Frag) : List V → Hp → VK → Prop := fun xs H Q => ∃ p ys, xs = [.ref p] ∧ (SqL K H p ys ∨ SqT K H p ys) ∧ ∀ l, H l = none → Q (.ref l) (upd H l (.lst ys))
theorem okC_zz {M : List Ent} {b c d : PyData} (h : ∀ x ∈ M, x.1 ≠ "zz") : okC M (.tuple [.str "zz", b, c, d]) = false := by
  show (false || ((findE M (.str "zz")).isSome && _)) = false
  rw [findE_none h]
  rfl
theorem okC_bl {M : List Ent} {a c d : PyData} {x : Bool} : okC M (.tuple [a, .bool x, c, d]) = false := by
  show (false || ((findE M a).isSome && (false && _))) = false
  simp
section
variable {P : Program} {w : World} {K : PySem.W.Frag} {mg : Str → Option Value} {base : Heap} {P1 P2 P3 : Addr}
theorem RF.swapped {T : Top K mg} {p a g : Addr} {M L : List Ent} {e : Ent} {wd : Int} {ps : List PyData} {H : Hp} (h : RF T p a g M L e wd ps H) : K41.okC M (.tuple [.str e.1, .int 0, if noneD (glD ps) = true then .int 7 else .none, .int 0]) = false := by
  obtain ⟨n1, n2, _⟩ := h.needs
  show (false || ((findE M (.str e.1)).isSome && (true && (true && (decide ((0 : Int) ≤ 0) && (if needsD M (.str e.1) = true then isIntD (if noneD (glD ps) = true then .int 7 else .none) else noneD (if noneD (glD ps) = true then .int 7 else .none))))))) = false
  rw [n1, n2]
  unfold glD
  cases hasNewD ps <;> simp [isIntD, noneD]
theorem RF.low {T : Top K mg} {p a g : Addr} {M L : List Ent} {e : Ent} {wd : Int} {ps : List PyData} {H : Hp} (h : RF T p a g M L e wd ps H) {t : List Int} {l x : PyData} : stepD M t (.tuple [.str e.1, .int (-1), l, x]) = none := by
  show (if canD (widthD M e.1) t (-1) l = true then some (behindD t (rowD M e.1) (widthD M e.1) (-1) l) else none) = none
  rw [if_neg]
  unfold canD
  simp
theorem RF.far {T : Top K mg} {p a g : Addr} {M L : List Ent} {e : Ent} {wd : Int} {ps : List PyData} {H : Hp} (h : RF T p a g M L e wd ps H) {l x : PyData} : stepD M [1, 2] (.tuple [.str e.1, .int 9, l, x]) = none := by
  obtain ⟨_, _, _, n4, n5⟩ := h.needs
  show (if canD (widthD M e.1) [1, 2] 9 l = true then some (behindD [1, 2] (rowD M e.1) (widthD M e.1) 9 l) else none) = none
  rw [n4, if_neg]
  unfold canD
  have : ¬ (9 : Int) ≤ (([1, 2] : List Int).length : Int) - wd := by
    show ¬ (9 : Int) ≤ 2 - wd
    omega
  rw [decide_eq_false this]
  simp
theorem hu2 (h12 : P1 ≠ P2) (h23 : P2 ≠ P3) : ∀ p ∈ tabsT P1 P2 P3, p.1 = P2 → p.2 = "_law_refused.<locals>.<lambda>" := by
  intro p hp e
  simp only [tabsT, List.mem_cons, List.not_mem_nil, or_false] at hp
  rcases hp with rfl | rfl | rfl
  · exact absurd e h12
  · rfl
  · exact absurd e.symm h23
theorem pget {α β : Type} {F : α → β → Prop} : ∀ {xs : List α} {ys : List β}, Paired F xs ys → ∀ {i : Nat} {x : α}, xs[i]? = some x → ∃ y, ys[i]? = some y ∧ F x y
  | _, _, .nil, i, x, h => by simp at h
  | _, _, .cons a t, 0, x, h => by
    simp at h
    subst h
    exact ⟨_, rfl, a⟩
  | _, _, .cons a t, i + 1, x, h => by
    obtain ⟨y, h1, h2⟩ := pget t (i := i) (by simpa using h)
    exact ⟨y, by simpa using h1, h2⟩
def duesR : List PyData := [.tuple [.str "kinds", .none], .tuple [.str "kinds", .none], .str "text", .str "text", .str "text", .tuple [.str "change", .none], .tuple [.str "change", .none], .tuple [.str "change", .int 0], .tuple [.str "change", .int 0], .tuple [.str "change", .int 0], .tuple [.str "change", .int 0], .tuple [.str "change", .int 0], .tuple [.str "change", .int 0], .tuple [.str "change", .int 0], .tuple [.str "change", .int 2], .tuple [.str "cannot", .int 1], .tuple [.str "cannot", .int 0], .tuple [.str "kinds", .str "zz"], .tuple [.str "kinds", .str "zz"], .tuple [.str "kinds", .int 3]]
theorem dues_ok0 : (duesR.all fun d => SeqAt.shaped d && PyData.eqv d d) = true := by decide +kernel
theorem dues_ok : ∀ d ∈ duesR, SeqAt.shaped d = true ∧ PyData.eqv d d = true := fun d hd => by
  have := List.all_eq_true.mp dues_ok0 d hd
  rwa [Bool.and_eq_true] at this
def spRefused (T : Top K mg) (Ts : List (Addr × Str)) : Sp := fun vs H Q _ => ∃ p a M L, vs = [.ref p, .ref a] ∧ KindsAt K T.cKinds.c H p M ∧ Told K H a L ∧ GoodL L ∧ M.Perm L ∧ 0 < L.length ∧ Tabs Ts H ∧ ∀ H', Ss Ts H H' → Q (.bl true) H'
theorem ok__law_refused (L : TopL K mg P1 P2 P3) (TB : TabB base mg L.rf.c P2) (h12 : P1 ≠ P2) (h23 : P2 ≠ P3) : FnOk P w K mg base (L2.CX P w) 21 L.T._law_refused.a L.T._law_refused.d ["kinds", "told"] (spRefused L.T (tabsT P1 P2 P3)) := by
  refine L.rf.okX sc__law_refused (fun vs H Q E h => ?_) (fun A outer s H vs Q E hr h => ?_)
  · obtain ⟨p, a, M, L', rfl, _⟩ := h
    rfl
  · obtain ⟨p, a, M, Lt, rfl, hk, hL, hGL, hMp, hpos, hT, q⟩ := h
    let T := L.T
    refine ⟨_, (pss_cons ((ps_set (i := 4) sc__law_refused.nd rfl (Or.inr rfl) ((pe_ix (ix_list) ((pe_callB (cr_sortedS) (by rfl) T.bf.sorted_ (by decide +kernel) (pa_cons ((pe_callTy (call_listD rfl) (by rfl) T.bf.list_ (by decide +kernel) (pa_cons (pv 1) pa_nil))) pa_nil))) (pe_int) (fun _ _ => rfl))))) (pss_cons ((ps_set (i := 3) sc__law_refused.nd rfl (Or.inr rfl) ((pe_call (ok__law_made T) (hr.mono (by decide)) (by rfl) T._law_made.m T._law_made.f.kp T._law_made.b .nil pX (pa_cons (pv 1) (pa_cons (pv 4) (pa_cons (pe_int) (pa_cons (pe_int) (pa_cons (pe_int) pa_nil))))))))) (pss_cons ((ps_set (i := 2) sc__law_refused.nd rfl (Or.inl rfl) (pe_lst (pa_deed T (pe_deed (N := []) (fr := []) (js := []) T rfl TB rfl (List.mem_cons.mpr (.inr (List.mem_cons.mpr (.inl rfl)))) (hu2 h12 h23) (lamS_by (sc := defScope s__law_refused) (by decide +kernel)) rfl (fun c' => ⟨nscope_by (by dsimp only; decide +kernel), fun _ _ => rfl, fun f A outer s H E hr => (pe_call (ok_done T) (hr.mono (by decide)) (by rfl) T.done.m T.done.f.kp T.done.b .nil pN (pa_cons (pe_non) (pa_cons (pe_int) (pa_cons (pe_int) pa_nil)))), fun ok => Caps.made ok (lamS_by (sc := defScope s__law_refused) (by decide +kernel)).free (by decide +kernel) rfl⟩) (by repeat (first | (refine Lits.cons ?_ ?_ (Nat.le_of_lt_succ ?_)) | decide | constructor)) ?r1)
        (pa_deed T (pe_deed (N := ["told"]) (fr := ["told"]) (js := [1]) T rfl TB rfl (List.mem_cons.mpr (.inr (List.mem_cons.mpr (.inl rfl)))) (hu2 h12 h23) (lamS_by (sc := defScope s__law_refused) (by decide +kernel)) rfl (fun c' => ⟨nscope_by (by dsimp only; decide +kernel), fun _ _ => rfl, fun f A outer s H E hr => (pe_call (ok_done_all T) (hr.mono (by decide)) (by rfl) T.done_all.m T.done_all.f.kp T.done_all.b .nil pN (pa_cons (pv 0) (pa_cons ((show PE _ _ (tLit K (.tuple [])) from pe_lit (by repeat (first | (refine Lits.cons ?_ ?_ (Nat.le_of_lt_succ ?_)) | decide | constructor)))) (pa_cons ((show PE _ _ (tLit K (.list [])) from pe_lit (by repeat (first | (refine Lits.cons ?_ ?_ (Nat.le_of_lt_succ ?_)) | decide | constructor)))) pa_nil)))), fun ok => Caps.made ok (lamS_by (sc := defScope s__law_refused) (by decide +kernel)).free (by decide +kernel) rfl⟩) (by repeat (first | (refine Lits.cons ?_ ?_ (Nat.le_of_lt_succ ?_)) | decide | constructor)) ?r2)
        (pa_deed T (pe_deed (N := ["kinds"]) (fr := ["kinds"]) (js := [0]) T rfl TB rfl (List.mem_cons.mpr (.inr (List.mem_cons.mpr (.inl rfl)))) (hu2 h12 h23) (lamS_by (sc := defScope s__law_refused) (by decide +kernel)) rfl (fun c' => ⟨nscope_by (by dsimp only; decide +kernel), fun _ _ => rfl, fun f A outer s H E hr => (pe_call (ok_done T) (hr.mono (by decide)) (by rfl) T.done.m T.done.f.kp T.done.b .nil pN (pa_cons (pv 0) (pa_cons ((show PE _ _ (tLit K (.list [.int 1])) from pe_lit (by repeat (first | (refine Lits.cons ?_ ?_ (Nat.le_of_lt_succ ?_)) | decide | constructor)))) (pa_cons (pe_int) pa_nil)))), fun ok => Caps.made ok (lamS_by (sc := defScope s__law_refused) (by decide +kernel)).free (by decide +kernel) rfl⟩) (by repeat (first | (refine Lits.cons ?_ ?_ (Nat.le_of_lt_succ ?_)) | decide | constructor)) ?r3)
        (pa_deed T (pe_deed (N := ["kinds"]) (fr := ["kinds"]) (js := [0]) T rfl TB rfl (List.mem_cons.mpr (.inr (List.mem_cons.mpr (.inl rfl)))) (hu2 h12 h23) (lamS_by (sc := defScope s__law_refused) (by decide +kernel)) rfl (fun c' => ⟨nscope_by (by dsimp only; decide +kernel), fun _ _ => rfl, fun f A outer s H E hr => (pe_call (ok_done T) (hr.mono (by decide)) (by rfl) T.done.m T.done.f.kp T.done.b .nil pN (pa_cons (pv 0) (pa_cons ((show PE _ _ (tLit K (.tuple [.int 1, .int 1])) from pe_lit (by repeat (first | (refine Lits.cons ?_ ?_ (Nat.le_of_lt_succ ?_)) | decide | constructor)))) (pa_cons (pe_non) pa_nil)))), fun ok => Caps.made ok (lamS_by (sc := defScope s__law_refused) (by decide +kernel)).free (by decide +kernel) rfl⟩) (by repeat (first | (refine Lits.cons ?_ ?_ (Nat.le_of_lt_succ ?_)) | decide | constructor)) ?r4)
        (pa_deed T (pe_deed (N := ["kinds"]) (fr := ["kinds"]) (js := [0]) T rfl TB rfl (List.mem_cons.mpr (.inr (List.mem_cons.mpr (.inl rfl)))) (hu2 h12 h23) (lamS_by (sc := defScope s__law_refused) (by decide +kernel)) rfl (fun c' => ⟨nscope_by (by dsimp only; decide +kernel), fun _ _ => rfl, fun f A outer s H E hr => (pe_call (ok_done T) (hr.mono (by decide)) (by rfl) T.done.m T.done.f.kp T.done.b .nil pN (pa_cons (pv 0) (pa_cons ((show PE _ _ (tLit K (.tuple [.bool true])) from pe_lit (by repeat (first | (refine Lits.cons ?_ ?_ (Nat.le_of_lt_succ ?_)) | decide | constructor)))) (pa_cons (pe_non) pa_nil)))), fun ok => Caps.made ok (lamS_by (sc := defScope s__law_refused) (by decide +kernel)).free (by decide +kernel) rfl⟩) (by repeat (first | (refine Lits.cons ?_ ?_ (Nat.le_of_lt_succ ?_)) | decide | constructor)) ?r5)
        (pa_deed T (pe_deed (N := ["kinds"]) (fr := ["kinds"]) (js := [0]) T rfl TB rfl (List.mem_cons.mpr (.inr (List.mem_cons.mpr (.inl rfl)))) (hu2 h12 h23) (lamS_by (sc := defScope s__law_refused) (by decide +kernel)) rfl (fun c' => ⟨nscope_by (by dsimp only; decide +kernel), fun _ _ => rfl, fun f A outer s H E hr => (pe_call (ok_done_all T) (hr.mono (by decide)) (by rfl) T.done_all.m T.done_all.f.kp T.done_all.b .nil pN (pa_cons (pv 0) (pa_cons ((show PE _ _ (tLit K (.tuple [.int 1, .int 2])) from pe_lit (by repeat (first | (refine Lits.cons ?_ ?_ (Nat.le_of_lt_succ ?_)) | decide | constructor)))) (pa_cons (pe_int) pa_nil)))), fun ok => Caps.made ok (lamS_by (sc := defScope s__law_refused) (by decide +kernel)).free (by decide +kernel) rfl⟩) (by repeat (first | (refine Lits.cons ?_ ?_ (Nat.le_of_lt_succ ?_)) | decide | constructor)) ?r6)
        (pa_deed T (pe_deed (N := ["kinds"]) (fr := ["kinds"]) (js := [0]) T rfl TB rfl (List.mem_cons.mpr (.inr (List.mem_cons.mpr (.inl rfl)))) (hu2 h12 h23) (lamS_by (sc := defScope s__law_refused) (by decide +kernel)) rfl (fun c' => ⟨nscope_by (by dsimp only; decide +kernel), fun _ _ => rfl, fun f A outer s H E hr => (pe_call (ok_done_all T) (hr.mono (by decide)) (by rfl) T.done_all.m T.done_all.f.kp T.done_all.b .nil pN (pa_cons (pv 0) (pa_cons ((show PE _ _ (tLit K (.tuple [.int 1, .int 2])) from pe_lit (by repeat (first | (refine Lits.cons ?_ ?_ (Nat.le_of_lt_succ ?_)) | decide | constructor)))) (pa_cons (pe_dnewK) pa_nil)))), fun ok => Caps.made ok (lamS_by (sc := defScope s__law_refused) (by decide +kernel)).free (by decide +kernel) rfl⟩) (by repeat (first | (refine Lits.cons ?_ ?_ (Nat.le_of_lt_succ ?_)) | decide | constructor)) ?r7)
        (pa_deed T (pe_deed (N := ["kinds"]) (fr := ["kinds"]) (js := [0]) T rfl TB rfl (List.mem_cons.mpr (.inr (List.mem_cons.mpr (.inl rfl)))) (hu2 h12 h23) (lamS_by (sc := defScope s__law_refused) (by decide +kernel)) rfl (fun c' => ⟨nscope_by (by dsimp only; decide +kernel), fun _ _ => rfl, fun f A outer s H E hr => (pe_call (ok_done T) (hr.mono (by decide)) (by rfl) T.done.m T.done.f.kp T.done.b .nil pN (pa_cons (pv 0) (pa_cons ((show PE _ _ (tLit K (.tuple [.int 1, .int 2])) from pe_lit (by repeat (first | (refine Lits.cons ?_ ?_ (Nat.le_of_lt_succ ?_)) | decide | constructor)))) (pa_cons (pe_int) pa_nil)))), fun ok => Caps.made ok (lamS_by (sc := defScope s__law_refused) (by decide +kernel)).free (by decide +kernel) rfl⟩) (by repeat (first | (refine Lits.cons ?_ ?_ (Nat.le_of_lt_succ ?_)) | decide | constructor)) ?r8)
        (pa_deed T (pe_deed (N := ["good", "kinds", "name"]) (fr := ["good", "kinds", "name"]) (js := [3, 0, 4]) T rfl TB rfl (List.mem_cons.mpr (.inr (List.mem_cons.mpr (.inl rfl)))) (hu2 h12 h23) (lamS_by (sc := defScope s__law_refused) (by decide +kernel)) rfl (fun c' => ⟨nscope_by (by dsimp only; decide +kernel), fun _ _ => rfl, fun f A outer s H E hr => (pe_call (ok_done T) (hr.mono (by decide)) (by rfl) T.done.m T.done.f.kp T.done.b .nil pN (pa_cons (pv 1) (pa_cons ((show PE _ _ (tLit K (.tuple [.int 1, .int 2])) from pe_lit (by repeat (first | (refine Lits.cons ?_ ?_ (Nat.le_of_lt_succ ?_)) | decide | constructor)))) (pa_cons ((pe_tup (pa_cons (pv 2) (pa_cons (pe_int) (pa_cons ((pe_ix ((show IxR _ (rIxT K) from ix_tup)) (pv 0) (pe_int) (fun _ _ => rfl))) pa_nil))))) pa_nil)))), fun ok => Caps.made ok (lamS_by (sc := defScope s__law_refused) (by decide +kernel)).free (by decide +kernel) rfl⟩) (by repeat (first | (refine Lits.cons ?_ ?_ (Nat.le_of_lt_succ ?_)) | decide | constructor)) ?r9)
        (pa_deed T (pe_deed (N := ["good", "kinds"]) (fr := ["good", "kinds"]) (js := [3, 0]) T rfl TB rfl (List.mem_cons.mpr (.inr (List.mem_cons.mpr (.inl rfl)))) (hu2 h12 h23) (lamS_by (sc := defScope s__law_refused) (by decide +kernel)) rfl (fun c' => ⟨nscope_by (by dsimp only; decide +kernel), fun _ _ => rfl, fun f A outer s H E hr => (pe_call (ok_done T) (hr.mono (by decide)) (by rfl) T.done.m T.done.f.kp T.done.b .nil pN (pa_cons (pv 1) (pa_cons ((show PE _ _ (tLit K (.tuple [.int 1, .int 2])) from pe_lit (by repeat (first | (refine Lits.cons ?_ ?_ (Nat.le_of_lt_succ ?_)) | decide | constructor)))) (pa_cons ((pe_callTy (T := "list") (show CallR _ (.type "list") (rLst K) from call_list_of) (by rfl) T.bf.list_ (by decide +kernel) (pa_cons (pv 0) pa_nil))) pa_nil)))), fun ok => Caps.made ok (lamS_by (sc := defScope s__law_refused) (by decide +kernel)).free (by decide +kernel) rfl⟩) (by repeat (first | (refine Lits.cons ?_ ?_ (Nat.le_of_lt_succ ?_)) | decide | constructor)) ?r10)
        (pa_deed T (pe_deed (N := ["good", "kinds"]) (fr := ["good", "kinds"]) (js := [3, 0]) T rfl TB rfl (List.mem_cons.mpr (.inr (List.mem_cons.mpr (.inl rfl)))) (hu2 h12 h23) (lamS_by (sc := defScope s__law_refused) (by decide +kernel)) rfl (fun c' => ⟨nscope_by (by dsimp only; decide +kernel), fun _ _ => rfl, fun f A outer s H E hr => (pe_call (ok_done T) (hr.mono (by decide)) (by rfl) T.done.m T.done.f.kp T.done.b .nil pN (pa_cons (pv 1) (pa_cons ((show PE _ _ (tLit K (.tuple [.int 1, .int 2])) from pe_lit (by repeat (first | (refine Lits.cons ?_ ?_ (Nat.le_of_lt_succ ?_)) | decide | constructor)))) (pa_cons ((pe_tup (pa_cons (pe_str) (pa_cons (pe_int) (pa_cons ((pe_ix ((show IxR _ (rIxT K) from ix_tup)) (pv 0) (pe_int) (fun _ _ => rfl))) (pa_cons (pe_int) pa_nil)))))) pa_nil)))), fun ok => Caps.made ok (lamS_by (sc := defScope s__law_refused) (by decide +kernel)).free (by decide +kernel) rfl⟩) (by repeat (first | (refine Lits.cons ?_ ?_ (Nat.le_of_lt_succ ?_)) | decide | constructor)) ?r11)
        (pa_deed T (pe_deed (N := ["good", "kinds", "name"]) (fr := ["good", "kinds", "name"]) (js := [3, 0, 4]) T rfl TB rfl (List.mem_cons.mpr (.inr (List.mem_cons.mpr (.inl rfl)))) (hu2 h12 h23) (lamS_by (sc := defScope s__law_refused) (by decide +kernel)) rfl (fun c' => ⟨nscope_by (by dsimp only; decide +kernel), fun _ _ => rfl, fun f A outer s H E hr => (pe_call (ok_done T) (hr.mono (by decide)) (by rfl) T.done.m T.done.f.kp T.done.b .nil pN (pa_cons (pv 1) (pa_cons ((show PE _ _ (tLit K (.tuple [.int 1, .int 2])) from pe_lit (by repeat (first | (refine Lits.cons ?_ ?_ (Nat.le_of_lt_succ ?_)) | decide | constructor)))) (pa_cons ((pe_tup (pa_cons (pv 2) (pa_cons (pe_int) (pa_cons (pe_ifExp (pt_cmpR (op_isN) ((pe_ix ((show IxR _ (rIxT K) from ix_tup)) (pv 0) (pe_int) (fun _ _ => rfl))) (pe_non) (nomark _)) pe_int pe_non) (pa_cons (pe_int) pa_nil)))))) pa_nil)))), fun ok => Caps.made ok (lamS_by (sc := defScope s__law_refused) (by decide +kernel)).free (by decide +kernel) rfl⟩) (by repeat (first | (refine Lits.cons ?_ ?_ (Nat.le_of_lt_succ ?_)) | decide | constructor)) ?r12)
        (pa_deed T (pe_deed (N := ["good", "kinds", "name"]) (fr := ["good", "kinds", "name"]) (js := [3, 0, 4]) T rfl TB rfl (List.mem_cons.mpr (.inr (List.mem_cons.mpr (.inl rfl)))) (hu2 h12 h23) (lamS_by (sc := defScope s__law_refused) (by decide +kernel)) rfl (fun c' => ⟨nscope_by (by dsimp only; decide +kernel), fun _ _ => rfl, fun f A outer s H E hr => (pe_call (ok_done T) (hr.mono (by decide)) (by rfl) T.done.m T.done.f.kp T.done.b .nil pN (pa_cons (pv 1) (pa_cons ((show PE _ _ (tLit K (.tuple [.int 1, .int 2])) from pe_lit (by repeat (first | (refine Lits.cons ?_ ?_ (Nat.le_of_lt_succ ?_)) | decide | constructor)))) (pa_cons ((pe_tup (pa_cons (pv 2) (pa_cons (pe_bl) (pa_cons ((pe_ix ((show IxR _ (rIxT K) from ix_tup)) (pv 0) (pe_int) (fun _ _ => rfl))) (pa_cons (pe_int) pa_nil)))))) pa_nil)))), fun ok => Caps.made ok (lamS_by (sc := defScope s__law_refused) (by decide +kernel)).free (by decide +kernel) rfl⟩) (by repeat (first | (refine Lits.cons ?_ ?_ (Nat.le_of_lt_succ ?_)) | decide | constructor)) ?r13)
        (pa_deed T (pe_deed (N := ["good", "kinds", "name"]) (fr := ["good", "kinds", "name"]) (js := [3, 0, 4]) T rfl TB rfl (List.mem_cons.mpr (.inr (List.mem_cons.mpr (.inl rfl)))) (hu2 h12 h23) (lamS_by (sc := defScope s__law_refused) (by decide +kernel)) rfl (fun c' => ⟨nscope_by (by dsimp only; decide +kernel), fun _ _ => rfl, fun f A outer s H E hr => (pe_call (ok_done T) (hr.mono (by decide)) (by rfl) T.done.m T.done.f.kp T.done.b .nil pN (pa_cons (pv 1) (pa_cons ((show PE _ _ (tLit K (.tuple [.int 1, .int 2])) from pe_lit (by repeat (first | (refine Lits.cons ?_ ?_ (Nat.le_of_lt_succ ?_)) | decide | constructor)))) (pa_cons ((pe_tup (pa_cons (pv 2) (pa_cons (pe_int) (pa_cons ((pe_ix ((show IxR _ (rIxT K) from ix_tup)) (pv 0) (pe_int) (fun _ _ => rfl))) (pa_cons (pe_un un_neg pe_int) pa_nil)))))) pa_nil)))), fun ok => Caps.made ok (lamS_by (sc := defScope s__law_refused) (by decide +kernel)).free (by decide +kernel) rfl⟩) (by repeat (first | (refine Lits.cons ?_ ?_ (Nat.le_of_lt_succ ?_)) | decide | constructor)) ?r14)
        (pa_deed T (pe_deed (N := ["good", "kinds"]) (fr := ["good", "kinds"]) (js := [3, 0]) T rfl TB rfl (List.mem_cons.mpr (.inr (List.mem_cons.mpr (.inl rfl)))) (hu2 h12 h23) (lamS_by (sc := defScope s__law_refused) (by decide +kernel)) rfl (fun c' => ⟨nscope_by (by dsimp only; decide +kernel), fun _ _ => rfl, fun f A outer s H E hr => (pe_call (ok_done_all T) (hr.mono (by decide)) (by rfl) T.done_all.m T.done_all.f.kp T.done_all.b .nil pN (pa_cons (pv 1) (pa_cons ((show PE _ _ (tLit K (.tuple [.int 1, .int 2])) from pe_lit (by repeat (first | (refine Lits.cons ?_ ?_ (Nat.le_of_lt_succ ?_)) | decide | constructor)))) (pa_cons ((pe_lst (pa_cons (pe_non) (pa_cons (pv 0) (pa_cons (pe_int) pa_nil))))) pa_nil)))), fun ok => Caps.made ok (lamS_by (sc := defScope s__law_refused) (by decide +kernel)).free (by decide +kernel) rfl⟩) (by repeat (first | (refine Lits.cons ?_ ?_ (Nat.le_of_lt_succ ?_)) | decide | constructor)) ?r15)
        (pa_deed T (pe_deed (N := ["good", "kinds", "name"]) (fr := ["good", "kinds", "name"]) (js := [3, 0, 4]) T rfl TB rfl (List.mem_cons.mpr (.inr (List.mem_cons.mpr (.inl rfl)))) (hu2 h12 h23) (lamS_by (sc := defScope s__law_refused) (by decide +kernel)) rfl (fun c' => ⟨nscope_by (by dsimp only; decide +kernel), fun _ _ => rfl, fun f A outer s H E hr => (pe_call (ok_done_all T) (hr.mono (by decide)) (by rfl) T.done_all.m T.done_all.f.kp T.done_all.b .nil pN (pa_cons (pv 1) (pa_cons ((show PE _ _ (tLit K (.tuple [.int 1, .int 2])) from pe_lit (by repeat (first | (refine Lits.cons ?_ ?_ (Nat.le_of_lt_succ ?_)) | decide | constructor)))) (pa_cons ((pe_tup (pa_cons (pe_non) (pa_cons ((pe_tup (pa_cons (pv 2) (pa_cons (pe_un un_neg pe_int) (pa_cons ((pe_ix ((show IxR _ (rIxT K) from ix_tup)) (pv 0) (pe_int) (fun _ _ => rfl))) (pa_cons (pe_int) pa_nil)))))) pa_nil)))) pa_nil)))), fun ok => Caps.made ok (lamS_by (sc := defScope s__law_refused) (by decide +kernel)).free (by decide +kernel) rfl⟩) (by repeat (first | (refine Lits.cons ?_ ?_ (Nat.le_of_lt_succ ?_)) | decide | constructor)) ?r16)
        (pa_deed T (pe_deed (N := ["good", "kinds", "name"]) (fr := ["good", "kinds", "name"]) (js := [3, 0, 4]) T rfl TB rfl (List.mem_cons.mpr (.inr (List.mem_cons.mpr (.inl rfl)))) (hu2 h12 h23) (lamS_by (sc := defScope s__law_refused) (by decide +kernel)) rfl (fun c' => ⟨nscope_by (by dsimp only; decide +kernel), fun _ _ => rfl, fun f A outer s H E hr => (pe_call (ok_done T) (hr.mono (by decide)) (by rfl) T.done.m T.done.f.kp T.done.b .nil pN (pa_cons (pv 1) (pa_cons ((show PE _ _ (tLit K (.tuple [.int 1, .int 2])) from pe_lit (by repeat (first | (refine Lits.cons ?_ ?_ (Nat.le_of_lt_succ ?_)) | decide | constructor)))) (pa_cons ((pe_tup (pa_cons (pv 2) (pa_cons (pe_int) (pa_cons ((pe_ix ((show IxR _ (rIxT K) from ix_tup)) (pv 0) (pe_int) (fun _ _ => rfl))) (pa_cons (pe_int) pa_nil)))))) pa_nil)))), fun ok => Caps.made ok (lamS_by (sc := defScope s__law_refused) (by decide +kernel)).free (by decide +kernel) rfl⟩) (by repeat (first | (refine Lits.cons ?_ ?_ (Nat.le_of_lt_succ ?_)) | decide | constructor)) ?r17)
        (pa_deed T (pe_deed (N := ["kinds"]) (fr := ["kinds"]) (js := [0]) T rfl TB rfl (List.mem_cons.mpr (.inr (List.mem_cons.mpr (.inl rfl)))) (hu2 h12 h23) (lamS_by (sc := defScope s__law_refused) (by decide +kernel)) rfl (fun c' => ⟨nscope_by (by dsimp only; decide +kernel), fun _ _ => rfl, fun f A outer s H E hr => (pe_ownIx (ok_Kinds_getitem T) (hr.mono (by decide)) T.Kinds_getitem.b pN T.Kinds_getitem.i T.Kinds_getitem.g T.kf.fn (pv 0) (pe_str) (fun _ _ => rfl)), fun ok => Caps.made ok (lamS_by (sc := defScope s__law_refused) (by decide +kernel)).free (by decide +kernel) rfl⟩) (by repeat (first | (refine Lits.cons ?_ ?_ (Nat.le_of_lt_succ ?_)) | decide | constructor)) ?r18)
        (pa_deed T (pe_deed (N := ["kinds"]) (fr := ["kinds"]) (js := [0]) T rfl TB rfl (List.mem_cons.mpr (.inr (List.mem_cons.mpr (.inl rfl)))) (hu2 h12 h23) (lamS_by (sc := defScope s__law_refused) (by decide +kernel)) rfl (fun c' => ⟨nscope_by (by dsimp only; decide +kernel), fun _ _ => rfl, fun f A outer s H E hr => pe_meth (pv 0) T.kf.cls ⟨T.Kinds_growth.i, T.Kinds_growth.g, T.Kinds_growth.f.kp⟩ (ok_Kinds_growth T) (hr.mono (by decide)) T.Kinds_growth.b .nil pN (pa_cons pe_str pa_nil), fun ok => Caps.made ok (lamS_by (sc := defScope s__law_refused) (by decide +kernel)).free (by decide +kernel) rfl⟩) (by repeat (first | (refine Lits.cons ?_ ?_ (Nat.le_of_lt_succ ?_)) | decide | constructor)) ?r19)
        (pa_deed T (pe_deed (N := ["kinds"]) (fr := ["kinds"]) (js := [0]) T rfl TB rfl (List.mem_cons.mpr (.inr (List.mem_cons.mpr (.inl rfl)))) (hu2 h12 h23) (lamS_by (sc := defScope s__law_refused) (by decide +kernel)) rfl (fun c' => ⟨nscope_by (by dsimp only; decide +kernel), fun _ _ => rfl, fun f A outer s H E hr => (pe_ownIx (ok_Kinds_getitem T) (hr.mono (by decide)) T.Kinds_getitem.b pN T.Kinds_getitem.i T.Kinds_getitem.g T.kf.fn (pv 0) (pe_int) (fun _ _ => rfl)), fun ok => Caps.made ok (lamS_by (sc := defScope s__law_refused) (by decide +kernel)).free (by decide +kernel) rfl⟩) (by repeat (first | (refine Lits.cons ?_ ?_ (Nat.le_of_lt_succ ?_)) | decide | constructor)) ?r20)
        (pa_deed0 T)))))))))))))))))))))))) (pss_one ((ps_ret ((pe_callB (cr_all rfl) (by rfl) T.bf.all_ (by decide +kernel) (pa_cons (pe_lcE (own := [("deed", 5), ("due", 6)]) (te := fun σ => tOp (rEqD K) (tToldB (cxOf (L2.CX P w) P w K mg base n__law_refused "_law_refused" (defScope s__law_refused) L.T._law_refused.a (.ref L.rf.c) A outer s H E) 18 (toldTT T) (tVar 5) σ) (tVar 6)) rfl sc__law_refused.nd (pi_list (pv 2)) (blkOk_by (N := n__law_refused) (sc := defScope s__law_refused) (by decide +kernel))
        (fun _ _ _ _ _ => (show PG _ _ (gTup K 2 (gCons (gName 5) (gCons (gName 6) gNil))) from pg_tup rfl (pgs_cons (pg_name (i := 5) sc__law_refused.nd rfl (Or.inl rfl)) (pgs_cons (pg_name (i := 6) sc__law_refused.nd rfl (Or.inl rfl)) pgs_nil))))
        (fun σ s' H' C cl fp en => pe_cmpR (show OpR _ _ (rEqD K) from op_eqD hr.units) (pe_toldB en (teller T) (hr.mono (by decide)) (by rfl) T._law_told.m T._law_told.f.kp (pv 5)) (pv 6) (by rfl))) pa_nil))))))))), ?_⟩
    case r1 =>
      intro p a g M L e wd ps H rf Q q E' hE'
      exact ⟨.non, .int 3, .int 4, rfl, fun l H2 s2 hl => ⟨.non, .int 3, .ref l, rfl, .inl ⟨.inr rfl, r_kinds T hE' (fun tv H' s => q tv H' ((s2).trans s)) (fun _ => .non)⟩⟩⟩
    case r2 =>
      intro p a g M L e wd ps H rf Q q E' hE'
      refine ⟨_, rfl, fun v1 H1 s1 hv1 v2 H2 s2 hv2 => ⟨.ref a, v1, v2, rfl, .inl ⟨.inl ⟨a, _, rfl, (rf.same (s1.trans s2)).t.at_⟩, r_kinds T hE' (fun tv H' s => q tv H' ((s1.trans s2).trans s)) (fun _ => .non)⟩⟩⟩
    case r3 =>
      intro p a g M L e wd ps H rf Q q E' hE'
      refine ⟨_, rfl, fun v1 H1 s1 hv1 => ⟨.ref p, v1, .int 3, rfl, fun l H2 s2 hl => txtb T (rf.same (s1.trans s2)).k (dp_same s2 hv1) (by decide) (by decide +kernel) (r_text T hE' (fun tv H' s => q tv H' ((s1.trans s2).trans s)))⟩⟩
    case r4 =>
      intro p a g M L e wd ps H rf Q q E' hE'
      refine ⟨_, rfl, fun v1 H1 s1 hv1 => ⟨.ref p, v1, .non, rfl, fun l H2 s2 hl => txtb T (rf.same (s1.trans s2)).k (dp_same s2 hv1) (by decide) (by decide +kernel) (r_text T hE' (fun tv H' s => q tv H' ((s1.trans s2).trans s)))⟩⟩
    case r5 =>
      intro p a g M L e wd ps H rf Q q E' hE'
      refine ⟨_, rfl, fun v1 H1 s1 hv1 => ⟨.ref p, v1, .non, rfl, fun l H2 s2 hl => txtb T (rf.same (s1.trans s2)).k (dp_same s2 hv1) (by decide) (by decide +kernel) (r_text T hE' (fun tv H' s => q tv H' ((s1.trans s2).trans s)))⟩⟩
    case r6 =>
      intro p a g M L e wd ps H rf Q q E' hE'
      refine ⟨_, rfl, fun v1 H1 s1 hv1 => ⟨.ref p, v1, .int 3, rfl, .inr ⟨p, M, rfl, (rf.same s1).k, .inr ⟨[1, 2], text_dp (t := [1, 2]) hv1, txt12, by decide, .inl ⟨.inl ⟨3, rfl⟩, r_change T hE' (fun tv H' s => q tv H' ((s1).trans s)) (fun _ => .non)⟩⟩⟩⟩⟩
    case r7 =>
      intro p a g M L e wd ps H rf Q q E' hE'
      refine ⟨_, rfl, fun v1 H1 s1 hv1 => ?_⟩
      intro dd hdd
      have s2 : Same H1 (upd H1 dd (.dK [])) := same_upd (Same.refl _) hdd
      exact ⟨.ref p, v1, .ref dd, rfl, .inr ⟨p, M, rfl, (rf.same (s1.trans s2)).k, .inr ⟨[1, 2], text_dp (t := [1, 2]) (dp_same s2 hv1), txt12, by decide, .inl ⟨.inr ⟨dd, [], rfl, upd_same⟩, r_change T hE' (fun tv H' s => q tv H' ((s1.trans s2).trans s)) (fun _ => .non)⟩⟩⟩⟩
    case r8 =>
      intro p a g M L e wd ps H rf Q q E' hE'
      refine ⟨_, rfl, fun v1 H1 s1 hv1 => ⟨.ref p, v1, .int 3, rfl, fun l H2 s2 hl => chg1 T (rf.same (s1.trans s2)).k (dp_same s2 hv1) hl (.int 3) rfl (r_change T hE' (fun tv H' s => q tv H' ((s1.trans s2).trans s)) (fun _ => .int _))⟩⟩
    case r9 =>
      intro p a g M L e wd ps H rf Q q E' hE'
      refine ⟨_, rfl, fun v1 H1 s1 hv1 => ?_⟩
      obtain ⟨gv, hg, hgv⟩ := (rf.same s1).good
      refine ⟨_, rfl, _, rfl, g, _, 2, gv, rfl, rfl, hg, rfl, by show 3 ≤ sizeLine; decide, fun t ht => ?_⟩
      have st : Same H1 (upd H1 t (.tup [.str e.1, .int 0, gv])) := same_upd (Same.refl _) ht
      exact ⟨.ref p, v1, .ref t, rfl, fun l H2 s2 hl => chg1 T (rf.same (s1.trans (st.trans s2))).k (dp_same (st.trans s2) hv1) hl (.tup (SqT.of (s2 _ _ upd_same)) (.cons (.str _) (.cons (.int _) (.cons (dp_same (st.trans s2) hgv) .nil)))) (rfl) (r_change T hE' (fun tv H' s => q tv H' ((s1.trans (st.trans s2)).trans s)) (fun _ => .int _))⟩
    case r10 =>
      intro p a g M L e wd ps H rf Q q E' hE'
      refine ⟨_, rfl, fun v1 H1 s1 hv1 => ?_⟩
      obtain ⟨gv, hg, hgv⟩ := (rf.same s1).good
      refine ⟨_, rfl, g, _, rfl, .inr hg, fun t ht => ?_⟩
      have st : Same H1 (upd H1 t (.lst [.str e.1, .int 0, gv, .int 0])) := same_upd (Same.refl _) ht
      exact ⟨.ref p, v1, .ref t, rfl, fun l H2 s2 hl => chg1 T (rf.same (s1.trans (st.trans s2))).k (dp_same (st.trans s2) hv1) hl (.lst (SqL.of (s2 _ _ upd_same)) (.cons (.str _) (.cons (.int _) (.cons (dp_same (st.trans s2) hgv) (.cons (.int _) .nil))))) rfl (r_change T hE' (fun tv H' s => q tv H' ((s1.trans (st.trans s2)).trans s)) (fun _ => .int _))⟩
    case r11 =>
      intro p a g M L e wd ps H rf Q q E' hE'
      refine ⟨_, rfl, fun v1 H1 s1 hv1 => ?_⟩
      obtain ⟨gv, hg, hgv⟩ := (rf.same s1).good
      refine ⟨_, rfl, g, _, 2, gv, rfl, rfl, hg, rfl, by show 4 ≤ sizeLine; decide, fun t ht => ?_⟩
      have st : Same H1 (upd H1 t (.tup [.str "zz", .int 0, gv, .int 0])) := same_upd (Same.refl _) ht
      exact ⟨.ref p, v1, .ref t, rfl, fun l H2 s2 hl => chg1 T (rf.same (s1.trans (st.trans s2))).k (dp_same (st.trans s2) hv1) hl (.tup (SqT.of (s2 _ _ upd_same)) (.cons (.str _) (.cons (.int _) (.cons (dp_same (st.trans s2) hgv) (.cons (.int _) .nil))))) (okC_zz rf.zz) (r_change T hE' (fun tv H' s => q tv H' ((s1.trans (st.trans s2)).trans s)) (fun _ => .int _))⟩
    case r12 =>
      intro p a g M L e wd ps H rf Q q E' hE'
      refine ⟨_, rfl, fun v1 H1 s1 hv1 => ?_⟩
      obtain ⟨gv, hg, hgv⟩ := (rf.same s1).good
      refine ⟨_, rfl, _, rfl, g, _, 2, gv, rfl, rfl, hg, rfl, rfl, _, rfl, ?_⟩
      rw [none_eq hgv]
      have hbad := rf.swapped
      cases hn : noneD (glD ps) with
      | true =>
        rw [hn] at hbad
        refine iteT ⟨by show 4 ≤ sizeLine; decide, fun t ht => ?_⟩
        have st : Same H1 (upd H1 t (.tup [.str e.1, .int 0, .int 7, .int 0])) := same_upd (Same.refl _) ht
        exact ⟨.ref p, v1, .ref t, rfl, fun l H2 s2 hl => chg1 T (rf.same (s1.trans (st.trans s2))).k (dp_same (st.trans s2) hv1) hl (.tup (SqT.of (s2 _ _ upd_same)) (.cons (.str _) (.cons (.int _) (.cons (.int _) (.cons (.int _) .nil))))) hbad (r_change T hE' (fun tv H' s => q tv H' ((s1.trans (st.trans s2)).trans s)) (fun _ => .int _))⟩
      | false =>
        rw [hn] at hbad
        refine iteF ⟨by show 4 ≤ sizeLine; decide, fun t ht => ?_⟩
        have st : Same H1 (upd H1 t (.tup [.str e.1, .int 0, .non, .int 0])) := same_upd (Same.refl _) ht
        exact ⟨.ref p, v1, .ref t, rfl, fun l H2 s2 hl => chg1 T (rf.same (s1.trans (st.trans s2))).k (dp_same (st.trans s2) hv1) hl (.tup (SqT.of (s2 _ _ upd_same)) (.cons (.str _) (.cons (.int _) (.cons .non (.cons (.int _) .nil))))) hbad (r_change T hE' (fun tv H' s => q tv H' ((s1.trans (st.trans s2)).trans s)) (fun _ => .int _))⟩
    case r13 =>
      intro p a g M L e wd ps H rf Q q E' hE'
      refine ⟨_, rfl, fun v1 H1 s1 hv1 => ?_⟩
      obtain ⟨gv, hg, hgv⟩ := (rf.same s1).good
      refine ⟨_, rfl, _, rfl, g, _, 2, gv, rfl, rfl, hg, rfl, by show 4 ≤ sizeLine; decide, fun t ht => ?_⟩
      have st : Same H1 (upd H1 t (.tup [.str e.1, .bl true, gv, .int 0])) := same_upd (Same.refl _) ht
      exact ⟨.ref p, v1, .ref t, rfl, fun l H2 s2 hl => chg1 T (rf.same (s1.trans (st.trans s2))).k (dp_same (st.trans s2) hv1) hl (.tup (SqT.of (s2 _ _ upd_same)) (.cons (.str _) (.cons (.bl _) (.cons (dp_same (st.trans s2) hgv) (.cons (.int _) .nil))))) (okC_bl) (r_change T hE' (fun tv H' s => q tv H' ((s1.trans (st.trans s2)).trans s)) (fun _ => .int _))⟩
    case r14 =>
      intro p a g M L e wd ps H rf Q q E' hE'
      refine ⟨_, rfl, fun v1 H1 s1 hv1 => ?_⟩
      obtain ⟨gv, hg, hgv⟩ := (rf.same s1).good
      refine ⟨_, rfl, _, rfl, g, _, 2, gv, rfl, rfl, hg, rfl, _, rfl, by show 4 ≤ sizeLine; decide, fun t ht => ?_⟩
      have st : Same H1 (upd H1 t (.tup [.str e.1, .int 0, gv, .int (-1)])) := same_upd (Same.refl _) ht
      exact ⟨.ref p, v1, .ref t, rfl, fun l H2 s2 hl => chg1 T (rf.same (s1.trans (st.trans s2))).k (dp_same (st.trans s2) hv1) hl (.tup (SqT.of (s2 _ _ upd_same)) (.cons (.str _) (.cons (.int _) (.cons (dp_same (st.trans s2) hgv) (.cons (.int _) .nil))))) (rf.okC 0 (-1)) (r_change T hE' (fun tv H' s => q tv H' ((s1.trans (st.trans s2)).trans s)) (fun _ => .int _))⟩
    case r15 =>
      intro p a g M L e wd ps H rf Q q E' hE'
      refine ⟨_, rfl, fun v1 H1 s1 hv1 => ?_⟩
      refine ⟨_, rfl, by show 3 ≤ sizeLine; decide, fun t ht => ?_⟩
      have st : Same H1 (upd H1 t (.lst [.non, .ref g, .int 3])) := same_upd (Same.refl _) ht
      have rf2 := rf.same (s1.trans st)
      exact chgs T (i := 2) rf2.k (dp_same st hv1) ⟨.list [.none, .tuple [.str e.1, .int 0, glD ps, .int 0], .int 3], .lst (SqL.of upd_same) (.cons .non (.cons rf2.g (.cons (.int 3) .nil))), .inl rfl⟩ (by show 3 ≤ 6; omega) (by rw [badC_ok rfl, badC_ok (rf.okC 0 0), badC_no rfl]) (r_change T hE' (fun tv H' s => q tv H' ((s1.trans st).trans s)) (fun _ => .int _))
    case r16 =>
      intro p a g M L e wd ps H rf Q q E' hE'
      refine ⟨_, rfl, fun v1 H1 s1 hv1 => ?_⟩
      obtain ⟨gv, hg, hgv⟩ := (rf.same s1).good
      refine ⟨_, rfl, _, rfl, _, rfl, g, _, 2, gv, rfl, rfl, hg, rfl, by show 4 ≤ sizeLine; decide, fun t ht => ⟨by show 2 ≤ sizeLine; decide, fun u hu => ?_⟩⟩
      have st : Same H1 (upd H1 t (.tup [.str e.1, .int (-1), gv, .int 0])) := same_upd (Same.refl _) ht
      have htt : (upd H1 t (.tup [.str e.1, .int (-1), gv, .int 0])) t = some (.tup [.str e.1, .int (-1), gv, .int 0]) := upd_same
      generalize upd H1 t (.tup [.str e.1, .int (-1), gv, .int 0]) = H2 at st htt hu ⊢
      have su : Same H2 (upd H2 u (.tup [.non, .ref t])) := same_upd (Same.refl _) hu
      have rf2 := rf.same (s1.trans (st.trans su))
      exact chgn T (i := 1) rf2.k (dp_same (st.trans su) hv1) ⟨.tuple [.none, .tuple [.str e.1, .int (-1), glD ps, .int 0]], .tup (SqT.of upd_same) (.cons .non (.cons (.tup (SqT.of (su _ _ htt)) (.cons (.str _) (.cons (.int _) (.cons (dp_same (st.trans su) hgv) (.cons (.int _) .nil))))) .nil)), .inr rfl⟩ (by show 2 ≤ 6; omega) (by rw [badC_ok rfl, badC_ok (rf.okC (-1) 0)]; rfl) (by rw [runD_some rfl, runD_none rf.low]) (r_cannot T hE' (fun tv H' s => q tv H' ((s1.trans (st.trans su)).trans s)) (fun _ => .int _))
    case r17 =>
      intro p a g M L e wd ps H rf Q q E' hE'
      refine ⟨_, rfl, fun v1 H1 s1 hv1 => ?_⟩
      obtain ⟨gv, hg, hgv⟩ := (rf.same s1).good
      refine ⟨_, rfl, _, rfl, g, _, 2, gv, rfl, rfl, hg, rfl, by show 4 ≤ sizeLine; decide, fun t ht => ?_⟩
      have st : Same H1 (upd H1 t (.tup [.str e.1, .int 9, gv, .int 0])) := same_upd (Same.refl _) ht
      exact ⟨.ref p, v1, .ref t, rfl, fun l H2 s2 hl => chgn T (i := 0) (rf.same (s1.trans (st.trans s2))).k (dp_same (st.trans s2) hv1) ⟨.list [.tuple [.str e.1, .int 9, glD ps, .int 0]], .lst (SqL.of hl) (.cons (.tup (SqT.of (s2 _ _ upd_same)) (.cons (.str _) (.cons (.int _) (.cons (dp_same (st.trans s2) hgv) (.cons (.int _) .nil))))) .nil), .inl rfl⟩ (by show 1 ≤ 6; omega) (by rw [badC_ok (rf.okC 9 0)]; rfl) (by rw [runD_none rf.far]) (r_cannot T hE' (fun tv H' s => q tv H' ((s1.trans (st.trans s2)).trans s)) (fun _ => .int _))⟩
    case r18 =>
      intro p a g M L e wd ps H rf Q q E' hE'
      obtain ⟨dx, D, hp, hD, hgd⟩ := id rf.k
      exact ⟨_, rfl, p, dx, _, rfl, hp, p, .str "zz", .str "zz", M, rfl, rf.k, .str _, fun x ex => (by rw [findE_none rf.zz] at ex; cases ex), fun _ => r_kinds T hE' q (fun _ => .str _)⟩
    case r19 =>
      intro p a g M L e wd ps H rf Q q E' hE'
      obtain ⟨dx, D, hp, hD, hgd⟩ := id rf.k
      exact ⟨_, rfl, p, dx, _, rfl, hp, rfl, p, .str "zz", .str "zz", M, rfl, rf.k, .str _, fun x hx ex => absurd (PyData.str.inj ex).symm (rf.zz x hx), fun _ => r_kinds T hE' q (fun _ => .str _)⟩
    case r20 =>
      intro p a g M L e wd ps H rf Q q E' hE'
      obtain ⟨dx, D, hp, hD, hgd⟩ := id rf.k
      exact ⟨_, rfl, p, dx, _, rfl, hp, p, .int 3, .int 3, M, rfl, rf.k, .int _, fun x ex => (by cases ex), fun _ => r_kinds T hE' q (fun _ => .int _)⟩
    have hkM : ∀ x ∈ M, x ∈ Lt := fun x hx => hMp.mem_iff.mp hx
    have hfew := hL.ok.few
    refine ⟨_, rfl, a, kvsT Lt, rfl, .inl hL.at_, fun l1 hl1 => ?_⟩
    have en : (kvsT Lt).map (fun kv => kV kv.1) = (Lt.map (·.1)).map V.str := by rw [kvs_keys, List.map_map]; rfl
    rw [en]
    have s1 : Same H (upd H l1 (.lst ((Lt.map (·.1)).map V.str))) := same_upd (Same.refl _) hl1
    have hl1' : (upd H l1 (.lst ((Lt.map (·.1)).map V.str))) l1 = some (.lst ((Lt.map (·.1)).map V.str)) := upd_same
    generalize upd H l1 (.lst ((Lt.map (·.1)).map V.str)) = H1 at s1 hl1' ⊢
    refine ⟨l1, Lt.map (·.1), rfl, SqL.of hl1', by rw [List.length_map]; omega, fun ys nm pm so hnm => ?_⟩
    obtain ⟨N, hNp, rfl⟩ := perm_back (·.1) pm Lt rfl
    have s2 : Same H1 (upd H1 nm (.lst ((N.map (·.1)).map V.str))) := same_upd (Same.refl _) hnm
    have hnm' : (upd H1 nm (.lst ((N.map (·.1)).map V.str))) nm = some (.lst ((N.map (·.1)).map V.str)) := upd_same
    generalize upd H1 nm (.lst ((N.map (·.1)).map V.str)) = H2 at s2 hnm' ⊢
    have s02 := s1.trans s2
    have hN0 : 0 < N.length := by rw [hNp.length_eq]; exact hpos
    obtain ⟨e, he⟩ : ∃ e, N[0]? = some e := ⟨_, List.getElem?_eq_getElem hN0⟩
    have eN : e ∈ N := List.mem_of_getElem? he
    have eL : e ∈ Lt := hNp.mem_iff.mp eN
    have eM : e ∈ M := hMp.mem_iff.mpr eL
    have hat : ((N.map (·.1)).map V.str)[0]? = some (.str e.1) := by rw [List.getElem?_map, List.getElem?_map, he]; rfl
    refine ⟨nm, _, 0, _, rfl, rfl, SqL.of hnm', atI_nat hat, ?_⟩
    obtain ⟨wd, ps, ed, w0, w2, hrow⟩ := kind_form (allK_kind _ (hGL.kd e eL))
    refine ⟨_, rfl, _, rfl, a, Lt, e, wd, ps, 0, 0, 100, rfl, hL.same s02, eL, ed, row_parts hrow, fun g H3 s3 hg => ?_⟩
    obtain ⟨ga, gxs, rfl, _, _⟩ := tup_val hg
    have s03 := s02.trans s3
    have hzz : ∀ x ∈ M, x.1 ≠ "zz" := fun x hx z => by
      have := hGL.nm x (hkM x hx)
      rw [z] at this
      exact absurd this (by decide +kernel)
    refine ⟨p, a, ga, M, Lt, e, wd, ps, rfl, tabs_same s03 hT, ⟨hk.same s03, hL.same s03, eM, ed, hg, hzz⟩, fun vs H4 s4 hds => ?_⟩
    have hlen : vs.length = 20 := hds.length
    refine ⟨by rw [hlen]; exact small (by decide), fun dl hdl => ?_⟩
    have s5 : Same H4 (upd H4 dl (.lst vs)) := same_upd (Same.refl _) hdl
    have hdl' : (upd H4 dl (.lst vs)) dl = some (.lst vs) := upd_same
    generalize upd H4 dl (.lst vs) = H5 at s5 hdl' ⊢
    have s05 : Ss (tabsT P1 P2 P3) H H5 := ((ss_of s03).trans s4).trans (ss_of s5)
    refine ⟨_, rfl, dl, rfl, ⟨_, SqL.of hdl'⟩, fun D hD => ?_⟩
    refine lcE_it (walk_list (xs := vs)) (fun j H6 => Ss (tabsT P1 P2 P3) H5 H6 ∧ H6 D = some (.lst (List.replicate j (.bl true)))) ⟨ss_of (same_upd (Same.refl _) hD), upd_same⟩ (fun j H6 _ p6 => sqL_n p6.1.n (SqL.of hdl')) ?turn ?done
    case turn =>
      rintro j x H6 H6' hj ⟨s6, hD6⟩ ⟨rfl, hx⟩
      obtain ⟨due, hdue, hdeed⟩ := pget hds hx
      have hd6 := hdeed.n ((ss_of s5).trans s6 : Ss (tabsT P1 P2 P3) H4 H6').n
      obtain ⟨t, f, dv, rfl, ht, hdv, hok⟩ := hd6
      have hok := hok.slot (σ' := (stR p a ga e none none).set 2 (some (.ref dl))) (fun j hj => by
        rcases j with _ | _ | _ | _ | _ | _ | _ | j <;> first | rfl | exact absurd rfl hj)
      obtain ⟨fa, F, N', fr, js, tb, rfl, h2, h3, h4, h5, h6⟩ := hok
      refine ⟨t, _, rfl, ht, rfl, _, _, rfl, _, _, rfl, rfl, rfl, ?_⟩
      refine ⟨_, rfl, fa, F, N', fr, js, tb, rfl, h4, h6 H6' (ExtN.refl _) _ fun tv H7 s7 htv => ?_⟩
      obtain ⟨dsh, deq⟩ := dues_ok due (List.mem_of_getElem? hdue)
      refine ⟨_, rfl, due, due, htv, dp_same s7 hdv, dsh, dsh, ?_⟩
      rw [deq]
      have hD7 := s7 _ _ hD6
      refine ⟨_, hD7, by rw [List.length_replicate]; exact small1000 (by omega), ss_updL (s6.trans (ss_of s7)) hD hD7, ?_⟩
      rw [upd_same, ← List.replicate_succ']
    case done =>
      rintro H6 ⟨s6, hD6⟩
      refine ⟨D, List.replicate vs.length true, rfl, SqL.of (by rw [hD6, List.map_replicate]), ?_⟩
      have : (List.replicate vs.length true).all id = true := by rw [hlen]; rfl
      rw [this]
      exact q H6 (s05.trans s6)
end
end K41

end

section
set_option Elab.async false
set_option linter.all false
set_option maxRecDepth 100000
set_option maxHeartbeats 8000000
/-! The law. -/
namespace K41
open PySem PySem.Spec PyProof.Rows L2 KX LamX NdefX
section
variable {P : Program} {w : World} {K : PySem.W.Frag} {mg : Str → Option Value} {base : Heap} {P1 P2 P3 : Addr}
theorem pOg {CX : CXT} {N : List Str} {qual : Str} {scope : Scope} {f : Addr} {cd : Value} {A : Around} {outer : List Env} {s : Shared} {H : Hp} {E : XK} : PassesOwn (model P w) (cxOf CX P w K mg base N qual scope f cd A outer s H E).A (cxOf CX P w K mg base N qual scope f cd A outer s H E).env (cxOf CX P w K mg base N qual scope f cd A outer s H E).xe := passes_of rfl
theorem hu3 (h13 : P1 ≠ P3) (h23 : P2 ≠ P3) : ∀ p ∈ tabsT P1 P2 P3, p.1 = P3 → p.2 = "law.<locals>.<lambda>" := by
  intro p hp e
  simp only [tabsT, List.mem_cons, List.not_mem_nil, or_false] at hp
  rcases hp with rfl | rfl | rfl
  · exact absurd e h13
  · exact absurd e h23
  · rfl
theorem eqv_one {d : PyData} (h : SeqAt.shaped d = true) : PyData.eqv d d = true := SeqAt.eqv_refl d (SeqAt.canLay_of_shaped h)
theorem good_none {L M : List Ent} (g : GoodL L) (p : M.Perm L) : firstBad [] M = none := by
  have kd : ∀ e ∈ M, e.2.2 ∈ allK := fun e he => g.kd e (p.mem_iff.mp he)
  have df : M.Pairwise fun a b => a.2.2 ∈ allK → b.2.2 ∈ allK → PyData.eqv a.2.2 b.2.2 = false := by
    refine (List.Perm.pairwise_iff ?_ p).mpr (g.df.imp fun h _ _ => h)
    intro x y h hx hy
    rw [allK_sym _ hx _ hy]
    exact h hy hx
  have main : ∀ (seen : List PyData) (N : List Ent), (∀ e ∈ N, e.2.2 ∈ allK) → (∀ z ∈ seen, ∀ e ∈ N, PyData.eqv z e.2.2 = false) → N.Pairwise (fun a b => a.2.2 ∈ allK → b.2.2 ∈ allK → PyData.eqv a.2.2 b.2.2 = false) → firstBad seen N = none := by
    intro seen N
    induction N generalizing seen with
    | nil => intro _ _ _; rfl
    | cons e r ih =>
      intro h1 h2 h3
      have hk := allK_kind _ (h1 e List.mem_cons_self)
      have hs : (seen.any fun z => PyData.eqv z e.2.2) = false := List.any_eq_false.mpr fun z hz => by
        rw [h2 z hz e List.mem_cons_self]
        simp
      rw [bad_next (by rw [hk, hs]; rfl)]
      obtain ⟨p1, p2⟩ := List.pairwise_cons.mp h3
      refine ih _ (fun x hx => h1 x (List.mem_cons_of_mem _ hx)) (fun z hz x hx => ?_) p2
      rcases List.mem_append.mp hz with hz | hz
      · exact h2 z hz x (List.mem_cons_of_mem _ hx)
      · rw [List.mem_singleton.mp hz]
        exact p1 x hx (h1 e List.mem_cons_self) (h1 x (List.mem_cons_of_mem _ hx))
  exact main [] M kd (fun z hz => by simp at hz) df
theorem strs_dp {K : PySem.W.Frag} {H : Hp} : ∀ {M : List Ent}, DpAll K H (M.map fun e => V.str e.1) (M.map fun e => PyData.str e.1)
  | [] => .nil
  | e :: r => .cons (.str _) strs_dp
theorem nm5_shape : ∀ n ∈ nm5, SeqAt.shaped (.list [.str n]) = true := by decide +kernel
theorem very2 {K : PySem.W.Frag} {H : Hp} {N L : List Ent} (hE : Ents K H L) (p : N.Perm L) (g : GoodL L) : ∀ q ∈ kvsT N, valV (kvsT L) q.1 = some q.2 ∧ isRef q.2 = true := fun q hq => by
  obtain ⟨e, he, rfl⟩ := List.mem_map.mp hq
  have hm := p.mem_iff.mp he
  exact ⟨val_of hE.nd hm, kind_ref (hE.dp e hm) (allK_kind _ (g.kd e hm))⟩
def textL (n : Nat) : List Int := (List.range n).map fun k : Nat => 7 * (k : Int) - 9
theorem textL_next (n : Nat) : textL (n + 1) = textL n ++ [7 * (n : Int) - 9] := by
  unfold textL
  rw [List.range_succ, List.map_append]
  rfl
theorem textL_len (n : Nat) : (textL n).length = n := by
  unfold textL
  rw [List.length_map, List.length_range]
theorem text_ok0 : ((List.range 10).all fun n => isTextD (.tuple ((textL n).map PyData.int))) = true := by decide +kernel
theorem text_ok {n : Nat} (h : n < 10) : isTextD (.tuple ((textL n).map PyData.int)) = true := List.all_eq_true.mp text_ok0 n (List.mem_range.mpr h)
theorem runD_snoc {M : List Ent} {d : PyData} : ∀ {ds : List PyData} {i : Nat} {t : List Int}, runD M i t (ds ++ [d]) = match runD M i t ds with
    | .inl k => .inl k
    | .inr t' => match stepD M t' d with
      | some t'' => .inr t''
      | none => .inl (i + ds.length)
  | [], i, t => by
    show runD M i t [d] = match stepD M t d with | some t'' => .inr t'' | none => .inl (i + 0)
    cases e : stepD M t d with
    | some t' => rw [runD_some e]; rfl
    | none => rw [runD_none e]; rfl
  | x :: r, i, t => by
    cases e : stepD M t x with
    | some t' =>
      rw [List.cons_append, runD_some e, runD_some e, runD_snoc, List.length_cons]
      have : i + 1 + r.length = i + (r.length + 1) := by omega
      rw [this]
    | none => rw [List.cons_append, runD_none e, runD_none e]
/-- the changes so far: told in the list at cl, done as far as they can be -/
def LI (K : PySem.W.Frag) (M : List Ent) (t0 : List Int) (cl : Addr) (i : Nat) (H : Hp) (nowV stopV : V) : Prop := ∃ vs ds now, H cl = some (.lst vs) ∧ DpAll K H vs ds ∧ flatAll ds = true ∧ ds.length = i ∧ (∀ d ∈ ds, okC M d = true) ∧ TextAt K H nowV now ∧ now.length ≤ 9 + 100 * i ∧
  ((stopV = .non ∧ runD M 0 t0 ds = .inr now) ∨ ∃ k : Nat, k < i ∧ stopV = .int (k : Nat) ∧ runD M 0 t0 ds = .inl k)
theorem LI.same {K : PySem.W.Frag} {M : List Ent} {t0 : List Int} {cl : Addr} {i : Nat} {H H' : Hp} {nowV stopV : V} (h : LI K M t0 cl i H nowV stopV) (s : Same H H') : LI K M t0 cl i H' nowV stopV := by
  obtain ⟨vs, ds, now, h1, h2, h3, h4, h5, h6, h7, h8⟩ := h
  exact ⟨vs, ds, now, s _ _ h1, dpAll_same s h2, h3, h4, h5, h6.same s, h7, h8⟩
theorem flat_intsD : ∀ t : List Int, flatAll (t.map PyData.int) = true
  | [] => rfl
  | n :: r => by
    show (true && flatAll (r.map PyData.int)) = true
    rw [flat_intsD r]
    rfl
theorem TextAt.updL {K : PySem.W.Frag} {H : Hp} {D : Addr} {vs ws : List V} {v : V} {t : List Int} (h : H D = some (.lst vs)) (ht : TextAt K H v t) : TextAt K (upd H D (.lst ws)) v t :=
  text_dp (dp_at h ht.dp (show flatAll (t.map PyData.int) = true from flat_intsD t))
theorem ok_made {K : PySem.W.Frag} {C : Addr} {H : Hp} {p : Addr} {M : List Ent} {e : Ent} {wd pl l : Int} {ps : List PyData} {h : Nat} (hk : KindsAt K C H p M) (em : e ∈ M) (ed : e.2.2 = .tuple [.int wd, .tuple ps]) :
    okC M (.tuple [.str e.1, .int pl, if hasNewD ps = true then .int l else .none, .int (h : Nat)]) = true := by
  obtain ⟨dx, D, h1, h2, h3⟩ := hk
  have n2 := findE_of h2.ok.nd em
  have n1 : needsD M (.str e.1) = hasNewD ps := by
    show hasNewD (rowD M e.1) = _
    rw [(rowD_of h2.ok.nd em ed).1]
  show (false || ((findE M (.str e.1)).isSome && (true && (true && (decide ((0 : Int) ≤ (h : Nat)) && (if needsD M (.str e.1) = true then isIntD (if hasNewD ps = true then .int l else .none) else noneD (if hasNewD ps = true then .int l else .none))))))) = true
  rw [n1, n2, decide_eq_true (by omega : (0 : Int) ≤ (h : Nat))]
  cases hasNewD ps <;> rfl
theorem made_flat {z : Str} {pl h : Int} {l : PyData} (hl : flatD l = true) : flatD (.tuple [.str z, .int pl, l, .int h]) = true := by
  show (true && (true && (flatD l && (true && true)))) = true
  rw [hl]
  rfl
theorem badC_none {M : List Ent} : ∀ {i : Nat} {ds : List PyData}, (∀ d ∈ ds, okC M d = true) → badC M i ds = none
  | _, [], _ => rfl
  | i, d :: r, h => by
    rw [badC_ok (h d List.mem_cons_self)]
    exact badC_none fun x hx => h x (List.mem_cons_of_mem _ hx)
theorem first_step {M : List Ent} {t : List Int} {d : PyData} {r : List PyData} (h : runD M 0 t (d :: r) ≠ .inl 0) : ∃ t1, stepD M t d = some t1 := by
  cases e : stepD M t d with
  | some t1 => exact ⟨t1, rfl⟩
  | none => exact absurd (runD_none e) h
theorem nm5_ok : ∀ n ∈ nm5, PyData.strOk n = true := by decide +kernel
theorem change_shape {M : List Ent} {d : PyData} (hn : ∀ e ∈ M, e.1 ∈ nm5) (h : okC M d = true) : SeqAt.shaped (.list [d]) = true := by
  unfold okC at h
  cases d with
  | none => decide +kernel
  | tuple ds =>
    have h2 : isChangeD M (.tuple ds) = true := h
    clear h
    unfold isChangeD at h2
    split at h2
    · rename_i n p l hd ep
      cases ep
      rw [Bool.and_eq_true, Bool.and_eq_true, Bool.and_eq_true, Bool.and_eq_true] at h2
      obtain ⟨a1, a2, a3, a4, a5⟩ := h2
      obtain ⟨x, hx⟩ := Option.isSome_iff_exists.mp a1
      obtain ⟨e, em, rfl, rfl⟩ := findE_some hx
      have ok := nm5_ok _ (hn e em)
      have hl : (∃ m, l = .int m) ∨ l = .none := by
        split at a5
        · cases l <;> first | exact .inl ⟨_, rfl⟩ | (simp [isIntD] at a5)
        · cases l <;> first | exact .inr rfl | (simp [noneD] at a5)
      cases p <;> first | (simp [isIntD] at a2; done) | skip
      cases hd <;> first | (simp [isIntD] at a3; done) | skip
      rcases hl with ⟨m, rfl⟩ | rfl <;>
      · unfold SeqAt.shaped
        simp only [PyData.canLay0, PyData.canLayAll0, PyData.depth, PyData.depthAll, ok]
        rfl
    · cases h2
  | _ => simp [noneD, isChangeD] at h
/-- kinds just made -/
theorem made_at {T : Top K mg} {H2 H3 : Hp} {kp kdx D : Addr} {L M : List Ent} (hG : GoodL L) (hE : Ents K H2 L) (hMp : M.Perm L) (hkp : H2 kp = none) (hkdx : H2 kdx = none) (s3 : Same (upd (upd H2 kdx (.own kp)) kp (.ins T.cKinds.c kdx [])) H3) (hDk : H3 D = some (.dK (kvsT M))) :
    Same H2 (upd H3 kp (.ins T.cKinds.c kdx [("told", .ref D)])) ∧ KindsAt K T.cKinds.c (upd H3 kp (.ins T.cKinds.c kdx [("told", .ref D)])) kp M := by
  have s24 : Same H2 (upd H3 kp (.ins T.cKinds.c kdx [("told", .ref D)])) := same_upd ((same_upd (same_upd (Same.refl _) hkdx) hkp).trans s3) hkp
  refine ⟨s24, kdx, D, upd_same, ⟨?_, (hE.perm hMp).same s24⟩, fun e he => allK_kind _ (hG.kd e (hMp.mem_iff.mp he))⟩
  rw [upd_ne (fun z => by rw [z, s3 kp _ upd_same] at hDk; cases hDk)]
  exact hDk
def rLenQ (K : PySem.W.Frag) : List V → Hp → VK → Prop := fun xs H Q => ∃ p ys, xs = [.ref p] ∧ (SqL K H p ys ∨ SqT K H p ys) ∧ Q (.int ys.length) H
def spLaw (K : PySem.W.Frag) (Ts : List (Addr × Str)) : Sp := fun vs H Q _ => ∃ (a : Addr) (ns : List Int), vs = [.ref a] ∧ SqL K H a (ns.map V.int) ∧ ns.length ≤ 63 ∧ Tabs Ts H ∧ ∀ H', Q (.bl true) H'
theorem ok_law (L : TopL K mg P1 P2 P3) (TB : TabB base mg L.lw.c P3) (TB1 : TabB base mg L.kr.c P1) (TB2 : TabB base mg L.rf.c P2) (h12 : P1 ≠ P2) (h13 : P1 ≠ P3) (h23 : P2 ≠ P3) : FnOk P w K mg base CX0 24 L.T.law_.a L.T.law_.d ["script"] (spLaw K (tabsT P1 P2 P3)) := by
  refine L.lw.ok0 sc_law (fun vs H Q E h => ?_) (fun A outer s H vs Q E hr h => ?_)
  · obtain ⟨a, ns, rfl, _⟩ := h
    rfl
  · obtain ⟨a, ns, rfl, hs, hl, hT, q⟩ := h
    let T := L.T
    have okR := ok__law_kinds_right (P := P) (w := w) L TB1 h12 h13
    have okF := ok__law_refused (P := P) (w := w) L TB2 h12 h23
    refine ⟨_, pss_cons (ps_set (i := 1) sc_law.nd rfl (Or.inl rfl) ((pe_lst (pa_cons (pv 0) (pa_cons (pe_int) pa_nil))))) (pss_close (pss_cons ((ps_set (i := 2) sc_law.nd rfl (Or.inr rfl) ((pe_call (ok__law_kinds T) (hr.mono (by decide)) (by rfl) T._law_kinds.m T._law_kinds.f.kp T._law_kinds.b .nil passL (pa_cons (pv 1) (pa_cons (pe_int) pa_nil)))))) (pss_cons (ps_asg (pe_tup (pa_cons ((pe_make T.kf.mkK (ok_Kinds_init T) (hr.mono (by decide)) (by rfl) T.cKinds.m T.Kinds_init.b .nil passL (pa_cons (pv 2) pa_nil))) (pa_cons ((pe_callB (cr_sortedS) (by rfl) T.bf.sorted_ (by decide +kernel) (pa_cons ((pe_callTy (call_listD rfl) (by rfl) T.bf.list_ (by decide +kernel) (pa_cons (pv 2) pa_nil))) pa_nil))) pa_nil))) (pg_tup rfl (pgs_cons (pg_name (i := 13) sc_law.nd rfl (Or.inr rfl)) (pgs_cons (pg_name (i := 3) sc_law.nd rfl (Or.inl rfl)) pgs_nil)))) (pss_cons ((ps_if (PW.pt (pw_or (pt_cmpR (op_neD hr.units) (pe_meth0 (pv 13) T.kf.cls ⟨T.Kinds_names.i, T.Kinds_names.g, T.Kinds_names.f.kp⟩ (ok_Kinds_names T) (hr.mono (by decide)) T.Kinds_names.b .nil passL) (pv 3) (by rfl))
        (pw_or (pt_cmpR (op_ne) ((pe_callB (call_ownLen (ok_Kinds_len T) (hr.mono (by decide)) T.Kinds_len.b passL T.Kinds_len.i T.Kinds_len.g) (by rfl) T.bf.len_ PySem.boot_len (pa_cons (pv 13) pa_nil))) ((pe_callB call_lenD (by rfl) T.bf.len_ PySem.boot_len (pa_cons (pv 2) pa_nil))) (nomark _)) (pw_or (pt_cmpR (op_neVery hr.units0) (pe_fld (pv 13) rfl) (pv 2) (by rfl)) (pw_or (pt_cmpR (op_neD hr.units) ((pe_callTy (call_listD rfl) (by rfl) T.bf.list_ (by decide +kernel) (pa_cons (pe_fld (pv 13) rfl) pa_nil))) (pv 3) (by rfl))
        (pw_or (pt_cmpR ((op_ownIn (ok_Kinds_contains T) (hr.mono (by decide)) T.Kinds_contains.b passL T.Kinds_contains.i T.Kinds_contains.g)) (pe_str) (pv 13) (by rfl)) (pw_or1 (pt_cmpR ((op_ownIn (ok_Kinds_contains T) (hr.mono (by decide)) T.Kinds_contains.b passL T.Kinds_contains.i T.Kinds_contains.g)) (pe_int) (pv 13) (by rfl))))))))) ((pss_one ((ps_ret (pe_bl))))) (pss_nil))) (pss_cons ((ps_if ((pt_val ((pe_callB (cr_any rfl) (by rfl) T.bf.any_ (by decide +kernel) (pa_cons ((pe_lc (own := [("name", 4)]) (g := gName 4) (tt := tYes) rfl sc_law.nd (pi_list (pv 3)) (blkOk_by (N := n_law) (sc := defScope s_law) (by decide +kernel)) (fun _ _ _ _ _ => pg_name (i := 4) sc_law.nd rfl (Or.inl rfl)) (fun _ _ _ _ _ => pts_nil) (fun _ _ _ _ _ => pe_or (pe_cmpR (show OpR _ _ (rNeD K) from op_neD hr.units) (pe_ownIx (ok_Kinds_getitem T) (hr.mono (by decide)) T.Kinds_getitem.b passL T.Kinds_getitem.i T.Kinds_getitem.g T.kf.fn (pv 13) (pv 4) (fun _ _ => rfl)) (pe_dget (hu_of hr) (pv 2) (pv 4) (fun _ _ => rfl)) (by rfl)) (pe_or (pe_cmpR op_ne (pe_meth (pv 13) T.kf.cls ⟨T.Kinds_growth.i, T.Kinds_growth.g, T.Kinds_growth.f.kp⟩ (ok_Kinds_growth T) (hr.mono (by decide)) T.Kinds_growth.b .nil passL (pa_cons (pv 4) pa_nil)) (pe_op (op_sub) ((pe_callB (show CallR _ _ (rLenQ K) from call_len_seq) (by rfl) T.bf.len_ PySem.boot_len (pa_cons (pe_ix ((show IxR _ (rIxT K) from ix_tup)) ((pe_dget (hu_of hr) (pv 2) (pv 4) (fun _ _ => rfl))) (pe_int) (fun _ _ => rfl)) pa_nil))) ((pe_ix ((show IxR _ (rIxT K) from ix_tup)) ((pe_dget (hu_of hr) (pv 2) (pv 4) (fun _ _ => rfl))) (pe_int) (fun _ _ => rfl)))) (nomark _)) (pe_one (pe_cmpR (op_ownNotIn (ok_Kinds_contains T) (hr.mono (by decide)) T.Kinds_contains.b passL T.Kinds_contains.i T.Kinds_contains.g) (pv 4) (pv 13) (by rfl))))))) pa_nil))))) ((pss_one ((ps_ret (pe_bl))))) (pss_nil))) (pss_cons ((ps_set (i := 5) sc_law.nd rfl (Or.inl rfl) ((pe_callTy (call_dictD) (by rfl) T.bf.dict_ (by decide +kernel) (pa_cons (pv 2) pa_nil))))) (pss_cons ((ps_set (i := 6) sc_law.nd rfl (Or.inl rfl) ((pe_make T.kf.mkK (ok_Kinds_init T) (hr.mono (by decide)) (by rfl) T.cKinds.m T.Kinds_init.b .nil passL (pa_cons (pv 5) pa_nil))))) (pss_cons (ps_dput (hu_of hr) (pv 5) pe_str (pe_lit (d := .tuple [.int 1, .tuple []]) (by repeat (first | (refine Lits.cons ?_ ?_ (Nat.le_of_lt_succ ?_)) | decide | constructor))) rfl) (pss_cons ((ps_if (PW.pt (pw_or (pt_cmpR ((op_ownNe (ok_Kinds_eq T) (hr.mono (by decide)) T.Kinds_eq.b passL T.kf.ne T.Kinds_eq.i T.Kinds_eq.g T.kf.mro)) (pv 6) (pv 13) (by rfl)) (pw_or (pt_not (pt_cmpR ((op_ownEq (ok_Kinds_eq T) (hr.mono (by decide)) T.Kinds_eq.b passL T.Kinds_eq.i T.Kinds_eq.g)) (pv 6) (pv 13) (by rfl))) (pw_or (pt_cmpR ((op_ownEq (ok_Kinds_eq T) (hr.mono (by decide)) T.Kinds_eq.b passL T.Kinds_eq.i T.Kinds_eq.g)) (pv 6) (pv 2) (by rfl)) (pw_or1 (pt_cmpR (op_ne) ((pe_callB (call_ownLen (ok_Kinds_len T) (hr.mono (by decide)) T.Kinds_len.b passL T.Kinds_len.i T.Kinds_len.g) (by rfl) T.bf.len_ PySem.boot_len (pa_cons (pv 6) pa_nil))) ((pe_callB call_lenD (by rfl) T.bf.len_ PySem.boot_len (pa_cons (pv 2) pa_nil))) (nomark _))))))) ((pss_one ((ps_ret (pe_bl))))) (pss_nil))) (pss_cons ((ps_set (i := 14) sc_law.nd rfl (Or.inr rfl) ((pe_callTy (call_tuple_of) (by rfl) T.bf.tuple_ (by decide +kernel) (pa_cons ((pe_lc (own := [("at", 15)]) (g := gName 15) (tt := tYes) rfl sc_law.nd (pi_range1 (by rfl) T.bf.range_ (pa_cons (pe_call (ok__law_take T) (hr.mono (by decide)) (by rfl) T._law_take.m T._law_take.f.kp T._law_take.b .nil passL (pa_cons (pv 1) (pa_cons (pe_int) pa_nil))) pa_nil)) (blkOk_by (N := n_law) (sc := defScope s_law) (by decide +kernel)) (fun _ _ _ _ _ => pg_name (i := 15) sc_law.nd rfl (Or.inl rfl)) (fun _ _ _ _ _ => pts_nil) (fun _ _ _ _ _ => (pe_op (op_sub) ((pe_op (op_mul) (pe_int) (pv 15))) (pe_int))))) pa_nil))))) (pss_cons (ps_asg (pe_tup (pa_cons ((pe_lst pa_nil)) (pa_cons (pv 14) (pa_cons (pe_non) pa_nil)))) (pg_tup rfl (pgs_cons (pg_name (i := 12) sc_law.nd rfl (Or.inr rfl)) (pgs_cons (pg_name (i := 7) sc_law.nd rfl (Or.inl rfl)) (pgs_cons (pg_name (i := 8) sc_law.nd rfl (Or.inl rfl)) pgs_nil))))) (pss_cons ((ps_for pOg rfl (pi_range1 (by rfl) T.bf.range_ (pa_cons (pe_call (ok__law_take T) (hr.mono (by decide)) (by rfl) T._law_take.m T._law_take.f.kp T._law_take.b .nil passL (pa_cons (pv 1) (pa_cons (pe_int) pa_nil))) pa_nil)) (pg_name (i := 9) sc_law.nd rfl (Or.inl rfl)) (
        (pss_cons ((ps_set (i := 4) sc_law.nd rfl (Or.inl rfl) ((pe_call (ok__law_pick T) (hr.mono (by decide)) (by rfl) T._law_pick.m T._law_pick.f.kp T._law_pick.b .nil passL (pa_cons (pv 1) (pa_cons (pv 3) pa_nil)))))) (pss_cons ((ps_set (i := 10) sc_law.nd rfl (Or.inl rfl) ((pe_call (ok__law_made T) (hr.mono (by decide)) (by rfl) T._law_made.m T._law_made.f.kp T._law_made.b .nil passL (pa_cons (pv 2) (pa_cons (pv 4) (pa_cons ((pe_op (op_sub) ((pe_call (ok__law_take T) (hr.mono (by decide)) (by rfl) T._law_take.m T._law_take.f.kp T._law_take.b .nil passL (pa_cons (pv 1) (pa_cons ((pe_op (op_add) ((pe_callB call_len_seq (by rfl) T.bf.len_ PySem.boot_len (pa_cons (pv 7) pa_nil))) (pe_int))) pa_nil)))) (pe_ifExp (pt_cmpR (op_eq) ((pe_call (ok__law_take T) (hr.mono (by decide)) (by rfl) T._law_take.m T._law_take.f.kp T._law_take.b .nil passL (pa_cons (pv 1) (pa_cons (pe_int) pa_nil)))) (pe_int) (nomark _)) pe_int pe_int))) (pa_cons ((pe_call (ok__law_take T) (hr.mono (by decide)) (by rfl) T._law_take.m T._law_take.f.kp T._law_take.b .nil passL (pa_cons (pv 1) (pa_cons (pe_int) pa_nil)))) (pa_cons ((pe_call (ok__law_pick T) (hr.mono (by decide)) (by rfl) T._law_pick.m T._law_pick.f.kp T._law_pick.b .nil passL (pa_cons (pv 1) (pa_cons ((pe_lst (pa_cons ((pe_op (op_add) (pe_int) (pv 9))) (pa_cons ((pe_op (op_add) (pe_int) (pv 9))) (pa_cons (pe_int) (pa_cons (pe_un un_neg pe_int) pa_nil)))))) pa_nil)))) pa_nil))))))))) (pss_cons ((ps_expr (pe_bm PySem.F.plainAttrs_list PySem.F.slot_list_append PySem.F.type_list_append mt_append (pv 12) (pa_cons (pe_ifExp (pt_cmpR (op_gt) ((pe_call (ok__law_take T) (hr.mono (by decide)) (by rfl) T._law_take.m T._law_take.f.kp T._law_take.b .nil passL (pa_cons (pv 1) (pa_cons (pe_int) pa_nil)))) (pe_int) (nomark _)) (pv 10) pe_non) pa_nil)))) (pss_one ((ps_if ((pt_cmpR (op_isN) (pv 8) (pe_non) (nomark _))) ((pss_cons ((ps_set (i := 11) sc_law.nd rfl (Or.inl rfl) ((pe_call (ok__law_do T) (hr.mono (by decide)) (by rfl) T._law_do.m T._law_do.f.kp T._law_do.b .nil passL (pa_cons (pv 2) (pa_cons (pv 7) (pa_cons ((pe_ix (ix_list) (pv 12) (pe_un un_neg pe_int) (fun _ _ => rfl))) pa_nil))))))) (pss_one (ps_asg (pe_ifExp (pt_cmpR (op_isN) (pv 11) (pe_non) (nomark _)) (pe_tup (pa_cons (pv 9) (pa_cons (pv 7) pa_nil))) (pe_tup (pa_cons (pe_non) (pa_cons (pv 11) pa_nil)))) (pg_tup rfl (pgs_cons (pg_name (i := 8) sc_law.nd rfl (Or.inl rfl)) (pgs_cons (pg_name (i := 7) sc_law.nd rfl (Or.inl rfl)) pgs_nil))))))) (pss_nil)))))))))) (pss_cons ((ps_if (PW.pt (pw_and (pt_cmpR (op_isN) (pv 8) (pe_non) (nomark _)) (pw_and1 (PW.pt (pw_or (pt_cmpR (op_neD hr.units) ((pe_call (ok_done_all T) (hr.mono (by decide)) (by rfl) T.done_all.m T.done_all.f.kp T.done_all.b .nil passL (pa_cons (pv 13) (pa_cons (pv 14) (pa_cons (pv 12) pa_nil))))) (pv 7) (by rfl)) (pw_or1 (pt_cmpR (op_neD hr.units) ((pe_call (ok_done_all T) (hr.mono (by decide)) (by rfl) T.done_all.m T.done_all.f.kp T.done_all.b .nil passL (pa_cons (pv 13) (pa_cons (pv 14) (pa_cons ((pe_callTy (call_tuple_of) (by rfl) T.bf.tuple_ (by decide +kernel) (pa_cons (pv 12) pa_nil))) pa_nil))))) (pv 7) (by rfl)))))))) ((pss_one ((ps_ret (pe_bl))))) (pss_nil))) (pss_cons ((ps_if (PW.pt (pw_and (pt_cmpR (op_notN) (pv 8) (pe_non) (nomark _)) (pw_and1 (pt_cmpR (op_neD hr.units) (pe_told (teller T) (hr.mono (by decide)) (by rfl) T._law_told.m T._law_told.f.kp (pe_lam (T := tabsT P1 P2 P3) TB rfl ?m1 ?m2 ?m3 ?m4)) ((pe_tup (pa_cons (pe_str) (pa_cons (pv 8) pa_nil)))) (by rfl))))) ((pss_one ((ps_ret (pe_bl))))) (pss_nil))) (pss_cons ((ps_if (PW.pt (pw_and (pt_cmpR (op_neD hr.units) (pv 12) ((pe_lst pa_nil)) (by rfl)) (pw_and (pt_cmpR (op_ne) (pv 8) (pe_int) (nomark _)) (pw_and1 (pt_cmpR (op_neD hr.units) ((pe_call (ok_done T) (hr.mono (by decide)) (by rfl) T.done.m T.done.f.kp T.done.b .nil passL (pa_cons (pv 13) (pa_cons (pv 14) (pa_cons ((pe_ix (ix_list) (pv 12) (pe_int) (fun _ _ => rfl))) pa_nil))))) ((pe_call (ok__law_do T) (hr.mono (by decide)) (by rfl) T._law_do.m T._law_do.f.kp T._law_do.b .nil passL (pa_cons (pv 2) (pa_cons (pv 14) (pa_cons ((pe_ix (ix_list) (pv 12) (pe_int) (fun _ _ => rfl))) pa_nil))))) (by rfl)))))) ((pss_one ((ps_ret (pe_bl))))) (pss_nil))) (pss_one ((ps_ret (pe_and (pe_call okR (hr.mono (by decide)) (by rfl) T._law_kinds_right.m T._law_kinds_right.f.kp T._law_kinds_right.b .nil passL (pa_cons (pv 1) pa_nil)) (pe_and (pe_call okF (hr.mono (by decide)) (by rfl) T._law_refused.m T._law_refused.f.kp T._law_refused.b .nil passL (pa_cons (pv 13) (pa_cons (pv 2) pa_nil))) (pe_one (pe_cmpR (op_eqD hr.units) ((pe_call (ok_done T) (hr.mono (by decide)) (by rfl) T.done.m T.done.f.kp T.done.b .nil passL (pa_cons (pv 13) (pa_cons (pv 14) (pa_cons (pe_non) pa_nil))))) (pv 14) (by rfl))))))))))))))))))))))), ?_⟩
    case m1 => exact List.mem_cons.mpr (.inr (List.mem_cons.mpr (.inr (List.mem_cons.mpr (.inl rfl)))))
    case m2 => exact hu3 h13 h23
    case m3 => exact lamS_by (sc := defScope s_law) (by decide +kernel)
    case m4 => rfl
    refine ⟨_, rfl, by show 2 ≤ sizeLine; decide, fun dr hdr => ⟨dr, a, 0, upd_same, ?_⟩⟩
    have s1 : Same H (upd (upd H dr (.lst [.ref a, .int 0])) dr (DrawO dr a)) := same_upd (same_upd (Same.refl _) hdr) hdr
    have hdr1 : DrawAt K (upd (upd H dr (.lst [.ref a, .int 0])) dr (DrawO dr a)) (.ref dr) := ⟨dr, a, ns, rfl, upd_same, s1.seq hs, hl⟩
    generalize upd (upd H dr (.lst [.ref a, .int 0])) dr (DrawO dr a) = H1 at s1 hdr1 ⊢
    refine ⟨_, rfl, .ref dr, rfl, hdr1, fun ta Lt H2 s2 hT2 hG hpos hle => ?_⟩
    have hhas : hasNamesK (kvsT Lt) = true := has_names hpos hle fun e he => nm5_name _ (hG.nm e he)
    refine ⟨_, rfl, fun kp kdx hkp hkdx kne => ⟨kp, kdx, .ref ta, rfl, upd_same, .inr ⟨ta, Lt, rfl, hT2.same (same_upd (same_upd (Same.refl _) hkdx) hkp), hhas, fun M hMp sM => ?_⟩⟩⟩
    rw [good_none hG hMp]
    refine fun H3 D s3 hD hDk => ⟨rfl, ?_⟩
    obtain ⟨s24, hk4⟩ := made_at hG hT2.ok hMp hkp hkdx s3 hDk
    generalize upd H3 kp (.ins T.cKinds.c kdx [("told", .ref D)]) = H4 at s24 hk4 ⊢
    have s04 := s1.trans (s2.trans s24)
    have hT4 := hT2.same s24
    have hdr4 := hdr1.same (s2.trans s24)
    refine ⟨_, rfl, ta, kvsT Lt, rfl, .inl hT4.at_, fun l1 hl1 => ?_⟩
    have en : (kvsT Lt).map (fun kv => kV kv.1) = (Lt.map (·.1)).map V.str := by rw [kvs_keys, List.map_map]; rfl
    rw [en]
    have sA : Same H4 (upd H4 l1 (.lst ((Lt.map (·.1)).map V.str))) := same_upd (Same.refl _) hl1
    have hlA : (upd H4 l1 (.lst ((Lt.map (·.1)).map V.str))) l1 = some (.lst ((Lt.map (·.1)).map V.str)) := upd_same
    generalize upd H4 l1 (.lst ((Lt.map (·.1)).map V.str)) = HA at sA hlA ⊢
    refine ⟨l1, Lt.map (·.1), rfl, SqL.of hlA, by rw [List.length_map]; omega, fun ys nm pm so hnm => ?_⟩
    obtain ⟨N, hNp, rfl⟩ := perm_back (·.1) pm Lt rfl
    have eMN := sorted_ents hT2.ok.nd hNp hMp so sM
    subst eMN
    have enm : ((N.map (·.1)).map V.str) = N.map fun e => V.str e.1 := by rw [List.map_map]; rfl
    rw [enm]
    have sB : Same HA (upd HA nm (.lst (N.map fun e => V.str e.1))) := same_upd (Same.refl _) hnm
    have hnB : (upd HA nm (.lst (N.map fun e => V.str e.1))) nm = some (.lst (N.map fun e => V.str e.1)) := upd_same
    generalize upd HA nm (.lst (N.map fun e => V.str e.1)) = HB at sB hnB ⊢
    refine ⟨by show 2 ≤ sizeLine; decide, fun tp htp => ⟨tp, _, rfl, SqT.of upd_same, rfl, _, _, rfl, _, _, rfl, rfl, ?_⟩⟩
    have sC : Same HB (upd HB tp (.tup [.ref kp, .ref nm])) := same_upd (Same.refl _) htp
    generalize upd HB tp (.tup [.ref kp, .ref nm]) = H5 at sC ⊢
    have s45 := (sA.trans sB).trans sC
    have s05 := s04.trans s45
    have hk := hk4.same s45
    have hTd := hT4.same s45
    have hdr5 := hdr4.same s45
    have hnm5 := sC _ _ hnB
    have hNl : N.length = Lt.length := hMp.length_eq
    have shN : SeqAt.shaped (.list (N.map fun e => PyData.str e.1)) = true := shaped_all fun d hd => by
      obtain ⟨e, he, rfl⟩ := List.mem_map.mp hd
      exact nm5_shape _ (hG.nm e (hMp.mem_iff.mp he))
    have hzz : ∀ x ∈ N, x.1 ≠ "zz" := fun x hx z => by
      have := hG.nm x (hMp.mem_iff.mp hx)
      rw [z] at this
      exact absurd this (by decide +kernel)
    clear hlA hnB sA sB sC hdr4 hT4 hk4 s24 hl1 hnm htp
    obtain ⟨dx, D1, hkp5, hD5, hkind⟩ := id hk
    -- the six answers
    refine ⟨_, rfl, kp, dx, _, rfl, hkp5, rfl, kp, N, rfl, hk, fun l6 H6 s6 hl6 => ?_⟩
    refine ⟨_, rfl, _, _, .lst (SqL.of hl6) strs_dp, .lst (SqL.of (s6 _ _ hnm5)) strs_dp, shN, shN, _, rfl, ?_⟩
    rw [eqv_one shN]
    refine iteF ?_
    have hk6 := hk.same s6
    have hD6 := hD5.same s6
    have hT6 := hTd.same s6
    refine ⟨_, rfl, kp, dx, _, rfl, s6 _ _ hkp5, kp, N, rfl, hk6, _, rfl, by omega, by have := hD5.ok.few; omega, ?_⟩
    refine ⟨_, rfl, ta, _, rfl, hT6.at_, rfl, _, rfl, ?_⟩
    rw [kvs_len, hNl, decide_eq_true rfl]
    refine iteF ?_
    refine ⟨_, rfl, kp, _, dx, _, _, rfl, s6 _ _ hkp5, T.kf.cls, T.kf.told, rfl, _, rfl, D1, ta, _, _, rfl, rfl, hD6.at_, hT6.at_, by rw [kvs_len, kvs_len, hNl], very2 hT6.ok hMp hG, _, rfl, iteF ?_⟩
    refine ⟨_, rfl, kp, _, dx, _, _, rfl, s6 _ _ hkp5, T.kf.cls, T.kf.told, rfl, D1, _, rfl, .inl hD6.at_, fun l7 hl7 => ?_⟩
    rw [kvs_keys]
    have s7 : Same H6 (upd H6 l7 (.lst (N.map fun e => V.str e.1))) := same_upd (Same.refl _) hl7
    have hl7' : (upd H6 l7 (.lst (N.map fun e => V.str e.1))) l7 = some (.lst (N.map fun e => V.str e.1)) := upd_same
    generalize upd H6 l7 (.lst (N.map fun e => V.str e.1)) = H7 at s7 hl7' ⊢
    have s57 := s6.trans s7
    have hk7 := hk.same s57
    have hT7 := hTd.same s57
    have hnm7 := s57 _ _ hnm5
    have hkp7 := s57 _ _ hkp5
    have hD7 := hD5.same s57
    refine ⟨_, rfl, _, _, .lst (SqL.of hl7') strs_dp, .lst (SqL.of hnm7) strs_dp, shN, shN, _, rfl, ?_⟩
    rw [eqv_one shN]
    refine iteF ?_
    refine ⟨_, rfl, kp, dx, _, rfl, hkp7, kp, .str "zz", .str "zz", N, rfl, hk7, .str _, _, rfl, _, rfl, ?_⟩
    rw [findE_none hzz]
    refine iteF ?_
    refine ⟨_, rfl, kp, dx, _, rfl, hkp7, kp, .int 3, .int 3, N, rfl, hk7, .int _, _, rfl, ?_⟩
    refine ⟨_, rfl, iteF ?_⟩
    -- kind by kind
    refine ⟨_, rfl, nm, rfl, ⟨_, SqL.of hnm7⟩, fun D2 hD2 => lc_mapL (xs := N.map fun e => V.str e.1) (i := 4) (fun _ => .bl false) (Same.refl _) (SqL.of hnm7) hD2 (by rw [List.length_map]; omega) (fun _ => rfl) (fun y hy H8 s8 Q8 q8 => ?_) fun H8 s8 hD8 => ?_⟩
    · obtain ⟨e, he, rfl⟩ := List.mem_map.mp hy
      have eL := hMp.mem_iff.mp he
      have hk8 := hk7.same s8
      have hT8 := hT7.same s8
      have hkp8 := s8 _ _ hkp7
      have fe := findE_of hD5.ok.nd he
      have dpe := hT8.ok.dp e eL
      have she := shaped_el (hT8.ok.sh e eL)
      obtain ⟨wd, ps, ed, w0, w2, hrow⟩ := kind_form (hkind e he)
      refine ⟨_, rfl, _, rfl, kp, dx, _, rfl, hkp8, kp, _, .str e.1, N, rfl, hk8, .str _, fun x ex => ?_, fun z => by rw [fe] at z; cases z⟩
      rw [fe] at ex
      cases ex
      refine ⟨_, rfl, _, rfl, ta, _, rfl, hT8.get eL, e.2.2, e.2.2, dpe, dpe, she, she, _, rfl, ?_⟩
      rw [eqv_one she]
      refine iteF ?_
      refine ⟨_, rfl, kp, dx, _, rfl, hkp8, rfl, _, rfl, kp, _, .str e.1, N, rfl, hk8, .str _, fun e' m' ee w' ps' ed' => ?_, fun z => by rw [fe] at z; cases z⟩
      have en1 : e.1 = e'.1 := PyData.str.inj ee
      have hg' := hT8.get (hMp.mem_iff.mp m')
      rw [← en1] at hg'
      have dp' := hT8.ok.dp e' (hMp.mem_iff.mp m')
      rw [ed'] at dp'
      obtain ⟨ka, kb, xs, rx, h1, h2, h3⟩ := kind_val dp'
      rw [rx] at hg'
      refine ⟨_, rfl, _, rfl, ta, _, rfl, hg', ka, _, 1, _, rfl, rfl, h1, rfl, kb, xs, rfl, .inr h2, _, rfl, _, rfl, ta, _, rfl, hg', ka, _, 0, _, rfl, rfl, h1, rfl, _, _, rfl, rfl, rfl, _, rfl, ?_⟩
      rw [all_len h3, decide_eq_true rfl]
      refine iteF ?_
      refine ⟨_, rfl, _, rfl, kp, dx, _, rfl, hkp8, kp, _, .str e.1, N, rfl, hk8, .str _, _, rfl, ?_⟩
      rw [fe]
      exact q8 H8 (Same.refl _)
    refine ⟨D2, List.replicate N.length false, rfl, SqL.of (by rw [hD8, List.map_map, List.map_replicate]; exact congrArg (fun l => some (HO.lst l)) (List.map_const' ..)), _, rfl, ?_⟩
    have anyf : (List.replicate N.length false).any id = false := List.any_eq_false.mpr fun z hz => by
      rw [(List.mem_replicate.mp hz).2]
      simp
    rw [anyf]
    refine iteF ?_
    have s58 := s57.trans s8
    have hk8 := hk.same s58
    have hT8 := hTd.same s58
    have hnm8 := s58 _ _ hnm5
    have hkp8 := s58 _ _ hkp5
    have hdr8 := hdr5.same s58
    have s08 := s05.trans s58
    clear hk7 hT7 hnm7 hkp7 hD7 hk6 hD6 hT6 hl7' hl6 hD8 hD2 hl7 s6 s7 s57 s8
    -- the twin
    refine ⟨_, rfl, ta, kvsT Lt, rfl, .inl hT8.at_, fun tw htw => ?_⟩
    have s9 : Same H8 (upd H8 tw (.dK (kvsT Lt))) := same_upd (Same.refl _) htw
    have htw9 : (upd H8 tw (.dK (kvsT Lt))) tw = some (.dK (kvsT Lt)) := upd_same
    generalize upd H8 tw (.dK (kvsT Lt)) = H9 at s9 htw9 ⊢
    have hTw9 : Told K H9 tw Lt := ⟨htw9, hT8.ok.same s9⟩
    refine ⟨_, rfl, fun lp ldx hlp hldx lne => ⟨lp, ldx, .ref tw, rfl, upd_same, .inr ⟨tw, Lt, rfl, hTw9.same (same_upd (same_upd (Same.refl _) hldx) hlp), hhas, fun M' hM' sM' => ?_⟩⟩⟩
    have eM' := sorted_ents hT2.ok.nd hM' hMp sM' sM
    subst eM'
    rw [good_none hG hM']
    refine fun H10 D' s10 hD' hDk' => ⟨rfl, ?_⟩
    obtain ⟨s11, hkl⟩ := made_at hG hTw9.ok hM' hlp hldx s10 hDk'
    have hDtw : D' ≠ tw := fun z => by
      have h1 : (upd (upd H9 ldx (.own lp)) lp (.ins T.cKinds.c ldx [])) tw = some (.dK (kvsT Lt)) := (same_upd (same_upd (Same.refl H9) hldx) hlp : Same H9 _) _ _ htw9
      rw [← z, hD'] at h1
      cases h1
    have hlptw : lp ≠ tw := fun z => by rw [z, htw9] at hlp; cases hlp
    have hl11 : (upd H10 lp (.ins T.cKinds.c ldx [("told", .ref D')])) lp = some (.ins T.cKinds.c ldx [("told", .ref D')]) := upd_same
    have hD11 : (upd H10 lp (.ins T.cKinds.c ldx [("told", .ref D')])) D' = some (.dK (kvsT M')) := by
      rw [upd_ne (fun z => by rw [z, s10 lp _ upd_same] at hDk'; cases hDk')]
      exact hDk'
    generalize upd H10 lp (.ins T.cKinds.c ldx [("told", .ref D')]) = H11 at s11 hkl hl11 hD11 ⊢
    intro vz H12 s12 hvz
    have htw12 := (s11.trans s12) _ _ htw9
    refine ⟨_, rfl, tw, _, rfl, DPut.k (k := Sum.inr "zz") htw12 (by rw [kvs_len]; exact small1000 (by omega)), ?_⟩
    have s8d : Same H8 (upd H12 tw (.dK (putK (kvsT Lt) (Sum.inr "zz") vz))) := same_upd' ((s9.trans s11).trans s12) htw
    have hl13 : (upd H12 tw (.dK (putK (kvsT Lt) (Sum.inr "zz") vz))) lp = some (.ins T.cKinds.c ldx [("told", .ref D')]) := by
      rw [upd_ne hlptw]
      exact s12 _ _ hl11
    have hD13 : (upd H12 tw (.dK (putK (kvsT Lt) (Sum.inr "zz") vz))) D' = some (.dK (kvsT M')) := by
      rw [upd_ne hDtw]
      exact s12 _ _ hD11
    generalize upd H12 tw (.dK (putK (kvsT Lt) (Sum.inr "zz") vz)) = H13 at s8d hl13 hD13 ⊢
    have hk13 := hk8.same s8d
    have hT13 := hT8.same s8d
    have hkl13 : KindsAt K T.cKinds.c H13 lp M' := ⟨ldx, D', hl13, ⟨hD13, hT13.ok.perm hM'⟩, hkind⟩
    have hkp13 := s8d _ _ hkp8
    refine ⟨_, rfl, _, rfl, lp, ldx, _, rfl, hl13, TyB.same hkp13, lp, .ref kp, M', rfl, hkl13, .inl ⟨kp, rfl, hk13, _, rfl, _, rfl, iteF ?_⟩⟩
    refine ⟨_, rfl, _, rfl, lp, ldx, _, rfl, hl13, TyB.same hkp13, lp, .ref kp, M', rfl, hkl13, .inl ⟨kp, rfl, hk13, _, rfl, _, rfl, iteF ?_⟩⟩
    refine ⟨_, rfl, _, rfl, lp, ldx, _, rfl, hl13, TyB.dict hT13.at_ T.kf.dictK, lp, .ref ta, M', rfl, hkl13, .inr ⟨ta, _, rfl, hT13.at_, _, rfl, _, rfl, iteF ?_⟩⟩
    refine ⟨_, rfl, lp, ldx, _, rfl, hl13, lp, M', rfl, hkl13, _, rfl, by omega, by have := hD5.ok.few; omega, ?_⟩
    refine ⟨_, rfl, ta, _, rfl, hT13.at_, rfl, _, rfl, ?_⟩
    rw [kvs_len, hNl, decide_eq_true rfl]
    refine iteF ?_
    have s0d := s08.trans s8d
    have hdr13 := hdr8.same s8d
    have hnm13 := s8d _ _ hnm8
    clear hk8 hT8 hnm8 hkp8 hdr8 s9 htw9 hTw9 hkl hl11 hD11 s11 s12 hvz htw12 hl13 hD13 hkl13 htw s8d s10 hlp hldx hDk' hD'
    -- the text
    refine ⟨_, rfl, .ref dr, 10, rfl, hdr13, by omega, fun nt H14 s14 hnt => ?_⟩
    have ent : ((nt : Nat) : Int).toNat = nt := Int.toNat_natCast nt
    refine ⟨_, rfl, by omega, by omega, fun D3 hD3 => ?_⟩
    rw [ent]
    refine lc_it (walk_range (lo := 0) (n := nt)) (fun j H' => Same H14 H' ∧ H' D3 = some (.lst ((textL j).map V.int))) ⟨same_upd (Same.refl _) hD3, by rw [upd_same]; rfl⟩ (fun _ _ _ _ => trivial) ?telt ?tdone
    case telt =>
      rintro j x H15 H15' hj ⟨s15, hD15⟩ ⟨rfl, rfl⟩
      refine ⟨rfl, ?_⟩
      simp only [tYes, if_true]
      refine ⟨_, rfl, _, _, rfl, rfl, .inl ⟨by decide, by decide⟩, _, _, rfl, rfl, _, hD15, by rw [List.length_map, textL_len]; exact small1000 (by omega), same_upd s15 hD3, ?_⟩
      rw [upd_same, textL_next, List.map_append]
      show some (HO.lst _) = some (HO.lst (_ ++ [V.int (7 * (j : Int) - 9)]))
      rw [Int.zero_add]
    case tdone =>
      rintro H15 ⟨s15, hD15⟩
      refine ⟨D3, _, rfl, .inl ⟨SqL.of hD15, fun tx htx => ?_⟩⟩
      have s16 : Same H15 (upd H15 tx (.tup ((textL nt).map V.int))) := same_upd (Same.refl _) htx
      have htx16 : (upd H15 tx (.tup ((textL nt).map V.int))) tx = some (.tup ((textL nt).map V.int)) := upd_same
      generalize upd H15 tx (.tup ((textL nt).map V.int)) = H16 at s16 htx16 ⊢
      have sd16 := s14.trans (s15.trans s16)
      have htext : TextAt K H16 (.ref tx) (textL nt) := ⟨tx, rfl, SqT.of htx16⟩
      have hk16 := hk13.same sd16
      have hT16 := hT13.same sd16
      have hdr16 := hdr13.same sd16
      have hnm16 := sd16 _ _ hnm13
      have hkp16 := sd16 _ _ hkp13
      have s016 := s0d.trans sd16
      have htok := text_ok (n := nt) (by omega)
      have hntl := textL_len nt
      clear hD15 hD3 s14 s15 s16 sd16 hnm13 hT13 hk13 hdr13 hkp13
      refine ⟨by show 0 ≤ sizeLine; decide, fun cl hcl => ?_⟩
      refine ⟨_, rfl, by show 3 ≤ sizeLine; decide, fun tq htq => ⟨tq, _, rfl, SqT.of upd_same, rfl, _, _, rfl, _, _, rfl, _, _, rfl, rfl, ?_⟩⟩
      have s17 : Same H16 (upd (upd H16 cl (.lst [])) tq (.tup [.ref cl, .ref tx, .non])) := same_upd (same_upd (Same.refl _) hcl) ((same_upd (Same.refl H16) hcl : Same H16 _).free htq)
      have hcl17 : (upd (upd H16 cl (.lst [])) tq (.tup [.ref cl, .ref tx, .non])) cl = some (.lst []) := by
        rw [upd_ne (fun z => by rw [← z, upd_same] at htq; cases htq), upd_same]
      generalize upd (upd H16 cl (.lst [])) tq (.tup [.ref cl, .ref tx, .non]) = H17 at s17 hcl17 ⊢
      refine ⟨_, rfl, .ref dr, 6, rfl, hdr16.same s17, by omega, fun nc H18 s18 hnc => ?_⟩
      have enc : ((nc : Nat) : Int).toNat = nc := Int.toNat_natCast nc
      refine ⟨_, rfl, by omega, by omega, ?_⟩
      rw [enc]
      have s618 := s17.trans s18
      refine for_it (walk_range (lo := 0) (n := nc)) (fun i σ H' => (∃ x4 x9 x10 x11 nowV stopV, σ = [some (.ref a), some (.ref dr), some (.ref ta), some (.ref nm), x4, some (.ref tw), some (.ref lp), some nowV, some stopV, x9, x10, x11, some (.ref cl), some (.ref kp), some (.ref tx), none] ∧ LI K M' (textL nt) cl i H' nowV stopV) ∧ Same H16 H')
        ⟨⟨_, _, _, _, .ref tx, .non, rfl, [], [], textL nt, s18 _ _ hcl17, .nil, rfl, rfl, fun d hd => by simp at hd, (htext.same s618), by omega, .inl ⟨rfl, rfl⟩⟩, s618⟩ (fun _ _ _ _ _ => trivial) ?turn ?after
      case turn =>
        rintro i x σ HH HH' hi ⟨⟨x4, x9, x10, x11, nowV, stopV, rfl, hLI⟩, sH⟩ ⟨rfl, rfl⟩
        obtain ⟨vs, ds, now, h1, h2, h3, h4, h5, ⟨nb, rfl, hnb⟩, h7, hst⟩ := hLI
        have hdrH := hdr16.same sH
        have hTH := hT16.same sH
        have hkH := hk16.same sH
        have hnmH := sH _ _ hnm16
        refine ⟨_, rfl, _, rfl, .ref dr, nm, _, rfl, hdrH, .inl (SqL.of hnmH), by rw [List.length_map]; omega, fun x hx Ha sa => ?_⟩
        obtain ⟨e, he, rfl⟩ := List.mem_map.mp hx
        have eL := hMp.mem_iff.mp he
        obtain ⟨wd, ps, ed, w0, w2, hrow⟩ := kind_form (hkind e he)
        refine ⟨_, rfl, _, rfl, _, rfl, _, rfl, nb, _, rfl, .inr (sqT_same sa hnb), _, _, rfl, rfl, .ref dr, _, rfl, hdrH.same sa, by rw [List.length_map]; omega, fun r1 Hb sb hr1 => ?_⟩
        refine ⟨_, rfl, .ref dr, 9, rfl, hdrH.same (sa.trans sb), by omega, fun r2 Hc sc hr2 => ⟨rfl, _, rfl, ?_⟩⟩
        refine ite2 (fun _ => ?_) (fun _ => ?_)
        · refine ⟨_, _, rfl, rfl, ?_⟩
          (
            refine ⟨_, rfl, .ref dr, 3, rfl, hdrH.same ((sa.trans sb).trans sc), by omega, fun r3 Hd sd hr3 => ?_⟩
            refine ⟨_, rfl, _, rfl, _, _, rfl, rfl, _, rfl, _, _, rfl, rfl, _, rfl, by show 4 ≤ sizeLine; decide, fun lq hlq => ?_⟩
            have sacd := ((sa.trans sb).trans sc).trans sd
            refine ⟨.ref dr, lq, _, rfl, hdrH.same (sacd.trans (same_upd (Same.refl _) hlq)), .inl (SqL.of upd_same), by show 0 < 4; omega, fun x2 hx2 Hf sf => ?_⟩
            have sq := sacd.trans ((same_upd (Same.refl _) hlq : Same Hd _).trans sf)
            obtain ⟨lt, rfl⟩ : ∃ lt, x2 = .int lt := by
              simp only [List.mem_cons, List.not_mem_nil, or_false] at hx2
              rcases hx2 with rfl | rfl | rfl | rfl <;> exact ⟨_, rfl⟩
            refine ⟨ta, Lt, e, wd, ps, _, _, lt, rfl, hTH.same sq, eL, ed, row_parts hrow, fun vch Hg sg hch => ?_⟩
            have sqg := sq.trans sg
            have hclg := sqg _ _ h1
            refine ⟨_, rfl, .inl ⟨rfl, _, SqL.of hclg⟩, _, rfl, .ref dr, 6, rfl, hdrH.same sqg, by omega, fun r6 H9 s9 h6 => ⟨_, _, rfl, rfl, _, rfl, ?_⟩⟩
            have sT := sqg.trans s9
            refine ite2 (fun _ => ?_) (fun _ => ?_)
            · have hvd := dp_same s9 hch
              have hokd := ok_made (pl := ((r1 : Int) - 1)) (l := lt) (h := r3) hkH he ed
              have hfl : flatD (.tuple [.str e.1, .int ((r1 : Int) - 1), if hasNewD ps = true then .int lt else .none, .int (r3 : Nat)]) = true := made_flat (by split <;> rfl)
              refine ⟨_, rfl, ?_⟩
              (
                (
                  have hcl9 := sT _ _ h1
                  have ha9 := dpAll_same sT h2
                  refine ⟨cl, _, _, rfl, rfl, hcl9, by rw [all_len h2]; exact small1000 (by omega), ?_⟩
                  have s16U : Same H16 (upd H9 cl (.lst (vs ++ [vch]))) := same_upd' (sH.trans sT) hcl
                  have hclU : (upd H9 cl (.lst (vs ++ [vch]))) cl = some (.lst (vs ++ [vch])) := upd_same
                  have haU : DpAll K (upd H9 cl (.lst (vs ++ [vch]))) (vs ++ [vch]) (ds ++ [(PyData.tuple [.str e.1, .int ((r1 : Int) - 1), if hasNewD ps = true then .int lt else .none, .int (r3 : Nat)])]) := dpAll_at hcl9 (dpAll_snoc hvd ha9) (flat_snoc hfl h3)
                  have hvdU : Dp K (upd H9 cl (.lst (vs ++ [vch]))) vch (PyData.tuple [.str e.1, .int ((r1 : Int) - 1), if hasNewD ps = true then .int lt else .none, .int (r3 : Nat)]) := dp_at hcl9 hvd hfl
                  have nowU : TextAt K (upd H9 cl (.lst (vs ++ [vch]))) (.ref nb) now := TextAt.updL hcl9 (TextAt.same ⟨nb, rfl, hnb⟩ sT)
                  have okU : ∀ d ∈ ds ++ [(PyData.tuple [.str e.1, .int ((r1 : Int) - 1), if hasNewD ps = true then .int lt else .none, .int (r3 : Nat)])], okC M' d = true := fun d hd => (List.mem_append.mp hd).elim (h5 d) fun z => by rw [List.mem_singleton.mp z]; exact hokd
                  have lenU : (ds ++ [(PyData.tuple [.str e.1, .int ((r1 : Int) - 1), if hasNewD ps = true then .int lt else .none, .int (r3 : Nat)])]).length = i + 1 := by rw [List.length_append, h4]; rfl
                  have flU : flatAll (ds ++ [(PyData.tuple [.str e.1, .int ((r1 : Int) - 1), if hasNewD ps = true then .int lt else .none, .int (r3 : Nat)])]) = true := flat_snoc hfl h3
                  have hkU := hk16.same s16U
                  have hTU := hT16.same s16U
                  have hlast : atI (vs ++ [vch]) (-1) = some vch := at_last (by simp)
                  generalize upd H9 cl (.lst (vs ++ [vch])) = HU at s16U hclU haU hvdU nowU hkU hTU ⊢
                  clear hcl9 ha9
                )
                have ic : isChangeD M' (PyData.tuple [.str e.1, .int ((r1 : Int) - 1), if hasNewD ps = true then .int lt else .none, .int (r3 : Nat)]) = true := by
                  have z := hokd
                  unfold okC at z
                  exact z
                obtain ⟨e2, pl2, l2, hd2, wd2, ps2, hv2, em2, edd, ed2, w02, psl2, hnl2, hch2⟩ := change_form hkU ic hvdU
                obtain ⟨wd3, ps3, ed3, _, _, hrow2⟩ := kind_form (hkind e2 em2)
                have ew := ed2.symm.trans ed3
                cases ew
                have hrw := rowD_of hD5.ok.nd em2 ed2
                have hstT : canD wd2 now pl2 l2 = true → stepD M' now (PyData.tuple [.str e.1, .int ((r1 : Int) - 1), if hasNewD ps = true then .int lt else .none, .int (r3 : Nat)]) = some (behindD now ps2 wd2 pl2 l2) := fun h => by
                  rw [edd]
                  show (if canD (widthD M' e2.1) now pl2 l2 = true then some (behindD now (rowD M' e2.1) (widthD M' e2.1) pl2 l2) else none) = _
                  rw [hrw.1, hrw.2, h]
                  rfl
                have hstF : canD wd2 now pl2 l2 = false → stepD M' now (PyData.tuple [.str e.1, .int ((r1 : Int) - 1), if hasNewD ps = true then .int lt else .none, .int (r3 : Nat)]) = none := fun h => by
                  rw [edd]
                  show (if canD (widthD M' e2.1) now pl2 l2 = true then some (behindD now (rowD M' e2.1) (widthD M' e2.1) pl2 l2) else none) = _
                  rw [hrw.1, hrw.2, h]
                  rfl
                refine ⟨_, rfl, rfl, _, rfl, ?_⟩
                rcases hst with ⟨rfl, hrun⟩ | ⟨k, hk1, rfl, hrun⟩
                · refine iteT ⟨_, rfl, _, rfl, _, rfl, _, rfl, cl, _, _, _, rfl, rfl, SqL.of hclU, hlast, ta, Lt, .ref nb, vch, now, rfl, hTU, nowU, by omega, .inr ⟨e2, pl2, l2, hv2, wd2, ps2, hMp.mem_iff.mp em2, ed2, row_parts hrow2, psl2, w02, hch2, hnl2, ?_⟩⟩
                  cases hcan : canD wd2 now pl2 l2 with
                  | true =>
                    have hst2 := hstT hcan
                    rw [if_pos rfl]
                    intro nb2 HV sV now2U
                    have pz : 0 ≤ pl2 := by
                      unfold canD at hcan
                      rw [Bool.and_eq_true] at hcan
                      exact of_decide_eq_true hcan.1
                    have bl := behind_len2 (t := now) (ps := ps2) (l := l2) pz w02
                    have hstep := hst2
                    (
                      refine ⟨_, rfl, rfl, _, rfl, iteF ⟨_, rfl, by show 2 ≤ sizeLine; decide, fun tp htp => ⟨tp, _, rfl, SqT.of upd_same, rfl, _, _, rfl, _, _, rfl, rfl, ?_⟩⟩⟩
                      have sP : Same HV (upd HV tp (.tup [.non, .ref nb2])) := same_upd (Same.refl _) htp
                      refine ⟨⟨_, _, _, _, _, _, rfl, vs ++ [_], ds ++ [_], (behindD now ps2 wd2 pl2 l2), sP _ _ (sV _ _ hclU), dpAll_same (sV.trans sP) haU, flU, lenU, okU, now2U.same sP, by omega, .inl ⟨rfl, ?_⟩⟩, s16U.trans (sV.trans sP)⟩
                      rw [runD_snoc, hrun]
                      show (match stepD M' now (PyData.tuple [.str e.1, .int ((r1 : Int) - 1), if hasNewD ps = true then .int lt else .none, .int (r3 : Nat)]) with | some t'' => Sum.inr t'' | none => Sum.inl (0 + ds.length)) = _
                      rw [hstep]
                    )
                  | false =>
                    have hst2 := hstF hcan
                    rw [if_neg (by simp)]
                    refine ⟨_, rfl, rfl, _, rfl, iteT ⟨_, rfl, _, rfl, by show 2 ≤ sizeLine; decide, fun tp htp => ⟨tp, _, rfl, SqT.of upd_same, rfl, _, _, rfl, _, _, rfl, rfl, ?_⟩⟩⟩
                    have sP : Same HU (upd HU tp (.tup [.int (0 + (i : Nat)), .ref nb])) := same_upd (Same.refl _) htp
                    refine ⟨⟨_, _, _, _, _, _, rfl, vs ++ [vch], ds ++ [(PyData.tuple [.str e.1, .int ((r1 : Int) - 1), if hasNewD ps = true then .int lt else .none, .int (r3 : Nat)])], now, sP _ _ hclU, dpAll_same sP haU, flU, lenU, okU, nowU.same sP, by omega, .inr ⟨i, by omega, (by show V.int (0 + (i : Nat)) = V.int (i : Nat); rw [Int.zero_add]), ?_⟩⟩, s16U.trans sP⟩
                    rw [runD_snoc, hrun]
                    show (match stepD M' now (PyData.tuple [.str e.1, .int ((r1 : Int) - 1), if hasNewD ps = true then .int lt else .none, .int (r3 : Nat)]) with | some t'' => Sum.inr t'' | none => Sum.inl (0 + ds.length)) = _
                    rw [hst2, h4, Nat.zero_add]
                · (
                    refine iteF ⟨⟨_, _, _, _, _, _, rfl, vs ++ [_], ds ++ [_], now, hclU, haU, flU, lenU, okU, nowU, by omega, .inr ⟨k, by omega, rfl, ?_⟩⟩, s16U⟩
                    rw [runD_snoc, hrun]
                  )
              )
            · have hvd : Dp K H9 V.non PyData.none := .non
              have hokd : okC M' .none = true := rfl
              have hfl : flatD .none = true := rfl
              (
                (
                  have hcl9 := sT _ _ h1
                  have ha9 := dpAll_same sT h2
                  refine ⟨cl, _, _, rfl, rfl, hcl9, by rw [all_len h2]; exact small1000 (by omega), ?_⟩
                  have s16U : Same H16 (upd H9 cl (.lst (vs ++ [V.non]))) := same_upd' (sH.trans sT) hcl
                  have hclU : (upd H9 cl (.lst (vs ++ [V.non]))) cl = some (.lst (vs ++ [V.non])) := upd_same
                  have haU : DpAll K (upd H9 cl (.lst (vs ++ [V.non]))) (vs ++ [V.non]) (ds ++ [PyData.none]) := dpAll_at hcl9 (dpAll_snoc hvd ha9) (flat_snoc hfl h3)
                  have hvdU : Dp K (upd H9 cl (.lst (vs ++ [V.non]))) V.non PyData.none := dp_at hcl9 hvd hfl
                  have nowU : TextAt K (upd H9 cl (.lst (vs ++ [V.non]))) (.ref nb) now := TextAt.updL hcl9 (TextAt.same ⟨nb, rfl, hnb⟩ sT)
                  have okU : ∀ d ∈ ds ++ [PyData.none], okC M' d = true := fun d hd => (List.mem_append.mp hd).elim (h5 d) fun z => by rw [List.mem_singleton.mp z]; exact hokd
                  have lenU : (ds ++ [PyData.none]).length = i + 1 := by rw [List.length_append, h4]; rfl
                  have flU : flatAll (ds ++ [PyData.none]) = true := flat_snoc hfl h3
                  have hkU := hk16.same s16U
                  have hTU := hT16.same s16U
                  have hlast : atI (vs ++ [V.non]) (-1) = some V.non := at_last (by simp)
                  generalize upd H9 cl (.lst (vs ++ [V.non])) = HU at s16U hclU haU hvdU nowU hkU hTU ⊢
                  clear hcl9 ha9
                )
                refine ⟨_, rfl, rfl, _, rfl, ?_⟩
                rcases hst with ⟨rfl, hrun⟩ | ⟨k, hk1, rfl, hrun⟩
                · refine iteT ⟨_, rfl, _, rfl, _, rfl, _, rfl, cl, _, _, _, rfl, rfl, SqL.of hclU, hlast, ta, Lt, .ref nb, .non, now, rfl, hTU, nowU, by omega, .inl ⟨rfl, ?_⟩⟩
                  have sV := Same.refl HU
                  have now2U := nowU
                  have hstep : stepD M' now .none = some now := rfl
                  (
                    refine ⟨_, rfl, rfl, _, rfl, iteF ⟨_, rfl, by show 2 ≤ sizeLine; decide, fun tp htp => ⟨tp, _, rfl, SqT.of upd_same, rfl, _, _, rfl, _, _, rfl, rfl, ?_⟩⟩⟩
                    have sP : Same HU (upd HU tp (.tup [.non, .ref nb])) := same_upd (Same.refl _) htp
                    refine ⟨⟨_, _, _, _, _, _, rfl, vs ++ [_], ds ++ [_], now, sP _ _ (sV _ _ hclU), dpAll_same (sV.trans sP) haU, flU, lenU, okU, now2U.same sP, by omega, .inl ⟨rfl, ?_⟩⟩, s16U.trans (sV.trans sP)⟩
                    rw [runD_snoc, hrun]
                    show (match stepD M' now PyData.none with | some t'' => Sum.inr t'' | none => Sum.inl (0 + ds.length)) = _
                    rw [hstep]
                  )
                · (
                    refine iteF ⟨⟨_, _, _, _, _, _, rfl, vs ++ [_], ds ++ [_], now, hclU, haU, flU, lenU, okU, nowU, by omega, .inr ⟨k, by omega, rfl, ?_⟩⟩, s16U⟩
                    rw [runD_snoc, hrun]
                  )
              )
          )
        · refine ⟨_, _, rfl, rfl, ?_⟩
          (
            refine ⟨_, rfl, .ref dr, 3, rfl, hdrH.same ((sa.trans sb).trans sc), by omega, fun r3 Hd sd hr3 => ?_⟩
            refine ⟨_, rfl, _, rfl, _, _, rfl, rfl, _, rfl, _, _, rfl, rfl, _, rfl, by show 4 ≤ sizeLine; decide, fun lq hlq => ?_⟩
            have sacd := ((sa.trans sb).trans sc).trans sd
            refine ⟨.ref dr, lq, _, rfl, hdrH.same (sacd.trans (same_upd (Same.refl _) hlq)), .inl (SqL.of upd_same), by show 0 < 4; omega, fun x2 hx2 Hf sf => ?_⟩
            have sq := sacd.trans ((same_upd (Same.refl _) hlq : Same Hd _).trans sf)
            obtain ⟨lt, rfl⟩ : ∃ lt, x2 = .int lt := by
              simp only [List.mem_cons, List.not_mem_nil, or_false] at hx2
              rcases hx2 with rfl | rfl | rfl | rfl <;> exact ⟨_, rfl⟩
            refine ⟨ta, Lt, e, wd, ps, _, _, lt, rfl, hTH.same sq, eL, ed, row_parts hrow, fun vch Hg sg hch => ?_⟩
            have sqg := sq.trans sg
            have hclg := sqg _ _ h1
            refine ⟨_, rfl, .inl ⟨rfl, _, SqL.of hclg⟩, _, rfl, .ref dr, 6, rfl, hdrH.same sqg, by omega, fun r6 H9 s9 h6 => ⟨_, _, rfl, rfl, _, rfl, ?_⟩⟩
            have sT := sqg.trans s9
            refine ite2 (fun _ => ?_) (fun _ => ?_)
            · have hvd := dp_same s9 hch
              have hokd := ok_made (pl := ((r1 : Int) - 0)) (l := lt) (h := r3) hkH he ed
              have hfl : flatD (.tuple [.str e.1, .int ((r1 : Int) - 0), if hasNewD ps = true then .int lt else .none, .int (r3 : Nat)]) = true := made_flat (by split <;> rfl)
              refine ⟨_, rfl, ?_⟩
              (
                (
                  have hcl9 := sT _ _ h1
                  have ha9 := dpAll_same sT h2
                  refine ⟨cl, _, _, rfl, rfl, hcl9, by rw [all_len h2]; exact small1000 (by omega), ?_⟩
                  have s16U : Same H16 (upd H9 cl (.lst (vs ++ [vch]))) := same_upd' (sH.trans sT) hcl
                  have hclU : (upd H9 cl (.lst (vs ++ [vch]))) cl = some (.lst (vs ++ [vch])) := upd_same
                  have haU : DpAll K (upd H9 cl (.lst (vs ++ [vch]))) (vs ++ [vch]) (ds ++ [(PyData.tuple [.str e.1, .int ((r1 : Int) - 0), if hasNewD ps = true then .int lt else .none, .int (r3 : Nat)])]) := dpAll_at hcl9 (dpAll_snoc hvd ha9) (flat_snoc hfl h3)
                  have hvdU : Dp K (upd H9 cl (.lst (vs ++ [vch]))) vch (PyData.tuple [.str e.1, .int ((r1 : Int) - 0), if hasNewD ps = true then .int lt else .none, .int (r3 : Nat)]) := dp_at hcl9 hvd hfl
                  have nowU : TextAt K (upd H9 cl (.lst (vs ++ [vch]))) (.ref nb) now := TextAt.updL hcl9 (TextAt.same ⟨nb, rfl, hnb⟩ sT)
                  have okU : ∀ d ∈ ds ++ [(PyData.tuple [.str e.1, .int ((r1 : Int) - 0), if hasNewD ps = true then .int lt else .none, .int (r3 : Nat)])], okC M' d = true := fun d hd => (List.mem_append.mp hd).elim (h5 d) fun z => by rw [List.mem_singleton.mp z]; exact hokd
                  have lenU : (ds ++ [(PyData.tuple [.str e.1, .int ((r1 : Int) - 0), if hasNewD ps = true then .int lt else .none, .int (r3 : Nat)])]).length = i + 1 := by rw [List.length_append, h4]; rfl
                  have flU : flatAll (ds ++ [(PyData.tuple [.str e.1, .int ((r1 : Int) - 0), if hasNewD ps = true then .int lt else .none, .int (r3 : Nat)])]) = true := flat_snoc hfl h3
                  have hkU := hk16.same s16U
                  have hTU := hT16.same s16U
                  have hlast : atI (vs ++ [vch]) (-1) = some vch := at_last (by simp)
                  generalize upd H9 cl (.lst (vs ++ [vch])) = HU at s16U hclU haU hvdU nowU hkU hTU ⊢
                  clear hcl9 ha9
                )
                have ic : isChangeD M' (PyData.tuple [.str e.1, .int ((r1 : Int) - 0), if hasNewD ps = true then .int lt else .none, .int (r3 : Nat)]) = true := by
                  have z := hokd
                  unfold okC at z
                  exact z
                obtain ⟨e2, pl2, l2, hd2, wd2, ps2, hv2, em2, edd, ed2, w02, psl2, hnl2, hch2⟩ := change_form hkU ic hvdU
                obtain ⟨wd3, ps3, ed3, _, _, hrow2⟩ := kind_form (hkind e2 em2)
                have ew := ed2.symm.trans ed3
                cases ew
                have hrw := rowD_of hD5.ok.nd em2 ed2
                have hstT : canD wd2 now pl2 l2 = true → stepD M' now (PyData.tuple [.str e.1, .int ((r1 : Int) - 0), if hasNewD ps = true then .int lt else .none, .int (r3 : Nat)]) = some (behindD now ps2 wd2 pl2 l2) := fun h => by
                  rw [edd]
                  show (if canD (widthD M' e2.1) now pl2 l2 = true then some (behindD now (rowD M' e2.1) (widthD M' e2.1) pl2 l2) else none) = _
                  rw [hrw.1, hrw.2, h]
                  rfl
                have hstF : canD wd2 now pl2 l2 = false → stepD M' now (PyData.tuple [.str e.1, .int ((r1 : Int) - 0), if hasNewD ps = true then .int lt else .none, .int (r3 : Nat)]) = none := fun h => by
                  rw [edd]
                  show (if canD (widthD M' e2.1) now pl2 l2 = true then some (behindD now (rowD M' e2.1) (widthD M' e2.1) pl2 l2) else none) = _
                  rw [hrw.1, hrw.2, h]
                  rfl
                refine ⟨_, rfl, rfl, _, rfl, ?_⟩
                rcases hst with ⟨rfl, hrun⟩ | ⟨k, hk1, rfl, hrun⟩
                · refine iteT ⟨_, rfl, _, rfl, _, rfl, _, rfl, cl, _, _, _, rfl, rfl, SqL.of hclU, hlast, ta, Lt, .ref nb, vch, now, rfl, hTU, nowU, by omega, .inr ⟨e2, pl2, l2, hv2, wd2, ps2, hMp.mem_iff.mp em2, ed2, row_parts hrow2, psl2, w02, hch2, hnl2, ?_⟩⟩
                  cases hcan : canD wd2 now pl2 l2 with
                  | true =>
                    have hst2 := hstT hcan
                    rw [if_pos rfl]
                    intro nb2 HV sV now2U
                    have pz : 0 ≤ pl2 := by
                      unfold canD at hcan
                      rw [Bool.and_eq_true] at hcan
                      exact of_decide_eq_true hcan.1
                    have bl := behind_len2 (t := now) (ps := ps2) (l := l2) pz w02
                    have hstep := hst2
                    (
                      refine ⟨_, rfl, rfl, _, rfl, iteF ⟨_, rfl, by show 2 ≤ sizeLine; decide, fun tp htp => ⟨tp, _, rfl, SqT.of upd_same, rfl, _, _, rfl, _, _, rfl, rfl, ?_⟩⟩⟩
                      have sP : Same HV (upd HV tp (.tup [.non, .ref nb2])) := same_upd (Same.refl _) htp
                      refine ⟨⟨_, _, _, _, _, _, rfl, vs ++ [_], ds ++ [_], (behindD now ps2 wd2 pl2 l2), sP _ _ (sV _ _ hclU), dpAll_same (sV.trans sP) haU, flU, lenU, okU, now2U.same sP, by omega, .inl ⟨rfl, ?_⟩⟩, s16U.trans (sV.trans sP)⟩
                      rw [runD_snoc, hrun]
                      show (match stepD M' now (PyData.tuple [.str e.1, .int ((r1 : Int) - 0), if hasNewD ps = true then .int lt else .none, .int (r3 : Nat)]) with | some t'' => Sum.inr t'' | none => Sum.inl (0 + ds.length)) = _
                      rw [hstep]
                    )
                  | false =>
                    have hst2 := hstF hcan
                    rw [if_neg (by simp)]
                    refine ⟨_, rfl, rfl, _, rfl, iteT ⟨_, rfl, _, rfl, by show 2 ≤ sizeLine; decide, fun tp htp => ⟨tp, _, rfl, SqT.of upd_same, rfl, _, _, rfl, _, _, rfl, rfl, ?_⟩⟩⟩
                    have sP : Same HU (upd HU tp (.tup [.int (0 + (i : Nat)), .ref nb])) := same_upd (Same.refl _) htp
                    refine ⟨⟨_, _, _, _, _, _, rfl, vs ++ [vch], ds ++ [(PyData.tuple [.str e.1, .int ((r1 : Int) - 0), if hasNewD ps = true then .int lt else .none, .int (r3 : Nat)])], now, sP _ _ hclU, dpAll_same sP haU, flU, lenU, okU, nowU.same sP, by omega, .inr ⟨i, by omega, (by show V.int (0 + (i : Nat)) = V.int (i : Nat); rw [Int.zero_add]), ?_⟩⟩, s16U.trans sP⟩
                    rw [runD_snoc, hrun]
                    show (match stepD M' now (PyData.tuple [.str e.1, .int ((r1 : Int) - 0), if hasNewD ps = true then .int lt else .none, .int (r3 : Nat)]) with | some t'' => Sum.inr t'' | none => Sum.inl (0 + ds.length)) = _
                    rw [hst2, h4, Nat.zero_add]
                · (
                    refine iteF ⟨⟨_, _, _, _, _, _, rfl, vs ++ [_], ds ++ [_], now, hclU, haU, flU, lenU, okU, nowU, by omega, .inr ⟨k, by omega, rfl, ?_⟩⟩, s16U⟩
                    rw [runD_snoc, hrun]
                  )
              )
            · have hvd : Dp K H9 V.non PyData.none := .non
              have hokd : okC M' .none = true := rfl
              have hfl : flatD .none = true := rfl
              (
                (
                  have hcl9 := sT _ _ h1
                  have ha9 := dpAll_same sT h2
                  refine ⟨cl, _, _, rfl, rfl, hcl9, by rw [all_len h2]; exact small1000 (by omega), ?_⟩
                  have s16U : Same H16 (upd H9 cl (.lst (vs ++ [V.non]))) := same_upd' (sH.trans sT) hcl
                  have hclU : (upd H9 cl (.lst (vs ++ [V.non]))) cl = some (.lst (vs ++ [V.non])) := upd_same
                  have haU : DpAll K (upd H9 cl (.lst (vs ++ [V.non]))) (vs ++ [V.non]) (ds ++ [PyData.none]) := dpAll_at hcl9 (dpAll_snoc hvd ha9) (flat_snoc hfl h3)
                  have hvdU : Dp K (upd H9 cl (.lst (vs ++ [V.non]))) V.non PyData.none := dp_at hcl9 hvd hfl
                  have nowU : TextAt K (upd H9 cl (.lst (vs ++ [V.non]))) (.ref nb) now := TextAt.updL hcl9 (TextAt.same ⟨nb, rfl, hnb⟩ sT)
                  have okU : ∀ d ∈ ds ++ [PyData.none], okC M' d = true := fun d hd => (List.mem_append.mp hd).elim (h5 d) fun z => by rw [List.mem_singleton.mp z]; exact hokd
                  have lenU : (ds ++ [PyData.none]).length = i + 1 := by rw [List.length_append, h4]; rfl
                  have flU : flatAll (ds ++ [PyData.none]) = true := flat_snoc hfl h3
                  have hkU := hk16.same s16U
                  have hTU := hT16.same s16U
                  have hlast : atI (vs ++ [V.non]) (-1) = some V.non := at_last (by simp)
                  generalize upd H9 cl (.lst (vs ++ [V.non])) = HU at s16U hclU haU hvdU nowU hkU hTU ⊢
                  clear hcl9 ha9
                )
                refine ⟨_, rfl, rfl, _, rfl, ?_⟩
                rcases hst with ⟨rfl, hrun⟩ | ⟨k, hk1, rfl, hrun⟩
                · refine iteT ⟨_, rfl, _, rfl, _, rfl, _, rfl, cl, _, _, _, rfl, rfl, SqL.of hclU, hlast, ta, Lt, .ref nb, .non, now, rfl, hTU, nowU, by omega, .inl ⟨rfl, ?_⟩⟩
                  have sV := Same.refl HU
                  have now2U := nowU
                  have hstep : stepD M' now .none = some now := rfl
                  (
                    refine ⟨_, rfl, rfl, _, rfl, iteF ⟨_, rfl, by show 2 ≤ sizeLine; decide, fun tp htp => ⟨tp, _, rfl, SqT.of upd_same, rfl, _, _, rfl, _, _, rfl, rfl, ?_⟩⟩⟩
                    have sP : Same HU (upd HU tp (.tup [.non, .ref nb])) := same_upd (Same.refl _) htp
                    refine ⟨⟨_, _, _, _, _, _, rfl, vs ++ [_], ds ++ [_], now, sP _ _ (sV _ _ hclU), dpAll_same (sV.trans sP) haU, flU, lenU, okU, now2U.same sP, by omega, .inl ⟨rfl, ?_⟩⟩, s16U.trans (sV.trans sP)⟩
                    rw [runD_snoc, hrun]
                    show (match stepD M' now PyData.none with | some t'' => Sum.inr t'' | none => Sum.inl (0 + ds.length)) = _
                    rw [hstep]
                  )
                · (
                    refine iteF ⟨⟨_, _, _, _, _, _, rfl, vs ++ [_], ds ++ [_], now, hclU, haU, flU, lenU, okU, nowU, by omega, .inr ⟨k, by omega, rfl, ?_⟩⟩, s16U⟩
                    rw [runD_snoc, hrun]
                  )
              )
          )
      case after =>
        rintro σ HH ⟨⟨x4, x9, x10, x11, nowV, stopV, rfl, hLI⟩, sH⟩
        obtain ⟨vs, ds, now, h1, h2, h3, h4, h5, ⟨nb, rfl, hnb⟩, h7, hst⟩ := hLI
        have hkE := hk16.same sH
        have hTE := hT16.same sH
        have hdrE := hdr16.same sH
        have htE := htext.same sH
        have hTabE : Tabs (tabsT P1 P2 P3) HH := tabs_same (s016.trans sH) hT
        have hbad := badC_none (i := 0) h5
        have hnmM : ∀ e ∈ M', e.1 ∈ nm5 := fun e he => hG.nm e (hMp.mem_iff.mp he)
        have hshD : SeqAt.shaped (.list ds) = true := shaped_all fun d hd => change_shape hnmM (h5 d hd)
        have hnow : TextAt K HH (.ref nb) now := ⟨nb, rfl, hnb⟩
        clear htext hk16 hT16 hdr16 hnb
        rcases hst with ⟨rfl, hrun⟩ | ⟨k, hk1, rfl, hrun⟩
        · refine ⟨_, rfl, rfl, _, rfl, iteT ?_⟩
          refine ⟨_, rfl, _, rfl, _, rfl, .ref kp, .ref tx, .ref cl, rfl, .inr ⟨kp, M', rfl, hkE, .inr ⟨textL nt, htE, htok, by omega, .inr ⟨ds, ⟨.list ds, .lst (SqL.of h1) h2, .inl rfl⟩, by omega, ?_⟩⟩⟩⟩
          rw [hbad, hrun]
          intro v1 HF1 sF1 hv1
          refine ⟨_, rfl, _, _, hv1.dp, (hnow.same sF1).dp, shaped_text now, shaped_text now, _, rfl, ?_⟩
          rw [eqv_one (shaped_text now)]
          refine iteF ?_
          refine ⟨_, rfl, _, rfl, _, rfl, cl, _, rfl, .inl ⟨SqL.of (sF1 _ _ h1), fun tc htc => ?_⟩⟩
          have sF2 := sF1.trans (same_upd (o := .tup vs) (Same.refl HF1) htc)
          have htc2 : (upd HF1 tc (.tup vs)) tc = some (.tup vs) := upd_same
          generalize upd HF1 tc (.tup vs) = HF2 at sF2 htc2 ⊢
          refine ⟨.ref kp, .ref tx, .ref tc, rfl, .inr ⟨kp, M', rfl, hkE.same sF2, .inr ⟨textL nt, htE.same sF2, htok, by omega, .inr ⟨ds, ⟨.tuple ds, .tup (SqT.of htc2) (dpAll_same sF2 h2), .inr rfl⟩, by omega, ?_⟩⟩⟩⟩
          rw [hbad, hrun]
          intro v3 HF3 sF3 hv3
          have sF := sF2.trans sF3
          refine ⟨_, rfl, _, _, hv3.dp, (hnow.same sF).dp, shaped_text now, shaped_text now, _, rfl, ?_⟩
          rw [eqv_one (shaped_text now)]
          refine iteF ?_
          refine ⟨_, rfl, rfl, _, rfl, iteF ?_⟩
          have sS : Ss (tabsT P1 P2 P3) HH HF3 := ss_of sF
          have hfirst : (!decide (V.non = V.int 0)) = true → ∀ d r, ds = d :: r → ∃ t1, stepD M' (textL nt) d = some t1 := fun _ d r e => first_step (r := r) (by rw [← e, hrun]; exact fun z => nomatch z)
          generalize HF3 = HF at sS ⊢
          (
            refine ⟨_, rfl, by show 0 ≤ sizeLine; decide, fun el hel => ?_⟩
            have sG : Same HF (upd HF el (.lst [])) := same_upd (Same.refl _) hel
            have hclF := sS.n _ _ h1 (fun _ z => nomatch z)
            refine ⟨.list ds, .list [], .lst (SqL.of (sG _ _ hclF)) (dpAll_same sG (dpAll_n sS.n h2)), .lst (SqL.of upd_same) .nil, hshD, by decide +kernel, _, rfl, ?_⟩
            generalize upd HF el (.lst []) = HG at sG ⊢
            have sSG : Ss (tabsT P1 P2 P3) HH HG := sS.trans (ss_of sG)
            have hclG := sSG.n _ _ h1 (fun _ z => nomatch z)
            have h2G := dpAll_n sSG.n h2
            cases hds : ds with
            | nil =>
              refine iteF ?_
              (
                have sZ0 := sSG
                refine ⟨_, rfl, .ref dr, rfl, hdrE.n sZ0.n, sZ0.t hTabE, fun HY sY => ⟨_, rfl, iteT ?_⟩⟩
                have sZY := sZ0.trans sY
                refine ⟨_, rfl, _, rfl, kp, ta, M', Lt, rfl, hkE.n sZY.n, hTE.n sZY.n, hG, hMp, hpos, sZY.t hTabE, fun HX sX => ⟨_, rfl, iteT ?_⟩⟩
                have sX' := sZY.trans sX
                refine ⟨_, rfl, _, rfl, .ref kp, .ref tx, .non, rfl, fun l HL sL hl => ⟨.ref kp, .ref tx, .ref l, rfl, .inr ⟨kp, M', rfl, (hkE.n sX'.n).same sL, .inr ⟨textL nt, (htE.n sX'.n).same sL, htok, by omega, .inr ⟨[.none], ⟨.list [.none], .lst (SqL.of hl) (.cons .non .nil), .inl rfl⟩, by show 1 ≤ 6; omega, fun v' H' s' ht' => ?_⟩⟩⟩⟩⟩
                refine ⟨_, rfl, _, _, ht'.dp, (((htE.n sX'.n).same sL).same s').dp, shaped_text _, shaped_text _, ?_⟩
                rw [eqv_one (shaped_text _)]
                exact q _
              )
            | cons d0 r =>
              refine iteT ⟨_, rfl, rfl, _, rfl, ?_⟩
              refine ite2 (fun c => ?_) (fun c => ?_)
              · obtain ⟨t1, ht1⟩ := hfirst c d0 r hds
                have ok0 := h5 d0 (by rw [hds]; exact List.mem_cons_self)
                obtain ⟨v0, hv0, hd0⟩ := all_ix h2G 0 d0 (by rw [hds]; rfl)
                have hb0 : badC M' 0 [d0] = none := badC_none fun d hd => by rw [List.mem_singleton.mp hd]; exact ok0
                have hr0 : runD M' 0 (textL nt) [d0] = .inr t1 := by rw [runD_some ht1]; rfl
                refine ⟨_, rfl, _, rfl, _, rfl, cl, _, 0, v0, rfl, rfl, SqL.of hclG, atI_nat hv0, .ref kp, .ref tx, v0, rfl, fun l HL sL hl => ⟨.ref kp, .ref tx, .ref l, rfl, .inr ⟨kp, M', rfl, (hkE.n sSG.n).same sL, .inr ⟨textL nt, (htE.n sSG.n).same sL, htok, by omega, .inr ⟨[d0], ⟨.list [d0], .lst (SqL.of hl) (.cons (dp_same sL hd0) .nil), .inl rfl⟩, by show 1 ≤ 6; omega, ?_⟩⟩⟩⟩⟩
                rw [hb0, hr0]
                intro v1 HV sV hv1
                have sSV := sSG.trans (ss_of (sL.trans sV))
                have hclV := sSV.n _ _ h1 (fun _ z => nomatch z)
                refine ⟨_, rfl, _, rfl, _, rfl, cl, _, 0, v0, rfl, rfl, SqL.of hclV, atI_nat hv0, ta, Lt, .ref tx, v0, textL nt, rfl, hTE.n sSV.n, htE.n sSV.n, by omega, ?_⟩
                have hd0V := dp_same (sL.trans sV) hd0
                cases hn0 : noneD d0 with
                | true =>
                  have e0 : d0 = .none := by cases d0 <;> first | rfl | (simp [noneD] at hn0)
                  subst e0
                  cases hd0V
                  have et : textL nt = t1 := Option.some.inj ht1
                  refine .inl ⟨rfl, ?_⟩
                  have sSW := sSV
                  have hb1 := htE.n sSV.n
                  rw [← et] at hv1
                  (
                    refine ⟨_, _, hv1.dp, hb1.dp, shaped_text _, shaped_text _, _, rfl, ?_⟩
                    rw [eqv_one (shaped_text _)]
                    refine iteF ?_
                    (
                      have sZ0 := sSW
                      refine ⟨_, rfl, .ref dr, rfl, hdrE.n sZ0.n, sZ0.t hTabE, fun HY sY => ⟨_, rfl, iteT ?_⟩⟩
                      have sZY := sZ0.trans sY
                      refine ⟨_, rfl, _, rfl, kp, ta, M', Lt, rfl, hkE.n sZY.n, hTE.n sZY.n, hG, hMp, hpos, sZY.t hTabE, fun HX sX => ⟨_, rfl, iteT ?_⟩⟩
                      have sX' := sZY.trans sX
                      refine ⟨_, rfl, _, rfl, .ref kp, .ref tx, .non, rfl, fun l HL sL hl => ⟨.ref kp, .ref tx, .ref l, rfl, .inr ⟨kp, M', rfl, (hkE.n sX'.n).same sL, .inr ⟨textL nt, (htE.n sX'.n).same sL, htok, by omega, .inr ⟨[.none], ⟨.list [.none], .lst (SqL.of hl) (.cons .non .nil), .inl rfl⟩, by show 1 ≤ 6; omega, fun v' H' s' ht' => ?_⟩⟩⟩⟩⟩
                      refine ⟨_, rfl, _, _, ht'.dp, (((htE.n sX'.n).same sL).same s').dp, shaped_text _, shaped_text _, ?_⟩
                      rw [eqv_one (shaped_text _)]
                      exact q _
                    )
                  )
                | false =>
                  have ic : isChangeD M' d0 = true := by
                    have z := ok0
                    unfold okC at z
                    rw [hn0, Bool.false_or] at z
                    exact z
                  obtain ⟨e2, pl2, l2, hd2, wd2, ps2, hv2, em2, edd, ed2, w02, psl2, hnl2, hch2⟩ := change_form (hkE.n sSV.n) ic hd0V
                  obtain ⟨wd3, ps3, ed3, _, _, hrow2⟩ := kind_form (hkind e2 em2)
                  have ew := ed2.symm.trans ed3
                  cases ew
                  have hrw := rowD_of hD5.ok.nd em2 ed2
                  have hcan : canD wd2 (textL nt) pl2 l2 = true ∧ t1 = behindD (textL nt) ps2 wd2 pl2 l2 := by
                    have z := ht1
                    rw [edd] at z
                    have z : (if canD (widthD M' e2.1) (textL nt) pl2 l2 = true then some (behindD (textL nt) (rowD M' e2.1) (widthD M' e2.1) pl2 l2) else none) = some t1 := z
                    rw [hrw.1, hrw.2] at z
                    split at z
                    · rename_i hc
                      exact ⟨hc, (Option.some.inj z).symm⟩
                    · cases z
                  refine .inr ⟨e2, pl2, l2, hv2, wd2, ps2, hMp.mem_iff.mp em2, ed2, row_parts hrow2, psl2, w02, hch2, hnl2, ?_⟩
                  rw [hcan.1, if_pos rfl, ← hcan.2]
                  intro b1 HW sW hb1
                  have sSW := sSV.trans (ss_of sW)
                  have hv1 := hv1.same sW
                  (
                    refine ⟨_, _, hv1.dp, hb1.dp, shaped_text _, shaped_text _, _, rfl, ?_⟩
                    rw [eqv_one (shaped_text _)]
                    refine iteF ?_
                    (
                      have sZ0 := sSW
                      refine ⟨_, rfl, .ref dr, rfl, hdrE.n sZ0.n, sZ0.t hTabE, fun HY sY => ⟨_, rfl, iteT ?_⟩⟩
                      have sZY := sZ0.trans sY
                      refine ⟨_, rfl, _, rfl, kp, ta, M', Lt, rfl, hkE.n sZY.n, hTE.n sZY.n, hG, hMp, hpos, sZY.t hTabE, fun HX sX => ⟨_, rfl, iteT ?_⟩⟩
                      have sX' := sZY.trans sX
                      refine ⟨_, rfl, _, rfl, .ref kp, .ref tx, .non, rfl, fun l HL sL hl => ⟨.ref kp, .ref tx, .ref l, rfl, .inr ⟨kp, M', rfl, (hkE.n sX'.n).same sL, .inr ⟨textL nt, (htE.n sX'.n).same sL, htok, by omega, .inr ⟨[.none], ⟨.list [.none], .lst (SqL.of hl) (.cons .non .nil), .inl rfl⟩, by show 1 ≤ 6; omega, fun v' H' s' ht' => ?_⟩⟩⟩⟩⟩
                      refine ⟨_, rfl, _, _, ht'.dp, (((htE.n sX'.n).same sL).same s').dp, shaped_text _, shaped_text _, ?_⟩
                      rw [eqv_one (shaped_text _)]
                      exact q _
                    )
                  )
              · (
                  have sZ0 := sSG
                  refine ⟨_, rfl, .ref dr, rfl, hdrE.n sZ0.n, sZ0.t hTabE, fun HY sY => ⟨_, rfl, iteT ?_⟩⟩
                  have sZY := sZ0.trans sY
                  refine ⟨_, rfl, _, rfl, kp, ta, M', Lt, rfl, hkE.n sZY.n, hTE.n sZY.n, hG, hMp, hpos, sZY.t hTabE, fun HX sX => ⟨_, rfl, iteT ?_⟩⟩
                  have sX' := sZY.trans sX
                  refine ⟨_, rfl, _, rfl, .ref kp, .ref tx, .non, rfl, fun l HL sL hl => ⟨.ref kp, .ref tx, .ref l, rfl, .inr ⟨kp, M', rfl, (hkE.n sX'.n).same sL, .inr ⟨textL nt, (htE.n sX'.n).same sL, htok, by omega, .inr ⟨[.none], ⟨.list [.none], .lst (SqL.of hl) (.cons .non .nil), .inl rfl⟩, by show 1 ≤ 6; omega, fun v' H' s' ht' => ?_⟩⟩⟩⟩⟩
                  refine ⟨_, rfl, _, _, ht'.dp, (((htE.n sX'.n).same sL).same s').dp, shaped_text _, shaped_text _, ?_⟩
                  rw [eqv_one (shaped_text _)]
                  exact q _
                )
          )
        · refine ⟨_, rfl, rfl, _, rfl, iteF ?_⟩
          refine ⟨_, rfl, rfl, _, rfl, iteT ?_⟩
          refine ⟨hTabE, fun f c' HB1 eN T1 f0 back f1 c1 => ⟨f, _, ["changes", "kinds", "text"], ["changes", "kinds", "text"], [12, 13, 14], fun E => tCall (spDoneAll T) [] E (tCons (tVar 1) (tCons (tVar 2) (tCons (tVar 0) tNil))), rfl,
            ⟨nscope_by (by dsimp only; decide +kernel), fun _ _ => rfl, fun f A outer s H E hr => (pe_call (ok_done_all T) (hr.mono (by decide)) (by rfl) T.done_all.m T.done_all.f.kp T.done_all.b .nil pN (pa_cons (pv 1) (pa_cons (pv 2) (pa_cons (pv 0) pa_nil)))), fun ok => Caps.made ok (lamS_by (sc := defScope s_law) (by decide +kernel)).free (by decide +kernel) rfl⟩, fun E' hE' => ⟨f1, c1, ?_⟩⟩⟩
          refine ⟨_, rfl, _, rfl, _, rfl, .ref kp, .ref tx, .ref cl, rfl, .inr ⟨kp, M', rfl, hkE.n eN, .inr ⟨textL nt, htE.n eN, htok, by omega, .inr ⟨ds, ⟨.list ds, .lst (SqL.of (eN _ _ h1 (fun _ z => nomatch z))) (dpAll_n eN h2), .inl rfl⟩, by omega, ?_⟩⟩⟩⟩
          rw [hbad, hrun]
          refine r_cannot T hE' (fun tv HB2 sB2 htv => ?_) (fun _ => .int _)
          refine ⟨_, rfl, by show 2 ≤ sizeLine; decide, fun tp htp => ?_⟩
          have sP : Same HB2 (upd HB2 tp (.tup [.str "cannot", .int (k : Nat)])) := same_upd (Same.refl _) htp
          have shk : SeqAt.shaped (.tuple [.str "cannot", .int (k : Nat)]) = true := by
            unfold SeqAt.shaped
            have hc : PyData.strOk "cannot" = true := by decide +kernel
            simp only [PyData.canLay0, PyData.canLayAll0, PyData.depth, PyData.depthAll, hc]
            rfl
          refine ⟨_, _, dp_same sP htv, .tup (SqT.of upd_same) (.cons (.str _) (.cons (.int _) .nil)), shk, shk, _, rfl, ?_⟩
          rw [eqv_one shk]
          refine iteF ?_
          have sS : Ss (tabsT P1 P2 P3) HH (upd HB2 tp (.tup [.str "cannot", .int (k : Nat)])) := (⟨eN, fun _ => T1⟩ : Ss (tabsT P1 P2 P3) HH HB1).trans (ss_of (sB2.trans sP))
          have hfirst : (!decide (V.int (k : Nat) = V.int 0)) = true → ∀ d r, ds = d :: r → ∃ t1, stepD M' (textL nt) d = some t1 := fun c d r e => first_step (r := r) (by
            rw [← e, hrun]
            intro z
            have z : k = 0 := Sum.inl.inj z
            subst z
            simp at c)
          generalize upd HB2 tp (.tup [.str "cannot", .int (k : Nat)]) = HF at sS ⊢
          (
            refine ⟨_, rfl, by show 0 ≤ sizeLine; decide, fun el hel => ?_⟩
            have sG : Same HF (upd HF el (.lst [])) := same_upd (Same.refl _) hel
            have hclF := sS.n _ _ h1 (fun _ z => nomatch z)
            refine ⟨.list ds, .list [], .lst (SqL.of (sG _ _ hclF)) (dpAll_same sG (dpAll_n sS.n h2)), .lst (SqL.of upd_same) .nil, hshD, by decide +kernel, _, rfl, ?_⟩
            generalize upd HF el (.lst []) = HG at sG ⊢
            have sSG : Ss (tabsT P1 P2 P3) HH HG := sS.trans (ss_of sG)
            have hclG := sSG.n _ _ h1 (fun _ z => nomatch z)
            have h2G := dpAll_n sSG.n h2
            cases hds : ds with
            | nil =>
              refine iteF ?_
              (
                have sZ0 := sSG
                refine ⟨_, rfl, .ref dr, rfl, hdrE.n sZ0.n, sZ0.t hTabE, fun HY sY => ⟨_, rfl, iteT ?_⟩⟩
                have sZY := sZ0.trans sY
                refine ⟨_, rfl, _, rfl, kp, ta, M', Lt, rfl, hkE.n sZY.n, hTE.n sZY.n, hG, hMp, hpos, sZY.t hTabE, fun HX sX => ⟨_, rfl, iteT ?_⟩⟩
                have sX' := sZY.trans sX
                refine ⟨_, rfl, _, rfl, .ref kp, .ref tx, .non, rfl, fun l HL sL hl => ⟨.ref kp, .ref tx, .ref l, rfl, .inr ⟨kp, M', rfl, (hkE.n sX'.n).same sL, .inr ⟨textL nt, (htE.n sX'.n).same sL, htok, by omega, .inr ⟨[.none], ⟨.list [.none], .lst (SqL.of hl) (.cons .non .nil), .inl rfl⟩, by show 1 ≤ 6; omega, fun v' H' s' ht' => ?_⟩⟩⟩⟩⟩
                refine ⟨_, rfl, _, _, ht'.dp, (((htE.n sX'.n).same sL).same s').dp, shaped_text _, shaped_text _, ?_⟩
                rw [eqv_one (shaped_text _)]
                exact q _
              )
            | cons d0 r =>
              refine iteT ⟨_, rfl, rfl, _, rfl, ?_⟩
              refine ite2 (fun c => ?_) (fun c => ?_)
              · obtain ⟨t1, ht1⟩ := hfirst c d0 r hds
                have ok0 := h5 d0 (by rw [hds]; exact List.mem_cons_self)
                obtain ⟨v0, hv0, hd0⟩ := all_ix h2G 0 d0 (by rw [hds]; rfl)
                have hb0 : badC M' 0 [d0] = none := badC_none fun d hd => by rw [List.mem_singleton.mp hd]; exact ok0
                have hr0 : runD M' 0 (textL nt) [d0] = .inr t1 := by rw [runD_some ht1]; rfl
                refine ⟨_, rfl, _, rfl, _, rfl, cl, _, 0, v0, rfl, rfl, SqL.of hclG, atI_nat hv0, .ref kp, .ref tx, v0, rfl, fun l HL sL hl => ⟨.ref kp, .ref tx, .ref l, rfl, .inr ⟨kp, M', rfl, (hkE.n sSG.n).same sL, .inr ⟨textL nt, (htE.n sSG.n).same sL, htok, by omega, .inr ⟨[d0], ⟨.list [d0], .lst (SqL.of hl) (.cons (dp_same sL hd0) .nil), .inl rfl⟩, by show 1 ≤ 6; omega, ?_⟩⟩⟩⟩⟩
                rw [hb0, hr0]
                intro v1 HV sV hv1
                have sSV := sSG.trans (ss_of (sL.trans sV))
                have hclV := sSV.n _ _ h1 (fun _ z => nomatch z)
                refine ⟨_, rfl, _, rfl, _, rfl, cl, _, 0, v0, rfl, rfl, SqL.of hclV, atI_nat hv0, ta, Lt, .ref tx, v0, textL nt, rfl, hTE.n sSV.n, htE.n sSV.n, by omega, ?_⟩
                have hd0V := dp_same (sL.trans sV) hd0
                cases hn0 : noneD d0 with
                | true =>
                  have e0 : d0 = .none := by cases d0 <;> first | rfl | (simp [noneD] at hn0)
                  subst e0
                  cases hd0V
                  have et : textL nt = t1 := Option.some.inj ht1
                  refine .inl ⟨rfl, ?_⟩
                  have sSW := sSV
                  have hb1 := htE.n sSV.n
                  rw [← et] at hv1
                  (
                    refine ⟨_, _, hv1.dp, hb1.dp, shaped_text _, shaped_text _, _, rfl, ?_⟩
                    rw [eqv_one (shaped_text _)]
                    refine iteF ?_
                    (
                      have sZ0 := sSW
                      refine ⟨_, rfl, .ref dr, rfl, hdrE.n sZ0.n, sZ0.t hTabE, fun HY sY => ⟨_, rfl, iteT ?_⟩⟩
                      have sZY := sZ0.trans sY
                      refine ⟨_, rfl, _, rfl, kp, ta, M', Lt, rfl, hkE.n sZY.n, hTE.n sZY.n, hG, hMp, hpos, sZY.t hTabE, fun HX sX => ⟨_, rfl, iteT ?_⟩⟩
                      have sX' := sZY.trans sX
                      refine ⟨_, rfl, _, rfl, .ref kp, .ref tx, .non, rfl, fun l HL sL hl => ⟨.ref kp, .ref tx, .ref l, rfl, .inr ⟨kp, M', rfl, (hkE.n sX'.n).same sL, .inr ⟨textL nt, (htE.n sX'.n).same sL, htok, by omega, .inr ⟨[.none], ⟨.list [.none], .lst (SqL.of hl) (.cons .non .nil), .inl rfl⟩, by show 1 ≤ 6; omega, fun v' H' s' ht' => ?_⟩⟩⟩⟩⟩
                      refine ⟨_, rfl, _, _, ht'.dp, (((htE.n sX'.n).same sL).same s').dp, shaped_text _, shaped_text _, ?_⟩
                      rw [eqv_one (shaped_text _)]
                      exact q _
                    )
                  )
                | false =>
                  have ic : isChangeD M' d0 = true := by
                    have z := ok0
                    unfold okC at z
                    rw [hn0, Bool.false_or] at z
                    exact z
                  obtain ⟨e2, pl2, l2, hd2, wd2, ps2, hv2, em2, edd, ed2, w02, psl2, hnl2, hch2⟩ := change_form (hkE.n sSV.n) ic hd0V
                  obtain ⟨wd3, ps3, ed3, _, _, hrow2⟩ := kind_form (hkind e2 em2)
                  have ew := ed2.symm.trans ed3
                  cases ew
                  have hrw := rowD_of hD5.ok.nd em2 ed2
                  have hcan : canD wd2 (textL nt) pl2 l2 = true ∧ t1 = behindD (textL nt) ps2 wd2 pl2 l2 := by
                    have z := ht1
                    rw [edd] at z
                    have z : (if canD (widthD M' e2.1) (textL nt) pl2 l2 = true then some (behindD (textL nt) (rowD M' e2.1) (widthD M' e2.1) pl2 l2) else none) = some t1 := z
                    rw [hrw.1, hrw.2] at z
                    split at z
                    · rename_i hc
                      exact ⟨hc, (Option.some.inj z).symm⟩
                    · cases z
                  refine .inr ⟨e2, pl2, l2, hv2, wd2, ps2, hMp.mem_iff.mp em2, ed2, row_parts hrow2, psl2, w02, hch2, hnl2, ?_⟩
                  rw [hcan.1, if_pos rfl, ← hcan.2]
                  intro b1 HW sW hb1
                  have sSW := sSV.trans (ss_of sW)
                  have hv1 := hv1.same sW
                  (
                    refine ⟨_, _, hv1.dp, hb1.dp, shaped_text _, shaped_text _, _, rfl, ?_⟩
                    rw [eqv_one (shaped_text _)]
                    refine iteF ?_
                    (
                      have sZ0 := sSW
                      refine ⟨_, rfl, .ref dr, rfl, hdrE.n sZ0.n, sZ0.t hTabE, fun HY sY => ⟨_, rfl, iteT ?_⟩⟩
                      have sZY := sZ0.trans sY
                      refine ⟨_, rfl, _, rfl, kp, ta, M', Lt, rfl, hkE.n sZY.n, hTE.n sZY.n, hG, hMp, hpos, sZY.t hTabE, fun HX sX => ⟨_, rfl, iteT ?_⟩⟩
                      have sX' := sZY.trans sX
                      refine ⟨_, rfl, _, rfl, .ref kp, .ref tx, .non, rfl, fun l HL sL hl => ⟨.ref kp, .ref tx, .ref l, rfl, .inr ⟨kp, M', rfl, (hkE.n sX'.n).same sL, .inr ⟨textL nt, (htE.n sX'.n).same sL, htok, by omega, .inr ⟨[.none], ⟨.list [.none], .lst (SqL.of hl) (.cons .non .nil), .inl rfl⟩, by show 1 ≤ 6; omega, fun v' H' s' ht' => ?_⟩⟩⟩⟩⟩
                      refine ⟨_, rfl, _, _, ht'.dp, (((htE.n sX'.n).same sL).same s').dp, shaped_text _, shaped_text _, ?_⟩
                      rw [eqv_one (shaped_text _)]
                      exact q _
                    )
                  )
              · (
                  have sZ0 := sSG
                  refine ⟨_, rfl, .ref dr, rfl, hdrE.n sZ0.n, sZ0.t hTabE, fun HY sY => ⟨_, rfl, iteT ?_⟩⟩
                  have sZY := sZ0.trans sY
                  refine ⟨_, rfl, _, rfl, kp, ta, M', Lt, rfl, hkE.n sZY.n, hTE.n sZY.n, hG, hMp, hpos, sZY.t hTabE, fun HX sX => ⟨_, rfl, iteT ?_⟩⟩
                  have sX' := sZY.trans sX
                  refine ⟨_, rfl, _, rfl, .ref kp, .ref tx, .non, rfl, fun l HL sL hl => ⟨.ref kp, .ref tx, .ref l, rfl, .inr ⟨kp, M', rfl, (hkE.n sX'.n).same sL, .inr ⟨textL nt, (htE.n sX'.n).same sL, htok, by omega, .inr ⟨[.none], ⟨.list [.none], .lst (SqL.of hl) (.cons .non .nil), .inl rfl⟩, by show 1 ≤ 6; omega, fun v' H' s' ht' => ?_⟩⟩⟩⟩⟩
                  refine ⟨_, rfl, _, _, ht'.dp, (((htE.n sX'.n).same sL).same s').dp, shaped_text _, shaped_text _, ?_⟩
                  rw [eqv_one (shaped_text _)]
                  exact q _
                )
          )
end
end K41

end

section
set_option Elab.async false
set_option linter.all false
set_option maxRecDepth 100000
/-! The end. -/
namespace K41
open PySem PySem.Spec PyProof.Rows L2 KX LamX NdefX
theorem end_of {l : PySem.W.OpenLaw} {w : World} {K : PySem.W.Frag} {mg : Str → Option Value} {fa : Addr} {h : Heap} (L : TopL K mg 341 346 351) (KX : K.In h) (hmg : mg "law" = some (.ref fa)) (tabs : ∀ P ∈ ([346, 341, 351] : List Addr), h.get? P = some (PySem.W.tabObj #[])) :
    LamX.LawAtS l w K CX0 24 63 "script" mg fa h := by
  have ea : L.T.law_.a = fa := by
    have := L.T.law_.m
    rw [hmg] at this
    exact (Value.ref.inj (Option.some.inj this)).symm
  refine ⟨L.T.law_.d, [(L.kr.c, 341), (L.rf.c, 346), (L.lw.c, 351)], spLaw K (tabsT 341 346 351), ?_, ?_, ?_, ?_, ?_, ?_⟩
  · intro p hp
    simp only [List.mem_cons, List.not_mem_nil, or_false] at hp
    rcases hp with rfl | rfl | rfl
    · exact tabs 341 (by simp)
    · exact tabs 346 (by simp)
    · exact tabs 351 (by simp)
  · intro p hp
    simp only [List.mem_cons, List.not_mem_nil, or_false] at hp
    rcases hp with rfl | rfl | rfl
    · exact L.kr.out
    · exact L.rf.out
    · exact L.lw.out
  · intro p hp
    simp only [List.mem_cons, List.not_mem_nil, or_false] at hp
    rcases hp with rfl | rfl | rfl
    · exact PySem.W.codeHd_of_K KX L.kr.hd
    · exact PySem.W.codeHd_of_K KX L.rf.hd
    · exact PySem.W.codeHd_of_K KX L.lw.hd
  · intro s u
    obtain ⟨oc, od, kV, doc, pm, an, ct, osl, efd, lk, hcd⟩ := L.lw.ex
    rw [efd]
    exact BindsTo.of_eq rfl
  · intro H a ns hn hb ht hs
    refine ⟨a, ns, rfl, hs, hn, fun p hp => ?_, fun _ => rfl⟩
    simp only [tabsT, List.mem_cons, List.not_mem_nil, or_false] at hp
    have ok : ∀ P, (∃ c, (c, P) ∈ [(L.kr.c, 341), (L.rf.c, 346), (L.lw.c, 351)]) → ∀ q, TabS H P q := fun P ⟨c, hc⟩ q => ⟨#[], ht _ hc, by first | trivial | exact .nil | (intro z hz; cases hz), fun pos cv e => by cases e⟩
    rcases hp with rfl | rfl | rfl
    · exact ok _ ⟨L.kr.c, by simp⟩ _
    · exact ok _ ⟨L.rf.c, by simp⟩ _
    · exact ok _ ⟨L.lw.c, by simp⟩ _
  · intro base _ _ hT
    rw [← ea]
    exact ok_law L (hT (L.lw.c, 351) (by simp)) (hT (L.kr.c, 341) (by simp)) (hT (L.rf.c, 346) (by simp)) (by decide) (by decide) (by decide)
end K41

end

section
set_option maxHeartbeats 8000000
set_option Elab.async false
set_option linter.all false
set_option maxRecDepth 100000
namespace K41
open PySem PySem.Spec PyProof.Rows L2 KX
theorem kit_of {K : PySem.W.Frag} {t : Value} {C : Addr} {b : Bool} (hc : PySem.W.isClsIn K C = true) (ht : PySem.W.typeIn K (.ref C) = some (.type "type")) (hs : PySem.W.subIn K t (.ref C) = some b) (ne : b = false → (t == Value.ref C) = false) : PySem.W.kitOne K t (.ref C) = some b := by
  unfold PySem.W.kitOne PySem.W.kitCls
  by_cases e : (t == Value.ref C) = true
  · rw [if_pos e]
    cases b
    · rw [ne rfl] at e
      cases e
    · rfl
  · rw [if_neg e]
    have hc : (PySem.W.clsIn K C).isSome = true := hc
    show (if _ then _ else _) = _
    rw [if_pos, hs]
    rw [ht, hc]
    rfl
def top_of {K : PySem.W.Frag} {mg : Str → Option Value} {hp : Heap} (X : K.In hp) (G : hp.Ns mainGlobals mg)
    {f_check_kinds : Addr} {oc_check_kinds kv_check_kinds dc_check_kinds pm_check_kinds cd_check_kinds ct_check_kinds : Value} {od_check_kinds an_check_kinds : Option Addr} {sl_check_kinds : Array (Option Value)}
    {f_needs_letter : Addr} {oc_needs_letter kv_needs_letter dc_needs_letter pm_needs_letter cd_needs_letter ct_needs_letter : Value} {od_needs_letter an_needs_letter : Option Addr} {sl_needs_letter : Array (Option Value)}
    {f_is_whole : Addr} {oc_is_whole kv_is_whole dc_is_whole pm_is_whole cd_is_whole ct_is_whole : Value} {od_is_whole an_is_whole : Option Addr} {sl_is_whole : Array (Option Value)}
    {f_has_names : Addr} {oc_has_names kv_has_names dc_has_names pm_has_names cd_has_names ct_has_names : Value} {od_has_names an_has_names : Option Addr} {sl_has_names : Array (Option Value)}
    {f_is_name : Addr} {oc_is_name kv_is_name dc_is_name pm_is_name cd_is_name ct_is_name : Value} {od_is_name an_is_name : Option Addr} {sl_is_name : Array (Option Value)}
    {f_is_kind : Addr} {oc_is_kind kv_is_kind dc_is_kind pm_is_kind cd_is_kind ct_is_kind : Value} {od_is_kind an_is_kind : Option Addr} {sl_is_kind : Array (Option Value)}
    {f_is_row : Addr} {oc_is_row kv_is_row dc_is_row pm_is_row cd_is_row ct_is_row : Value} {od_is_row an_is_row : Option Addr} {sl_is_row : Array (Option Value)}
    {f_is_part : Addr} {oc_is_part kv_is_part dc_is_part pm_is_part cd_is_part ct_is_part : Value} {od_is_part an_is_part : Option Addr} {sl_is_part : Array (Option Value)}
    {f_done : Addr} {oc_done kv_done dc_done pm_done cd_done ct_done : Value} {od_done an_done : Option Addr} {sl_done : Array (Option Value)}
    {f_done_all : Addr} {oc_done_all kv_done_all dc_done_all pm_done_all cd_done_all ct_done_all : Value} {od_done_all an_done_all : Option Addr} {sl_done_all : Array (Option Value)}
    {f_can_do : Addr} {oc_can_do kv_can_do dc_can_do pm_can_do cd_can_do ct_can_do : Value} {od_can_do an_can_do : Option Addr} {sl_can_do : Array (Option Value)}
    {f_text_behind : Addr} {oc_text_behind kv_text_behind dc_text_behind pm_text_behind cd_text_behind ct_text_behind : Value} {od_text_behind an_text_behind : Option Addr} {sl_text_behind : Array (Option Value)}
    {f_check_text : Addr} {oc_check_text kv_check_text dc_check_text pm_check_text cd_check_text ct_check_text : Value} {od_check_text an_check_text : Option Addr} {sl_check_text : Array (Option Value)}
    {f_check_changes : Addr} {oc_check_changes kv_check_changes dc_check_changes pm_check_changes cd_check_changes ct_check_changes : Value} {od_check_changes an_check_changes : Option Addr} {sl_check_changes : Array (Option Value)}
    {f_is_text : Addr} {oc_is_text kv_is_text dc_is_text pm_is_text cd_is_text ct_is_text : Value} {od_is_text an_is_text : Option Addr} {sl_is_text : Array (Option Value)}
    {f_is_change : Addr} {oc_is_change kv_is_change dc_is_change pm_is_change cd_is_change ct_is_change : Value} {od_is_change an_is_change : Option Addr} {sl_is_change : Array (Option Value)}
    {f__law_number : Addr} {oc__law_number kv__law_number dc__law_number pm__law_number cd__law_number ct__law_number : Value} {od__law_number an__law_number : Option Addr} {sl__law_number : Array (Option Value)}
    {f__law_take : Addr} {oc__law_take kv__law_take dc__law_take pm__law_take cd__law_take ct__law_take : Value} {od__law_take an__law_take : Option Addr} {sl__law_take : Array (Option Value)}
    {f__law_pick : Addr} {oc__law_pick kv__law_pick dc__law_pick pm__law_pick cd__law_pick ct__law_pick : Value} {od__law_pick an__law_pick : Option Addr} {sl__law_pick : Array (Option Value)}
    {f__law_all_kinds : Addr} {oc__law_all_kinds kv__law_all_kinds dc__law_all_kinds pm__law_all_kinds cd__law_all_kinds ct__law_all_kinds : Value} {od__law_all_kinds an__law_all_kinds : Option Addr} {sl__law_all_kinds : Array (Option Value)}
    {f__law_kinds : Addr} {oc__law_kinds kv__law_kinds dc__law_kinds pm__law_kinds cd__law_kinds ct__law_kinds : Value} {od__law_kinds an__law_kinds : Option Addr} {sl__law_kinds : Array (Option Value)}
    {f__law_has_new : Addr} {oc__law_has_new kv__law_has_new dc__law_has_new pm__law_has_new cd__law_has_new ct__law_has_new : Value} {od__law_has_new an__law_has_new : Option Addr} {sl__law_has_new : Array (Option Value)}
    {f__law_do : Addr} {oc__law_do kv__law_do dc__law_do pm__law_do cd__law_do ct__law_do : Value} {od__law_do an__law_do : Option Addr} {sl__law_do : Array (Option Value)}
    {f__law_made : Addr} {oc__law_made kv__law_made dc__law_made pm__law_made cd__law_made ct__law_made : Value} {od__law_made an__law_made : Option Addr} {sl__law_made : Array (Option Value)}
    {f__law_is_kind : Addr} {oc__law_is_kind kv__law_is_kind dc__law_is_kind pm__law_is_kind cd__law_is_kind ct__law_is_kind : Value} {od__law_is_kind an__law_is_kind : Option Addr} {sl__law_is_kind : Array (Option Value)}
    {f__law_thing : Addr} {oc__law_thing kv__law_thing dc__law_thing pm__law_thing cd__law_thing ct__law_thing : Value} {od__law_thing an__law_thing : Option Addr} {sl__law_thing : Array (Option Value)}
    {f__law_told : Addr} {oc__law_told kv__law_told dc__law_told pm__law_told cd__law_told ct__law_told : Value} {od__law_told an__law_told : Option Addr} {sl__law_told : Array (Option Value)}
    {cc__law_kinds_right : Addr} {f__law_kinds_right : Addr} {oc__law_kinds_right kv__law_kinds_right dc__law_kinds_right pm__law_kinds_right ct__law_kinds_right : Value} {od__law_kinds_right an__law_kinds_right : Option Addr} {sl__law_kinds_right : Array (Option Value)}
    {cc__law_refused : Addr} {f__law_refused : Addr} {oc__law_refused kv__law_refused dc__law_refused pm__law_refused ct__law_refused : Value} {od__law_refused an__law_refused : Option Addr} {sl__law_refused : Array (Option Value)}
    {cc_law : Addr} {f_law : Addr} {oc_law kv_law dc_law pm_law ct_law : Value} {od_law an_law : Option Addr} {sl_law : Array (Option Value)}
    {f_BadKinds_init : Addr} {oc_BadKinds_init kv_BadKinds_init dc_BadKinds_init pm_BadKinds_init cd_BadKinds_init ct_BadKinds_init : Value} {od_BadKinds_init an_BadKinds_init : Option Addr} {sl_BadKinds_init : Array (Option Value)}
    {f_BadChange_init : Addr} {oc_BadChange_init kv_BadChange_init dc_BadChange_init pm_BadChange_init cd_BadChange_init ct_BadChange_init : Value} {od_BadChange_init an_BadChange_init : Option Addr} {sl_BadChange_init : Array (Option Value)}
    {f_CannotDo_init : Addr} {oc_CannotDo_init kv_CannotDo_init dc_CannotDo_init pm_CannotDo_init cd_CannotDo_init ct_CannotDo_init : Value} {od_CannotDo_init an_CannotDo_init : Option Addr} {sl_CannotDo_init : Array (Option Value)}
    {f_Kinds_init : Addr} {oc_Kinds_init kv_Kinds_init dc_Kinds_init pm_Kinds_init cd_Kinds_init ct_Kinds_init : Value} {od_Kinds_init an_Kinds_init : Option Addr} {sl_Kinds_init : Array (Option Value)}
    {f_Kinds_getitem : Addr} {oc_Kinds_getitem kv_Kinds_getitem dc_Kinds_getitem pm_Kinds_getitem cd_Kinds_getitem ct_Kinds_getitem : Value} {od_Kinds_getitem an_Kinds_getitem : Option Addr} {sl_Kinds_getitem : Array (Option Value)}
    {f_Kinds_contains : Addr} {oc_Kinds_contains kv_Kinds_contains dc_Kinds_contains pm_Kinds_contains cd_Kinds_contains ct_Kinds_contains : Value} {od_Kinds_contains an_Kinds_contains : Option Addr} {sl_Kinds_contains : Array (Option Value)}
    {f_Kinds_len : Addr} {oc_Kinds_len kv_Kinds_len dc_Kinds_len pm_Kinds_len cd_Kinds_len ct_Kinds_len : Value} {od_Kinds_len an_Kinds_len : Option Addr} {sl_Kinds_len : Array (Option Value)}
    {f_Kinds_eq : Addr} {oc_Kinds_eq kv_Kinds_eq dc_Kinds_eq pm_Kinds_eq cd_Kinds_eq ct_Kinds_eq : Value} {od_Kinds_eq an_Kinds_eq : Option Addr} {sl_Kinds_eq : Array (Option Value)}
    {f_Kinds_names : Addr} {oc_Kinds_names kv_Kinds_names dc_Kinds_names pm_Kinds_names cd_Kinds_names ct_Kinds_names : Value} {od_Kinds_names an_Kinds_names : Option Addr} {sl_Kinds_names : Array (Option Value)}
    {f_Kinds_growth : Addr} {oc_Kinds_growth kv_Kinds_growth dc_Kinds_growth pm_Kinds_growth cd_Kinds_growth ct_Kinds_growth : Value} {od_Kinds_growth an_Kinds_growth : Option Addr} {sl_Kinds_growth : Array (Option Value)}
    {c_ChangeError : Addr}
    {c_BadKinds : Addr}
    {c_BadChange : Addr}
    {c_BadText : Addr}
    {c_CannotDo : Addr}
    {c_Kinds : Addr}
    {nm_BadKinds q_BadKinds : Str} {N_BadKinds : Addr} {bs_BadKinds bm_BadKinds : List Value} {sn_BadKinds : List Str} {sub_BadKinds : List Value} {ab_BadKinds : Bool} {col_BadKinds : Option Bool} {dd_BadKinds : Option Addr} {m0_BadKinds m1_BadKinds m2_BadKinds m3_BadKinds m5_BadKinds : Option Value}
    {nm_BadChange q_BadChange : Str} {N_BadChange : Addr} {bs_BadChange bm_BadChange : List Value} {sn_BadChange : List Str} {sub_BadChange : List Value} {ab_BadChange : Bool} {col_BadChange : Option Bool} {dd_BadChange : Option Addr} {m0_BadChange m1_BadChange m2_BadChange m3_BadChange m5_BadChange : Option Value}
    {nm_CannotDo q_CannotDo : Str} {N_CannotDo : Addr} {bs_CannotDo bm_CannotDo : List Value} {sn_CannotDo : List Str} {sub_CannotDo : List Value} {ab_CannotDo : Bool} {col_CannotDo : Option Bool} {dd_CannotDo : Option Addr} {m0_CannotDo m1_CannotDo m2_CannotDo m3_CannotDo m5_CannotDo : Option Value}
    {P1 : Addr} {kd__law_kinds_right : Option Addr} {kw__law_kinds_right : Array Value} {ks__law_kinds_right : Array (Option Value)}
    {P2 : Addr} {kd__law_refused : Option Addr} {kw__law_refused : Array Value} {ks__law_refused : Array (Option Value)}
    {P3 : Addr} {kd_law : Option Addr} {kw_law : Array Value} {ks_law : Array (Option Value)}
    (a_ChangeError : PySem.W.nsIn K mainGlobals "ChangeError" = some (some (.ref c_ChangeError)))
    (k_ChangeError : PySem.W.keepIn K (.ref c_ChangeError) = true)
    (a_BadKinds : PySem.W.nsIn K mainGlobals "BadKinds" = some (some (.ref c_BadKinds)))
    (k_BadKinds : PySem.W.keepIn K (.ref c_BadKinds) = true)
    (a_BadChange : PySem.W.nsIn K mainGlobals "BadChange" = some (some (.ref c_BadChange)))
    (k_BadChange : PySem.W.keepIn K (.ref c_BadChange) = true)
    (a_BadText : PySem.W.nsIn K mainGlobals "BadText" = some (some (.ref c_BadText)))
    (k_BadText : PySem.W.keepIn K (.ref c_BadText) = true)
    (a_CannotDo : PySem.W.nsIn K mainGlobals "CannotDo" = some (some (.ref c_CannotDo)))
    (k_CannotDo : PySem.W.keepIn K (.ref c_CannotDo) = true)
    (a_Kinds : PySem.W.nsIn K mainGlobals "Kinds" = some (some (.ref c_Kinds)))
    (k_Kinds : PySem.W.keepIn K (.ref c_Kinds) = true)
    (a_check_kinds : PySem.W.nsIn K mainGlobals "check_kinds" = some (some (.ref f_check_kinds)))
    (a_needs_letter : PySem.W.nsIn K mainGlobals "needs_letter" = some (some (.ref f_needs_letter)))
    (a_is_whole : PySem.W.nsIn K mainGlobals "is_whole" = some (some (.ref f_is_whole)))
    (a_has_names : PySem.W.nsIn K mainGlobals "has_names" = some (some (.ref f_has_names)))
    (a_is_name : PySem.W.nsIn K mainGlobals "is_name" = some (some (.ref f_is_name)))
    (a_is_kind : PySem.W.nsIn K mainGlobals "is_kind" = some (some (.ref f_is_kind)))
    (a_is_row : PySem.W.nsIn K mainGlobals "is_row" = some (some (.ref f_is_row)))
    (a_is_part : PySem.W.nsIn K mainGlobals "is_part" = some (some (.ref f_is_part)))
    (a_done : PySem.W.nsIn K mainGlobals "done" = some (some (.ref f_done)))
    (a_done_all : PySem.W.nsIn K mainGlobals "done_all" = some (some (.ref f_done_all)))
    (a_can_do : PySem.W.nsIn K mainGlobals "can_do" = some (some (.ref f_can_do)))
    (a_text_behind : PySem.W.nsIn K mainGlobals "text_behind" = some (some (.ref f_text_behind)))
    (a_check_text : PySem.W.nsIn K mainGlobals "check_text" = some (some (.ref f_check_text)))
    (a_check_changes : PySem.W.nsIn K mainGlobals "check_changes" = some (some (.ref f_check_changes)))
    (a_is_text : PySem.W.nsIn K mainGlobals "is_text" = some (some (.ref f_is_text)))
    (a_is_change : PySem.W.nsIn K mainGlobals "is_change" = some (some (.ref f_is_change)))
    (a__law_number : PySem.W.nsIn K mainGlobals "_law_number" = some (some (.ref f__law_number)))
    (a__law_take : PySem.W.nsIn K mainGlobals "_law_take" = some (some (.ref f__law_take)))
    (a__law_pick : PySem.W.nsIn K mainGlobals "_law_pick" = some (some (.ref f__law_pick)))
    (a__law_all_kinds : PySem.W.nsIn K mainGlobals "_law_all_kinds" = some (some (.ref f__law_all_kinds)))
    (a__law_kinds : PySem.W.nsIn K mainGlobals "_law_kinds" = some (some (.ref f__law_kinds)))
    (a__law_has_new : PySem.W.nsIn K mainGlobals "_law_has_new" = some (some (.ref f__law_has_new)))
    (a__law_do : PySem.W.nsIn K mainGlobals "_law_do" = some (some (.ref f__law_do)))
    (a__law_made : PySem.W.nsIn K mainGlobals "_law_made" = some (some (.ref f__law_made)))
    (a__law_is_kind : PySem.W.nsIn K mainGlobals "_law_is_kind" = some (some (.ref f__law_is_kind)))
    (a__law_thing : PySem.W.nsIn K mainGlobals "_law_thing" = some (some (.ref f__law_thing)))
    (a__law_told : PySem.W.nsIn K mainGlobals "_law_told" = some (some (.ref f__law_told)))
    (a__law_kinds_right : PySem.W.nsIn K mainGlobals "_law_kinds_right" = some (some (.ref f__law_kinds_right)))
    (a__law_refused : PySem.W.nsIn K mainGlobals "_law_refused" = some (some (.ref f__law_refused)))
    (a_law : PySem.W.nsIn K mainGlobals "law" = some (some (.ref f_law)))
    (i_BadKinds_init : PySem.W.findIn K (.ref c_BadKinds) "__init__" = some (some (.ref f_BadKinds_init)))
    (g_BadKinds_init : PySem.W.isFn K (.ref f_BadKinds_init) = true)
    (i_BadChange_init : PySem.W.findIn K (.ref c_BadChange) "__init__" = some (some (.ref f_BadChange_init)))
    (g_BadChange_init : PySem.W.isFn K (.ref f_BadChange_init) = true)
    (i_CannotDo_init : PySem.W.findIn K (.ref c_CannotDo) "__init__" = some (some (.ref f_CannotDo_init)))
    (g_CannotDo_init : PySem.W.isFn K (.ref f_CannotDo_init) = true)
    (i_Kinds_init : PySem.W.findIn K (.ref c_Kinds) "__init__" = some (some (.ref f_Kinds_init)))
    (g_Kinds_init : PySem.W.isFn K (.ref f_Kinds_init) = true)
    (i_Kinds_getitem : PySem.W.findIn K (.ref c_Kinds) "__getitem__" = some (some (.ref f_Kinds_getitem)))
    (g_Kinds_getitem : PySem.W.isFn K (.ref f_Kinds_getitem) = true)
    (i_Kinds_contains : PySem.W.findIn K (.ref c_Kinds) "__contains__" = some (some (.ref f_Kinds_contains)))
    (g_Kinds_contains : PySem.W.isFn K (.ref f_Kinds_contains) = true)
    (i_Kinds_len : PySem.W.findIn K (.ref c_Kinds) "__len__" = some (some (.ref f_Kinds_len)))
    (g_Kinds_len : PySem.W.isFn K (.ref f_Kinds_len) = true)
    (i_Kinds_eq : PySem.W.findIn K (.ref c_Kinds) "__eq__" = some (some (.ref f_Kinds_eq)))
    (g_Kinds_eq : PySem.W.isFn K (.ref f_Kinds_eq) = true)
    (i_Kinds_names : PySem.W.findIn K (.ref c_Kinds) "names" = some (some (.ref f_Kinds_names)))
    (g_Kinds_names : PySem.W.isFn K (.ref f_Kinds_names) = true)
    (i_Kinds_growth : PySem.W.findIn K (.ref c_Kinds) "growth" = some (some (.ref f_Kinds_growth)))
    (g_Kinds_growth : PySem.W.isFn K (.ref f_Kinds_growth) = true)
    (l_check_kinds : K.lookup f_check_kinds = some ⟨oc_check_kinds, od_check_kinds, .func (PySem.W.fnOf "check_kinds" "check_kinds" (defArgs s_check_kinds) (defBody s_check_kinds) (defScope s_check_kinds) .none kv_check_kinds dc_check_kinds pm_check_kinds an_check_kinds cd_check_kinds ct_check_kinds), sl_check_kinds⟩)
    (d_check_kinds : PySem.W.codeIn K cd_check_kinds "check_kinds" = true)
    (p_check_kinds : PySem.W.keepIn K (.ref f_check_kinds) = true)
    (l_needs_letter : K.lookup f_needs_letter = some ⟨oc_needs_letter, od_needs_letter, .func (PySem.W.fnOf "needs_letter" "needs_letter" (defArgs s_needs_letter) (defBody s_needs_letter) (defScope s_needs_letter) .none kv_needs_letter dc_needs_letter pm_needs_letter an_needs_letter cd_needs_letter ct_needs_letter), sl_needs_letter⟩)
    (d_needs_letter : PySem.W.codeIn K cd_needs_letter "needs_letter" = true)
    (p_needs_letter : PySem.W.keepIn K (.ref f_needs_letter) = true)
    (l_is_whole : K.lookup f_is_whole = some ⟨oc_is_whole, od_is_whole, .func (PySem.W.fnOf "is_whole" "is_whole" (defArgs s_is_whole) (defBody s_is_whole) (defScope s_is_whole) .none kv_is_whole dc_is_whole pm_is_whole an_is_whole cd_is_whole ct_is_whole), sl_is_whole⟩)
    (d_is_whole : PySem.W.codeIn K cd_is_whole "is_whole" = true)
    (p_is_whole : PySem.W.keepIn K (.ref f_is_whole) = true)
    (l_has_names : K.lookup f_has_names = some ⟨oc_has_names, od_has_names, .func (PySem.W.fnOf "has_names" "has_names" (defArgs s_has_names) (defBody s_has_names) (defScope s_has_names) .none kv_has_names dc_has_names pm_has_names an_has_names cd_has_names ct_has_names), sl_has_names⟩)
    (d_has_names : PySem.W.codeIn K cd_has_names "has_names" = true)
    (p_has_names : PySem.W.keepIn K (.ref f_has_names) = true)
    (l_is_name : K.lookup f_is_name = some ⟨oc_is_name, od_is_name, .func (PySem.W.fnOf "is_name" "is_name" (defArgs s_is_name) (defBody s_is_name) (defScope s_is_name) .none kv_is_name dc_is_name pm_is_name an_is_name cd_is_name ct_is_name), sl_is_name⟩)
    (d_is_name : PySem.W.codeIn K cd_is_name "is_name" = true)
    (p_is_name : PySem.W.keepIn K (.ref f_is_name) = true)
    (l_is_kind : K.lookup f_is_kind = some ⟨oc_is_kind, od_is_kind, .func (PySem.W.fnOf "is_kind" "is_kind" (defArgs s_is_kind) (defBody s_is_kind) (defScope s_is_kind) .none kv_is_kind dc_is_kind pm_is_kind an_is_kind cd_is_kind ct_is_kind), sl_is_kind⟩)
    (d_is_kind : PySem.W.codeIn K cd_is_kind "is_kind" = true)
    (p_is_kind : PySem.W.keepIn K (.ref f_is_kind) = true)
    (l_is_row : K.lookup f_is_row = some ⟨oc_is_row, od_is_row, .func (PySem.W.fnOf "is_row" "is_row" (defArgs s_is_row) (defBody s_is_row) (defScope s_is_row) .none kv_is_row dc_is_row pm_is_row an_is_row cd_is_row ct_is_row), sl_is_row⟩)
    (d_is_row : PySem.W.codeIn K cd_is_row "is_row" = true)
    (p_is_row : PySem.W.keepIn K (.ref f_is_row) = true)
    (l_is_part : K.lookup f_is_part = some ⟨oc_is_part, od_is_part, .func (PySem.W.fnOf "is_part" "is_part" (defArgs s_is_part) (defBody s_is_part) (defScope s_is_part) .none kv_is_part dc_is_part pm_is_part an_is_part cd_is_part ct_is_part), sl_is_part⟩)
    (d_is_part : PySem.W.codeIn K cd_is_part "is_part" = true)
    (p_is_part : PySem.W.keepIn K (.ref f_is_part) = true)
    (l_done : K.lookup f_done = some ⟨oc_done, od_done, .func (PySem.W.fnOf "done" "done" (defArgs s_done) (defBody s_done) (defScope s_done) .none kv_done dc_done pm_done an_done cd_done ct_done), sl_done⟩)
    (d_done : PySem.W.codeIn K cd_done "done" = true)
    (p_done : PySem.W.keepIn K (.ref f_done) = true)
    (l_done_all : K.lookup f_done_all = some ⟨oc_done_all, od_done_all, .func (PySem.W.fnOf "done_all" "done_all" (defArgs s_done_all) (defBody s_done_all) (defScope s_done_all) .none kv_done_all dc_done_all pm_done_all an_done_all cd_done_all ct_done_all), sl_done_all⟩)
    (d_done_all : PySem.W.codeIn K cd_done_all "done_all" = true)
    (p_done_all : PySem.W.keepIn K (.ref f_done_all) = true)
    (l_can_do : K.lookup f_can_do = some ⟨oc_can_do, od_can_do, .func (PySem.W.fnOf "can_do" "can_do" (defArgs s_can_do) (defBody s_can_do) (defScope s_can_do) .none kv_can_do dc_can_do pm_can_do an_can_do cd_can_do ct_can_do), sl_can_do⟩)
    (d_can_do : PySem.W.codeIn K cd_can_do "can_do" = true)
    (p_can_do : PySem.W.keepIn K (.ref f_can_do) = true)
    (l_text_behind : K.lookup f_text_behind = some ⟨oc_text_behind, od_text_behind, .func (PySem.W.fnOf "text_behind" "text_behind" (defArgs s_text_behind) (defBody s_text_behind) (defScope s_text_behind) .none kv_text_behind dc_text_behind pm_text_behind an_text_behind cd_text_behind ct_text_behind), sl_text_behind⟩)
    (d_text_behind : PySem.W.codeIn K cd_text_behind "text_behind" = true)
    (p_text_behind : PySem.W.keepIn K (.ref f_text_behind) = true)
    (l_check_text : K.lookup f_check_text = some ⟨oc_check_text, od_check_text, .func (PySem.W.fnOf "check_text" "check_text" (defArgs s_check_text) (defBody s_check_text) (defScope s_check_text) .none kv_check_text dc_check_text pm_check_text an_check_text cd_check_text ct_check_text), sl_check_text⟩)
    (d_check_text : PySem.W.codeIn K cd_check_text "check_text" = true)
    (p_check_text : PySem.W.keepIn K (.ref f_check_text) = true)
    (l_check_changes : K.lookup f_check_changes = some ⟨oc_check_changes, od_check_changes, .func (PySem.W.fnOf "check_changes" "check_changes" (defArgs s_check_changes) (defBody s_check_changes) (defScope s_check_changes) .none kv_check_changes dc_check_changes pm_check_changes an_check_changes cd_check_changes ct_check_changes), sl_check_changes⟩)
    (d_check_changes : PySem.W.codeIn K cd_check_changes "check_changes" = true)
    (p_check_changes : PySem.W.keepIn K (.ref f_check_changes) = true)
    (l_is_text : K.lookup f_is_text = some ⟨oc_is_text, od_is_text, .func (PySem.W.fnOf "is_text" "is_text" (defArgs s_is_text) (defBody s_is_text) (defScope s_is_text) .none kv_is_text dc_is_text pm_is_text an_is_text cd_is_text ct_is_text), sl_is_text⟩)
    (d_is_text : PySem.W.codeIn K cd_is_text "is_text" = true)
    (p_is_text : PySem.W.keepIn K (.ref f_is_text) = true)
    (l_is_change : K.lookup f_is_change = some ⟨oc_is_change, od_is_change, .func (PySem.W.fnOf "is_change" "is_change" (defArgs s_is_change) (defBody s_is_change) (defScope s_is_change) .none kv_is_change dc_is_change pm_is_change an_is_change cd_is_change ct_is_change), sl_is_change⟩)
    (d_is_change : PySem.W.codeIn K cd_is_change "is_change" = true)
    (p_is_change : PySem.W.keepIn K (.ref f_is_change) = true)
    (l__law_number : K.lookup f__law_number = some ⟨oc__law_number, od__law_number, .func (PySem.W.fnOf "_law_number" "_law_number" (defArgs s__law_number) (defBody s__law_number) (defScope s__law_number) .none kv__law_number dc__law_number pm__law_number an__law_number cd__law_number ct__law_number), sl__law_number⟩)
    (d__law_number : PySem.W.codeIn K cd__law_number "_law_number" = true)
    (p__law_number : PySem.W.keepIn K (.ref f__law_number) = true)
    (l__law_take : K.lookup f__law_take = some ⟨oc__law_take, od__law_take, .func (PySem.W.fnOf "_law_take" "_law_take" (defArgs s__law_take) (defBody s__law_take) (defScope s__law_take) .none kv__law_take dc__law_take pm__law_take an__law_take cd__law_take ct__law_take), sl__law_take⟩)
    (d__law_take : PySem.W.codeIn K cd__law_take "_law_take" = true)
    (p__law_take : PySem.W.keepIn K (.ref f__law_take) = true)
    (l__law_pick : K.lookup f__law_pick = some ⟨oc__law_pick, od__law_pick, .func (PySem.W.fnOf "_law_pick" "_law_pick" (defArgs s__law_pick) (defBody s__law_pick) (defScope s__law_pick) .none kv__law_pick dc__law_pick pm__law_pick an__law_pick cd__law_pick ct__law_pick), sl__law_pick⟩)
    (d__law_pick : PySem.W.codeIn K cd__law_pick "_law_pick" = true)
    (p__law_pick : PySem.W.keepIn K (.ref f__law_pick) = true)
    (l__law_all_kinds : K.lookup f__law_all_kinds = some ⟨oc__law_all_kinds, od__law_all_kinds, .func (PySem.W.fnOf "_law_all_kinds" "_law_all_kinds" (defArgs s__law_all_kinds) (defBody s__law_all_kinds) (defScope s__law_all_kinds) .none kv__law_all_kinds dc__law_all_kinds pm__law_all_kinds an__law_all_kinds cd__law_all_kinds ct__law_all_kinds), sl__law_all_kinds⟩)
    (d__law_all_kinds : PySem.W.codeIn K cd__law_all_kinds "_law_all_kinds" = true)
    (p__law_all_kinds : PySem.W.keepIn K (.ref f__law_all_kinds) = true)
    (l__law_kinds : K.lookup f__law_kinds = some ⟨oc__law_kinds, od__law_kinds, .func (PySem.W.fnOf "_law_kinds" "_law_kinds" (defArgs s__law_kinds) (defBody s__law_kinds) (defScope s__law_kinds) .none kv__law_kinds dc__law_kinds pm__law_kinds an__law_kinds cd__law_kinds ct__law_kinds), sl__law_kinds⟩)
    (d__law_kinds : PySem.W.codeIn K cd__law_kinds "_law_kinds" = true)
    (p__law_kinds : PySem.W.keepIn K (.ref f__law_kinds) = true)
    (l__law_has_new : K.lookup f__law_has_new = some ⟨oc__law_has_new, od__law_has_new, .func (PySem.W.fnOf "_law_has_new" "_law_has_new" (defArgs s__law_has_new) (defBody s__law_has_new) (defScope s__law_has_new) .none kv__law_has_new dc__law_has_new pm__law_has_new an__law_has_new cd__law_has_new ct__law_has_new), sl__law_has_new⟩)
    (d__law_has_new : PySem.W.codeIn K cd__law_has_new "_law_has_new" = true)
    (p__law_has_new : PySem.W.keepIn K (.ref f__law_has_new) = true)
    (l__law_do : K.lookup f__law_do = some ⟨oc__law_do, od__law_do, .func (PySem.W.fnOf "_law_do" "_law_do" (defArgs s__law_do) (defBody s__law_do) (defScope s__law_do) .none kv__law_do dc__law_do pm__law_do an__law_do cd__law_do ct__law_do), sl__law_do⟩)
    (d__law_do : PySem.W.codeIn K cd__law_do "_law_do" = true)
    (p__law_do : PySem.W.keepIn K (.ref f__law_do) = true)
    (l__law_made : K.lookup f__law_made = some ⟨oc__law_made, od__law_made, .func (PySem.W.fnOf "_law_made" "_law_made" (defArgs s__law_made) (defBody s__law_made) (defScope s__law_made) .none kv__law_made dc__law_made pm__law_made an__law_made cd__law_made ct__law_made), sl__law_made⟩)
    (d__law_made : PySem.W.codeIn K cd__law_made "_law_made" = true)
    (p__law_made : PySem.W.keepIn K (.ref f__law_made) = true)
    (l__law_is_kind : K.lookup f__law_is_kind = some ⟨oc__law_is_kind, od__law_is_kind, .func (PySem.W.fnOf "_law_is_kind" "_law_is_kind" (defArgs s__law_is_kind) (defBody s__law_is_kind) (defScope s__law_is_kind) .none kv__law_is_kind dc__law_is_kind pm__law_is_kind an__law_is_kind cd__law_is_kind ct__law_is_kind), sl__law_is_kind⟩)
    (d__law_is_kind : PySem.W.codeIn K cd__law_is_kind "_law_is_kind" = true)
    (p__law_is_kind : PySem.W.keepIn K (.ref f__law_is_kind) = true)
    (l__law_thing : K.lookup f__law_thing = some ⟨oc__law_thing, od__law_thing, .func (PySem.W.fnOf "_law_thing" "_law_thing" (defArgs s__law_thing) (defBody s__law_thing) (defScope s__law_thing) .none kv__law_thing dc__law_thing pm__law_thing an__law_thing cd__law_thing ct__law_thing), sl__law_thing⟩)
    (d__law_thing : PySem.W.codeIn K cd__law_thing "_law_thing" = true)
    (p__law_thing : PySem.W.keepIn K (.ref f__law_thing) = true)
    (l__law_told : K.lookup f__law_told = some ⟨oc__law_told, od__law_told, .func (PySem.W.fnOf "_law_told" "_law_told" (defArgs s__law_told) (defBody s__law_told) (defScope s__law_told) .none kv__law_told dc__law_told pm__law_told an__law_told cd__law_told ct__law_told), sl__law_told⟩)
    (d__law_told : PySem.W.codeIn K cd__law_told "_law_told" = true)
    (p__law_told : PySem.W.keepIn K (.ref f__law_told) = true)
    (l__law_kinds_right : K.lookup f__law_kinds_right = some ⟨oc__law_kinds_right, od__law_kinds_right, .func (PySem.W.fnOf "_law_kinds_right" "_law_kinds_right" (defArgs s__law_kinds_right) (defBody s__law_kinds_right) (defScope s__law_kinds_right) .none kv__law_kinds_right dc__law_kinds_right pm__law_kinds_right an__law_kinds_right (.ref cc__law_kinds_right) ct__law_kinds_right), sl__law_kinds_right⟩)
    (d__law_kinds_right : PySem.W.codeIn K (.ref cc__law_kinds_right) "_law_kinds_right" = true)
    (p__law_kinds_right : PySem.W.keepIn K (.ref f__law_kinds_right) = true)
    (l__law_refused : K.lookup f__law_refused = some ⟨oc__law_refused, od__law_refused, .func (PySem.W.fnOf "_law_refused" "_law_refused" (defArgs s__law_refused) (defBody s__law_refused) (defScope s__law_refused) .none kv__law_refused dc__law_refused pm__law_refused an__law_refused (.ref cc__law_refused) ct__law_refused), sl__law_refused⟩)
    (d__law_refused : PySem.W.codeIn K (.ref cc__law_refused) "_law_refused" = true)
    (p__law_refused : PySem.W.keepIn K (.ref f__law_refused) = true)
    (l_law : K.lookup f_law = some ⟨oc_law, od_law, .func (PySem.W.fnOf "law" "law" (defArgs s_law) (defBody s_law) (defScope s_law) .none kv_law dc_law pm_law an_law (.ref cc_law) ct_law), sl_law⟩)
    (d_law : PySem.W.codeIn K (.ref cc_law) "law" = true)
    (p_law : PySem.W.keepIn K (.ref f_law) = true)
    (l_BadKinds_init : K.lookup f_BadKinds_init = some ⟨oc_BadKinds_init, od_BadKinds_init, .func (PySem.W.fnOf "__init__" "BadKinds.__init__" (defArgs s_BadKinds_init) (defBody s_BadKinds_init) (defScope s_BadKinds_init) .none kv_BadKinds_init dc_BadKinds_init pm_BadKinds_init an_BadKinds_init cd_BadKinds_init ct_BadKinds_init), sl_BadKinds_init⟩)
    (d_BadKinds_init : PySem.W.codeIn K cd_BadKinds_init "BadKinds.__init__" = true)
    (p_BadKinds_init : PySem.W.keepIn K (.ref f_BadKinds_init) = true)
    (l_BadChange_init : K.lookup f_BadChange_init = some ⟨oc_BadChange_init, od_BadChange_init, .func (PySem.W.fnOf "__init__" "BadChange.__init__" (defArgs s_BadChange_init) (defBody s_BadChange_init) (defScope s_BadChange_init) .none kv_BadChange_init dc_BadChange_init pm_BadChange_init an_BadChange_init cd_BadChange_init ct_BadChange_init), sl_BadChange_init⟩)
    (d_BadChange_init : PySem.W.codeIn K cd_BadChange_init "BadChange.__init__" = true)
    (p_BadChange_init : PySem.W.keepIn K (.ref f_BadChange_init) = true)
    (l_CannotDo_init : K.lookup f_CannotDo_init = some ⟨oc_CannotDo_init, od_CannotDo_init, .func (PySem.W.fnOf "__init__" "CannotDo.__init__" (defArgs s_CannotDo_init) (defBody s_CannotDo_init) (defScope s_CannotDo_init) .none kv_CannotDo_init dc_CannotDo_init pm_CannotDo_init an_CannotDo_init cd_CannotDo_init ct_CannotDo_init), sl_CannotDo_init⟩)
    (d_CannotDo_init : PySem.W.codeIn K cd_CannotDo_init "CannotDo.__init__" = true)
    (p_CannotDo_init : PySem.W.keepIn K (.ref f_CannotDo_init) = true)
    (l_Kinds_init : K.lookup f_Kinds_init = some ⟨oc_Kinds_init, od_Kinds_init, .func (PySem.W.fnOf "__init__" "Kinds.__init__" (defArgs s_Kinds_init) (defBody s_Kinds_init) (defScope s_Kinds_init) .none kv_Kinds_init dc_Kinds_init pm_Kinds_init an_Kinds_init cd_Kinds_init ct_Kinds_init), sl_Kinds_init⟩)
    (d_Kinds_init : PySem.W.codeIn K cd_Kinds_init "Kinds.__init__" = true)
    (p_Kinds_init : PySem.W.keepIn K (.ref f_Kinds_init) = true)
    (l_Kinds_getitem : K.lookup f_Kinds_getitem = some ⟨oc_Kinds_getitem, od_Kinds_getitem, .func (PySem.W.fnOf "__getitem__" "Kinds.__getitem__" (defArgs s_Kinds_getitem) (defBody s_Kinds_getitem) (defScope s_Kinds_getitem) .none kv_Kinds_getitem dc_Kinds_getitem pm_Kinds_getitem an_Kinds_getitem cd_Kinds_getitem ct_Kinds_getitem), sl_Kinds_getitem⟩)
    (d_Kinds_getitem : PySem.W.codeIn K cd_Kinds_getitem "Kinds.__getitem__" = true)
    (p_Kinds_getitem : PySem.W.keepIn K (.ref f_Kinds_getitem) = true)
    (l_Kinds_contains : K.lookup f_Kinds_contains = some ⟨oc_Kinds_contains, od_Kinds_contains, .func (PySem.W.fnOf "__contains__" "Kinds.__contains__" (defArgs s_Kinds_contains) (defBody s_Kinds_contains) (defScope s_Kinds_contains) .none kv_Kinds_contains dc_Kinds_contains pm_Kinds_contains an_Kinds_contains cd_Kinds_contains ct_Kinds_contains), sl_Kinds_contains⟩)
    (d_Kinds_contains : PySem.W.codeIn K cd_Kinds_contains "Kinds.__contains__" = true)
    (p_Kinds_contains : PySem.W.keepIn K (.ref f_Kinds_contains) = true)
    (l_Kinds_len : K.lookup f_Kinds_len = some ⟨oc_Kinds_len, od_Kinds_len, .func (PySem.W.fnOf "__len__" "Kinds.__len__" (defArgs s_Kinds_len) (defBody s_Kinds_len) (defScope s_Kinds_len) .none kv_Kinds_len dc_Kinds_len pm_Kinds_len an_Kinds_len cd_Kinds_len ct_Kinds_len), sl_Kinds_len⟩)
    (d_Kinds_len : PySem.W.codeIn K cd_Kinds_len "Kinds.__len__" = true)
    (p_Kinds_len : PySem.W.keepIn K (.ref f_Kinds_len) = true)
    (l_Kinds_eq : K.lookup f_Kinds_eq = some ⟨oc_Kinds_eq, od_Kinds_eq, .func (PySem.W.fnOf "__eq__" "Kinds.__eq__" (defArgs s_Kinds_eq) (defBody s_Kinds_eq) (defScope s_Kinds_eq) .none kv_Kinds_eq dc_Kinds_eq pm_Kinds_eq an_Kinds_eq cd_Kinds_eq ct_Kinds_eq), sl_Kinds_eq⟩)
    (d_Kinds_eq : PySem.W.codeIn K cd_Kinds_eq "Kinds.__eq__" = true)
    (p_Kinds_eq : PySem.W.keepIn K (.ref f_Kinds_eq) = true)
    (l_Kinds_names : K.lookup f_Kinds_names = some ⟨oc_Kinds_names, od_Kinds_names, .func (PySem.W.fnOf "names" "Kinds.names" (defArgs s_Kinds_names) (defBody s_Kinds_names) (defScope s_Kinds_names) .none kv_Kinds_names dc_Kinds_names pm_Kinds_names an_Kinds_names cd_Kinds_names ct_Kinds_names), sl_Kinds_names⟩)
    (d_Kinds_names : PySem.W.codeIn K cd_Kinds_names "Kinds.names" = true)
    (p_Kinds_names : PySem.W.keepIn K (.ref f_Kinds_names) = true)
    (l_Kinds_growth : K.lookup f_Kinds_growth = some ⟨oc_Kinds_growth, od_Kinds_growth, .func (PySem.W.fnOf "growth" "Kinds.growth" (defArgs s_Kinds_growth) (defBody s_Kinds_growth) (defScope s_Kinds_growth) .none kv_Kinds_growth dc_Kinds_growth pm_Kinds_growth an_Kinds_growth cd_Kinds_growth ct_Kinds_growth), sl_Kinds_growth⟩)
    (d_Kinds_growth : PySem.W.codeIn K cd_Kinds_growth "Kinds.growth" = true)
    (p_Kinds_growth : PySem.W.keepIn K (.ref f_Kinds_growth) = true)
    (xl_BadKinds : K.lookup c_BadKinds = some (excClassObj nm_BadKinds q_BadKinds c_BadKinds N_BadKinds bs_BadKinds bm_BadKinds true sn_BadKinds sub_BadKinds ab_BadKinds col_BadKinds dd_BadKinds m0_BadKinds m1_BadKinds m2_BadKinds m3_BadKinds m5_BadKinds "ValueError.__new__"))
    (xr_BadKinds : PySem.HandSPX.refsVE bm_BadKinds = true)
    (sa_BadKinds : PySem.W.findIn K (.ref c_BadKinds) "__setattr__" = some (some (.builtin "object.__setattr__")))
    (xl_BadChange : K.lookup c_BadChange = some (excClassObj nm_BadChange q_BadChange c_BadChange N_BadChange bs_BadChange bm_BadChange true sn_BadChange sub_BadChange ab_BadChange col_BadChange dd_BadChange m0_BadChange m1_BadChange m2_BadChange m3_BadChange m5_BadChange "ValueError.__new__"))
    (xr_BadChange : PySem.HandSPX.refsVE bm_BadChange = true)
    (sa_BadChange : PySem.W.findIn K (.ref c_BadChange) "__setattr__" = some (some (.builtin "object.__setattr__")))
    (xl_CannotDo : K.lookup c_CannotDo = some (excClassObj nm_CannotDo q_CannotDo c_CannotDo N_CannotDo bs_CannotDo bm_CannotDo true sn_CannotDo sub_CannotDo ab_CannotDo col_CannotDo dd_CannotDo m0_CannotDo m1_CannotDo m2_CannotDo m3_CannotDo m5_CannotDo "ValueError.__new__"))
    (xr_CannotDo : PySem.HandSPX.refsVE bm_CannotDo = true)
    (sa_CannotDo : PySem.W.findIn K (.ref c_CannotDo) "__setattr__" = some (some (.builtin "object.__setattr__")))
    (cl_BadKinds : PySem.W.isClsIn K c_BadKinds = true)
    (ga_BadKinds : PySem.W.findIn K (.ref c_BadKinds) "__getattribute__" = some (some (.builtin "BaseException.__getattribute__")))
    (gg_BadKinds : PySem.W.findIn K (.ref c_BadKinds) "__getattr__" = some none)
    (ex_BadKinds : PySem.W.subIn K (.ref c_BadKinds) (.type "BaseException") = some true)
    (hd_BadKinds : PySem.W.hasDictIn K c_BadKinds = true)
    (cc_BadKinds : PySem.W.findIn K (.ref c_BadKinds) "__class__" = some (some (.builtin "object.__class__")))
    (mo_BadKinds : PySem.W.mroIn K c_BadKinds (.type "object") = some true)
    (t_BadKinds : PySem.W.typeIn K (.ref c_BadKinds) = some (.type "type"))
    (us_BadKinds : PySem.W.subIn K (.ref c_BadKinds) (.ref c_ChangeError) = some true)
    (x_BadKinds_BadKinds : PySem.W.subIn K (.ref c_BadKinds) (.ref c_BadKinds) = some true)
    (x_BadKinds_BadChange : PySem.W.subIn K (.ref c_BadKinds) (.ref c_BadChange) = some false)
    (x_BadKinds_CannotDo : PySem.W.subIn K (.ref c_BadKinds) (.ref c_CannotDo) = some false)
    (x_BadKinds_BadText : PySem.W.subIn K (.ref c_BadKinds) (.ref c_BadText) = some false)
    (cl_BadChange : PySem.W.isClsIn K c_BadChange = true)
    (ga_BadChange : PySem.W.findIn K (.ref c_BadChange) "__getattribute__" = some (some (.builtin "BaseException.__getattribute__")))
    (gg_BadChange : PySem.W.findIn K (.ref c_BadChange) "__getattr__" = some none)
    (ex_BadChange : PySem.W.subIn K (.ref c_BadChange) (.type "BaseException") = some true)
    (hd_BadChange : PySem.W.hasDictIn K c_BadChange = true)
    (cc_BadChange : PySem.W.findIn K (.ref c_BadChange) "__class__" = some (some (.builtin "object.__class__")))
    (mo_BadChange : PySem.W.mroIn K c_BadChange (.type "object") = some true)
    (t_BadChange : PySem.W.typeIn K (.ref c_BadChange) = some (.type "type"))
    (us_BadChange : PySem.W.subIn K (.ref c_BadChange) (.ref c_ChangeError) = some true)
    (x_BadChange_BadKinds : PySem.W.subIn K (.ref c_BadChange) (.ref c_BadKinds) = some false)
    (x_BadChange_BadChange : PySem.W.subIn K (.ref c_BadChange) (.ref c_BadChange) = some true)
    (x_BadChange_CannotDo : PySem.W.subIn K (.ref c_BadChange) (.ref c_CannotDo) = some false)
    (x_BadChange_BadText : PySem.W.subIn K (.ref c_BadChange) (.ref c_BadText) = some false)
    (cl_CannotDo : PySem.W.isClsIn K c_CannotDo = true)
    (ga_CannotDo : PySem.W.findIn K (.ref c_CannotDo) "__getattribute__" = some (some (.builtin "BaseException.__getattribute__")))
    (gg_CannotDo : PySem.W.findIn K (.ref c_CannotDo) "__getattr__" = some none)
    (ex_CannotDo : PySem.W.subIn K (.ref c_CannotDo) (.type "BaseException") = some true)
    (hd_CannotDo : PySem.W.hasDictIn K c_CannotDo = true)
    (cc_CannotDo : PySem.W.findIn K (.ref c_CannotDo) "__class__" = some (some (.builtin "object.__class__")))
    (mo_CannotDo : PySem.W.mroIn K c_CannotDo (.type "object") = some true)
    (t_CannotDo : PySem.W.typeIn K (.ref c_CannotDo) = some (.type "type"))
    (us_CannotDo : PySem.W.subIn K (.ref c_CannotDo) (.ref c_ChangeError) = some true)
    (x_CannotDo_BadKinds : PySem.W.subIn K (.ref c_CannotDo) (.ref c_BadKinds) = some false)
    (x_CannotDo_BadChange : PySem.W.subIn K (.ref c_CannotDo) (.ref c_BadChange) = some false)
    (x_CannotDo_CannotDo : PySem.W.subIn K (.ref c_CannotDo) (.ref c_CannotDo) = some true)
    (x_CannotDo_BadText : PySem.W.subIn K (.ref c_CannotDo) (.ref c_BadText) = some false)
    (cl_BadText : PySem.W.isClsIn K c_BadText = true)
    (ga_BadText : PySem.W.findIn K (.ref c_BadText) "__getattribute__" = some (some (.builtin "BaseException.__getattribute__")))
    (gg_BadText : PySem.W.findIn K (.ref c_BadText) "__getattr__" = some none)
    (ex_BadText : PySem.W.subIn K (.ref c_BadText) (.type "BaseException") = some true)
    (hd_BadText : PySem.W.hasDictIn K c_BadText = true)
    (cc_BadText : PySem.W.findIn K (.ref c_BadText) "__class__" = some (some (.builtin "object.__class__")))
    (mo_BadText : PySem.W.mroIn K c_BadText (.type "object") = some true)
    (t_BadText : PySem.W.typeIn K (.ref c_BadText) = some (.type "type"))
    (us_BadText : PySem.W.subIn K (.ref c_BadText) (.ref c_ChangeError) = some true)
    (x_BadText_BadKinds : PySem.W.subIn K (.ref c_BadText) (.ref c_BadKinds) = some false)
    (x_BadText_BadChange : PySem.W.subIn K (.ref c_BadText) (.ref c_BadChange) = some false)
    (x_BadText_CannotDo : PySem.W.subIn K (.ref c_BadText) (.ref c_CannotDo) = some false)
    (x_BadText_BadText : PySem.W.subIn K (.ref c_BadText) (.ref c_BadText) = some true)
    (cl_ChangeError : PySem.W.isClsIn K c_ChangeError = true)
    (t_ChangeError : PySem.W.typeIn K (.ref c_ChangeError) = some (.type "type"))
    (cl_Kinds : PySem.W.isClsIn K c_Kinds = true)
    (t_Kinds : PySem.W.typeIn K (.ref c_Kinds) = some (.type "type"))
    (cg : PySem.W.specialIn K (.builtin "object.__class__") "__get__" = some (some (.builtin "getset_descriptor.__get__")))
    (ct : PySem.W.takesIn K (.builtin "object.__class__") = some true)
    (x_BadText : PySem.W.excIn K c_BadText [.type "ValueError", .type "Exception", .type "BaseException", .type "object"] "ValueError.__new__" = true)
    (z_BadKinds : PySem.W.findIn K (.ref c_BadKinds) "name" = some none)
    (z_BadChange : PySem.W.findIn K (.ref c_BadChange) "place" = some none)
    (z_CannotDo : PySem.W.findIn K (.ref c_CannotDo) "place" = some none)
    (pg : PySem.W.plainGet K c_Kinds Str.empty = true)
    (hdK : PySem.W.hasDictIn K c_Kinds = true)
    (po : PySem.W.plainOver K c_Kinds = true)
    (saK : PySem.W.findIn K (.ref c_Kinds) "__setattr__" = some (some (.builtin "object.__setattr__")))
    (mkI : PySem.W.makesIn K c_Kinds = true)
    (nT : PySem.W.findIn K (.ref c_Kinds) "told" = some none)
    (fn_getitem : PySem.W.fnIn K f_Kinds_getitem = true)
    (ne : PySem.W.findIn K (.ref c_Kinds) "__ne__" = some (some (.builtin "object.__ne__")))
    (mroK : PySem.W.mroIn K c_Kinds (.type "object") = some true)
    (dictK : PySem.W.subIn K (.type "dict") (.ref c_Kinds) = some false)
    (noneK : PySem.W.subIn K (.type "NoneType") (.ref c_Kinds) = some false)
    (caK : PySem.W.findIn K (.ref c_Kinds) "__class__" = some (some (.builtin "object.__class__")))
    (n_isinstance : PySem.W.nsIn K mainGlobals "isinstance" = some none)
    (n_str : PySem.W.nsIn K mainGlobals "str" = some none)
    (n_int : PySem.W.nsIn K mainGlobals "int" = some none)
    (n_bool : PySem.W.nsIn K mainGlobals "bool" = some none)
    (n_tuple : PySem.W.nsIn K mainGlobals "tuple" = some none)
    (n_list : PySem.W.nsIn K mainGlobals "list" = some none)
    (n_dict : PySem.W.nsIn K mainGlobals "dict" = some none)
    (n_len : PySem.W.nsIn K mainGlobals "len" = some none)
    (n_all : PySem.W.nsIn K mainGlobals "all" = some none)
    (n_any : PySem.W.nsIn K mainGlobals "any" = some none)
    (n_set : PySem.W.nsIn K mainGlobals "set" = some none)
    (n_sorted : PySem.W.nsIn K mainGlobals "sorted" = some none)
    (n_enumerate : PySem.W.nsIn K mainGlobals "enumerate" = some none)
    (n_range : PySem.W.nsIn K mainGlobals "range" = some none)
    (n_abs : PySem.W.nsIn K mainGlobals "abs" = some none)
    (n_TypeError : PySem.W.nsIn K mainGlobals "TypeError" = some none)
    (n_ValueError : PySem.W.nsIn K mainGlobals "ValueError" = some none)
    (kc__law_kinds_right : K.lookup cc__law_kinds_right = some ⟨.type "code", kd__law_kinds_right, .fields kw__law_kinds_right, ks__law_kinds_right⟩)
    (hd__law_kinds_right : codeVs kw__law_kinds_right cc__law_kinds_right P1 = true)
    (out__law_kinds_right : K.lookup P1 = none)
    (kc__law_refused : K.lookup cc__law_refused = some ⟨.type "code", kd__law_refused, .fields kw__law_refused, ks__law_refused⟩)
    (hd__law_refused : codeVs kw__law_refused cc__law_refused P2 = true)
    (out__law_refused : K.lookup P2 = none)
    (kc_law : K.lookup cc_law = some ⟨.type "code", kd_law, .fields kw_law, ks_law⟩)
    (hd_law : codeVs kw_law cc_law P3 = true)
    (out_law : K.lookup P3 = none)
    : TopL K mg P1 P2 P3 where
  T := {
  check_kinds := ⟨f_check_kinds, _, PySem.W.mg_of X G a_check_kinds, fun_mk (st := s_check_kinds) l_check_kinds d_check_kinds p_check_kinds, Fun.binds (fun_mk (st := s_check_kinds) l_check_kinds d_check_kinds p_check_kinds) fun _ _ _ _ _ _ us hl => match us, hl with | [_], _ => rfl⟩
  needs_letter := ⟨f_needs_letter, _, PySem.W.mg_of X G a_needs_letter, fun_mk (st := s_needs_letter) l_needs_letter d_needs_letter p_needs_letter, Fun.binds (fun_mk (st := s_needs_letter) l_needs_letter d_needs_letter p_needs_letter) fun _ _ _ _ _ _ us hl => match us, hl with | [_, _], _ => rfl⟩
  is_whole := ⟨f_is_whole, _, PySem.W.mg_of X G a_is_whole, fun_mk (st := s_is_whole) l_is_whole d_is_whole p_is_whole, Fun.binds (fun_mk (st := s_is_whole) l_is_whole d_is_whole p_is_whole) fun _ _ _ _ _ _ us hl => match us, hl with | [_], _ => rfl⟩
  has_names := ⟨f_has_names, _, PySem.W.mg_of X G a_has_names, fun_mk (st := s_has_names) l_has_names d_has_names p_has_names, Fun.binds (fun_mk (st := s_has_names) l_has_names d_has_names p_has_names) fun _ _ _ _ _ _ us hl => match us, hl with | [_], _ => rfl⟩
  is_name := ⟨f_is_name, _, PySem.W.mg_of X G a_is_name, fun_mk (st := s_is_name) l_is_name d_is_name p_is_name, Fun.binds (fun_mk (st := s_is_name) l_is_name d_is_name p_is_name) fun _ _ _ _ _ _ us hl => match us, hl with | [_], _ => rfl⟩
  is_kind := ⟨f_is_kind, _, PySem.W.mg_of X G a_is_kind, fun_mk (st := s_is_kind) l_is_kind d_is_kind p_is_kind, Fun.binds (fun_mk (st := s_is_kind) l_is_kind d_is_kind p_is_kind) fun _ _ _ _ _ _ us hl => match us, hl with | [_], _ => rfl⟩
  is_row := ⟨f_is_row, _, PySem.W.mg_of X G a_is_row, fun_mk (st := s_is_row) l_is_row d_is_row p_is_row, Fun.binds (fun_mk (st := s_is_row) l_is_row d_is_row p_is_row) fun _ _ _ _ _ _ us hl => match us, hl with | [_, _], _ => rfl⟩
  is_part := ⟨f_is_part, _, PySem.W.mg_of X G a_is_part, fun_mk (st := s_is_part) l_is_part d_is_part p_is_part, Fun.binds (fun_mk (st := s_is_part) l_is_part d_is_part p_is_part) fun _ _ _ _ _ _ us hl => match us, hl with | [_, _], _ => rfl⟩
  done := ⟨f_done, _, PySem.W.mg_of X G a_done, fun_mk (st := s_done) l_done d_done p_done, Fun.binds (fun_mk (st := s_done) l_done d_done p_done) fun _ _ _ _ _ _ us hl => match us, hl with | [_, _, _], _ => rfl⟩
  done_all := ⟨f_done_all, _, PySem.W.mg_of X G a_done_all, fun_mk (st := s_done_all) l_done_all d_done_all p_done_all, Fun.binds (fun_mk (st := s_done_all) l_done_all d_done_all p_done_all) fun _ _ _ _ _ _ us hl => match us, hl with | [_, _, _], _ => rfl⟩
  can_do := ⟨f_can_do, _, PySem.W.mg_of X G a_can_do, fun_mk (st := s_can_do) l_can_do d_can_do p_can_do, Fun.binds (fun_mk (st := s_can_do) l_can_do d_can_do p_can_do) fun _ _ _ _ _ _ us hl => match us, hl with | [_, _, _], _ => rfl⟩
  text_behind := ⟨f_text_behind, _, PySem.W.mg_of X G a_text_behind, fun_mk (st := s_text_behind) l_text_behind d_text_behind p_text_behind, Fun.binds (fun_mk (st := s_text_behind) l_text_behind d_text_behind p_text_behind) fun _ _ _ _ _ _ us hl => match us, hl with | [_, _, _], _ => rfl⟩
  check_text := ⟨f_check_text, _, PySem.W.mg_of X G a_check_text, fun_mk (st := s_check_text) l_check_text d_check_text p_check_text, Fun.binds (fun_mk (st := s_check_text) l_check_text d_check_text p_check_text) fun _ _ _ _ _ _ us hl => match us, hl with | [_], _ => rfl⟩
  check_changes := ⟨f_check_changes, _, PySem.W.mg_of X G a_check_changes, fun_mk (st := s_check_changes) l_check_changes d_check_changes p_check_changes, Fun.binds (fun_mk (st := s_check_changes) l_check_changes d_check_changes p_check_changes) fun _ _ _ _ _ _ us hl => match us, hl with | [_, _], _ => rfl⟩
  is_text := ⟨f_is_text, _, PySem.W.mg_of X G a_is_text, fun_mk (st := s_is_text) l_is_text d_is_text p_is_text, Fun.binds (fun_mk (st := s_is_text) l_is_text d_is_text p_is_text) fun _ _ _ _ _ _ us hl => match us, hl with | [_], _ => rfl⟩
  is_change := ⟨f_is_change, _, PySem.W.mg_of X G a_is_change, fun_mk (st := s_is_change) l_is_change d_is_change p_is_change, Fun.binds (fun_mk (st := s_is_change) l_is_change d_is_change p_is_change) fun _ _ _ _ _ _ us hl => match us, hl with | [_, _], _ => rfl⟩
  _law_number := ⟨f__law_number, _, PySem.W.mg_of X G a__law_number, fun_mk (st := s__law_number) l__law_number d__law_number p__law_number, Fun.binds (fun_mk (st := s__law_number) l__law_number d__law_number p__law_number) fun _ _ _ _ _ _ us hl => match us, hl with | [_, _], _ => rfl⟩
  _law_take := ⟨f__law_take, _, PySem.W.mg_of X G a__law_take, fun_mk (st := s__law_take) l__law_take d__law_take p__law_take, Fun.binds (fun_mk (st := s__law_take) l__law_take d__law_take p__law_take) fun _ _ _ _ _ _ us hl => match us, hl with | [_, _], _ => rfl⟩
  _law_pick := ⟨f__law_pick, _, PySem.W.mg_of X G a__law_pick, fun_mk (st := s__law_pick) l__law_pick d__law_pick p__law_pick, Fun.binds (fun_mk (st := s__law_pick) l__law_pick d__law_pick p__law_pick) fun _ _ _ _ _ _ us hl => match us, hl with | [_, _], _ => rfl⟩
  _law_all_kinds := ⟨f__law_all_kinds, _, PySem.W.mg_of X G a__law_all_kinds, fun_mk (st := s__law_all_kinds) l__law_all_kinds d__law_all_kinds p__law_all_kinds, Fun.binds (fun_mk (st := s__law_all_kinds) l__law_all_kinds d__law_all_kinds p__law_all_kinds) fun _ _ _ _ _ _ us hl => match us, hl with | [], _ => rfl⟩
  _law_kinds := ⟨f__law_kinds, _, PySem.W.mg_of X G a__law_kinds, fun_mk (st := s__law_kinds) l__law_kinds d__law_kinds p__law_kinds, Fun.binds (fun_mk (st := s__law_kinds) l__law_kinds d__law_kinds p__law_kinds) fun _ _ _ _ _ _ us hl => match us, hl with | [_, _], _ => rfl⟩
  _law_has_new := ⟨f__law_has_new, _, PySem.W.mg_of X G a__law_has_new, fun_mk (st := s__law_has_new) l__law_has_new d__law_has_new p__law_has_new, Fun.binds (fun_mk (st := s__law_has_new) l__law_has_new d__law_has_new p__law_has_new) fun _ _ _ _ _ _ us hl => match us, hl with | [_, _], _ => rfl⟩
  _law_do := ⟨f__law_do, _, PySem.W.mg_of X G a__law_do, fun_mk (st := s__law_do) l__law_do d__law_do p__law_do, Fun.binds (fun_mk (st := s__law_do) l__law_do d__law_do p__law_do) fun _ _ _ _ _ _ us hl => match us, hl with | [_, _, _], _ => rfl⟩
  _law_made := ⟨f__law_made, _, PySem.W.mg_of X G a__law_made, fun_mk (st := s__law_made) l__law_made d__law_made p__law_made, Fun.binds (fun_mk (st := s__law_made) l__law_made d__law_made p__law_made) fun _ _ _ _ _ _ us hl => match us, hl with | [_, _, _, _, _], _ => rfl⟩
  _law_is_kind := ⟨f__law_is_kind, _, PySem.W.mg_of X G a__law_is_kind, fun_mk (st := s__law_is_kind) l__law_is_kind d__law_is_kind p__law_is_kind, Fun.binds (fun_mk (st := s__law_is_kind) l__law_is_kind d__law_is_kind p__law_is_kind) fun _ _ _ _ _ _ us hl => match us, hl with | [_], _ => rfl⟩
  _law_thing := ⟨f__law_thing, _, PySem.W.mg_of X G a__law_thing, fun_mk (st := s__law_thing) l__law_thing d__law_thing p__law_thing, Fun.binds (fun_mk (st := s__law_thing) l__law_thing d__law_thing p__law_thing) fun _ _ _ _ _ _ us hl => match us, hl with | [_], _ => rfl⟩
  _law_told := ⟨f__law_told, _, PySem.W.mg_of X G a__law_told, fun_mk (st := s__law_told) l__law_told d__law_told p__law_told, Fun.binds (fun_mk (st := s__law_told) l__law_told d__law_told p__law_told) fun _ _ _ _ _ _ us hl => match us, hl with | [_], _ => rfl⟩
  _law_kinds_right := ⟨f__law_kinds_right, _, PySem.W.mg_of X G a__law_kinds_right, fun_mk (st := s__law_kinds_right) l__law_kinds_right d__law_kinds_right p__law_kinds_right, Fun.binds (fun_mk (st := s__law_kinds_right) l__law_kinds_right d__law_kinds_right p__law_kinds_right) fun _ _ _ _ _ _ us hl => match us, hl with | [_], _ => rfl⟩
  _law_refused := ⟨f__law_refused, _, PySem.W.mg_of X G a__law_refused, fun_mk (st := s__law_refused) l__law_refused d__law_refused p__law_refused, Fun.binds (fun_mk (st := s__law_refused) l__law_refused d__law_refused p__law_refused) fun _ _ _ _ _ _ us hl => match us, hl with | [_, _], _ => rfl⟩
  law_ := ⟨f_law, _, PySem.W.mg_of X G a_law, fun_mk (st := s_law) l_law d_law p_law, Fun.binds (fun_mk (st := s_law) l_law d_law p_law) fun _ _ _ _ _ _ us hl => match us, hl with | [_], _ => rfl⟩
  cChangeError := ⟨c_ChangeError, PySem.W.mg_of X G a_ChangeError, k_ChangeError⟩
  cBadKinds := ⟨c_BadKinds, PySem.W.mg_of X G a_BadKinds, k_BadKinds⟩
  cBadChange := ⟨c_BadChange, PySem.W.mg_of X G a_BadChange, k_BadChange⟩
  cBadText := ⟨c_BadText, PySem.W.mg_of X G a_BadText, k_BadText⟩
  cCannotDo := ⟨c_CannotDo, PySem.W.mg_of X G a_CannotDo, k_CannotDo⟩
  cKinds := ⟨c_Kinds, PySem.W.mg_of X G a_Kinds, k_Kinds⟩
  BadKinds_init := ⟨f_BadKinds_init, _, i_BadKinds_init, g_BadKinds_init, fun_mk (st := s_BadKinds_init) l_BadKinds_init d_BadKinds_init p_BadKinds_init, Fun.binds (fun_mk (st := s_BadKinds_init) l_BadKinds_init d_BadKinds_init p_BadKinds_init) fun _ _ _ _ _ _ us hl => match us, hl with | [_, _], _ => rfl⟩
  BadChange_init := ⟨f_BadChange_init, _, i_BadChange_init, g_BadChange_init, fun_mk (st := s_BadChange_init) l_BadChange_init d_BadChange_init p_BadChange_init, Fun.binds (fun_mk (st := s_BadChange_init) l_BadChange_init d_BadChange_init p_BadChange_init) fun _ _ _ _ _ _ us hl => match us, hl with | [_, _], _ => rfl⟩
  CannotDo_init := ⟨f_CannotDo_init, _, i_CannotDo_init, g_CannotDo_init, fun_mk (st := s_CannotDo_init) l_CannotDo_init d_CannotDo_init p_CannotDo_init, Fun.binds (fun_mk (st := s_CannotDo_init) l_CannotDo_init d_CannotDo_init p_CannotDo_init) fun _ _ _ _ _ _ us hl => match us, hl with | [_, _], _ => rfl⟩
  Kinds_init := ⟨f_Kinds_init, _, i_Kinds_init, g_Kinds_init, fun_mk (st := s_Kinds_init) l_Kinds_init d_Kinds_init p_Kinds_init, Fun.binds (fun_mk (st := s_Kinds_init) l_Kinds_init d_Kinds_init p_Kinds_init) fun _ _ _ _ _ _ us hl => match us, hl with | [_, _], _ => rfl⟩
  Kinds_getitem := ⟨f_Kinds_getitem, _, i_Kinds_getitem, g_Kinds_getitem, fun_mk (st := s_Kinds_getitem) l_Kinds_getitem d_Kinds_getitem p_Kinds_getitem, Fun.binds (fun_mk (st := s_Kinds_getitem) l_Kinds_getitem d_Kinds_getitem p_Kinds_getitem) fun _ _ _ _ _ _ us hl => match us, hl with | [_, _], _ => rfl⟩
  Kinds_contains := ⟨f_Kinds_contains, _, i_Kinds_contains, g_Kinds_contains, fun_mk (st := s_Kinds_contains) l_Kinds_contains d_Kinds_contains p_Kinds_contains, Fun.binds (fun_mk (st := s_Kinds_contains) l_Kinds_contains d_Kinds_contains p_Kinds_contains) fun _ _ _ _ _ _ us hl => match us, hl with | [_, _], _ => rfl⟩
  Kinds_len := ⟨f_Kinds_len, _, i_Kinds_len, g_Kinds_len, fun_mk (st := s_Kinds_len) l_Kinds_len d_Kinds_len p_Kinds_len, Fun.binds (fun_mk (st := s_Kinds_len) l_Kinds_len d_Kinds_len p_Kinds_len) fun _ _ _ _ _ _ us hl => match us, hl with | [_], _ => rfl⟩
  Kinds_eq := ⟨f_Kinds_eq, _, i_Kinds_eq, g_Kinds_eq, fun_mk (st := s_Kinds_eq) l_Kinds_eq d_Kinds_eq p_Kinds_eq, Fun.binds (fun_mk (st := s_Kinds_eq) l_Kinds_eq d_Kinds_eq p_Kinds_eq) fun _ _ _ _ _ _ us hl => match us, hl with | [_, _], _ => rfl⟩
  Kinds_names := ⟨f_Kinds_names, _, i_Kinds_names, g_Kinds_names, fun_mk (st := s_Kinds_names) l_Kinds_names d_Kinds_names p_Kinds_names, Fun.binds (fun_mk (st := s_Kinds_names) l_Kinds_names d_Kinds_names p_Kinds_names) fun _ _ _ _ _ _ us hl => match us, hl with | [_], _ => rfl⟩
  Kinds_growth := ⟨f_Kinds_growth, _, i_Kinds_growth, g_Kinds_growth, fun_mk (st := s_Kinds_growth) l_Kinds_growth d_Kinds_growth p_Kinds_growth, Fun.binds (fun_mk (st := s_Kinds_growth) l_Kinds_growth d_Kinds_growth p_Kinds_growth) fun _ _ _ _ _ _ us hl => match us, hl with | [_, _], _ => rfl⟩
  oBadKinds := ⟨⟨nm_BadKinds, q_BadKinds, N_BadKinds, bs_BadKinds, bm_BadKinds, sn_BadKinds, sub_BadKinds, ab_BadKinds, col_BadKinds, dd_BadKinds, m0_BadKinds, m1_BadKinds, m2_BadKinds, m3_BadKinds, m5_BadKinds, xl_BadKinds, xr_BadKinds⟩, sa_BadKinds, ex_BadKinds, t_BadKinds, k_BadKinds⟩
  oBadChange := ⟨⟨nm_BadChange, q_BadChange, N_BadChange, bs_BadChange, bm_BadChange, sn_BadChange, sub_BadChange, ab_BadChange, col_BadChange, dd_BadChange, m0_BadChange, m1_BadChange, m2_BadChange, m3_BadChange, m5_BadChange, xl_BadChange, xr_BadChange⟩, sa_BadChange, ex_BadChange, t_BadChange, k_BadChange⟩
  oCannotDo := ⟨⟨nm_CannotDo, q_CannotDo, N_CannotDo, bs_CannotDo, bm_CannotDo, sn_CannotDo, sub_CannotDo, ab_CannotDo, col_CannotDo, dd_CannotDo, m0_CannotDo, m1_CannotDo, m2_CannotDo, m3_CannotDo, m5_CannotDo, xl_CannotDo, xr_CannotDo⟩, sa_CannotDo, ex_CannotDo, t_CannotDo, k_CannotDo⟩
  eBadKinds := ⟨⟨cl_BadKinds, ga_BadKinds, gg_BadKinds, ex_BadKinds, hd_BadKinds, cc_BadKinds, cg, ct, mo_BadKinds⟩, t_BadKinds, kit_of cl_ChangeError t_ChangeError us_BadKinds (fun z => nomatch z)⟩
  eBadChange := ⟨⟨cl_BadChange, ga_BadChange, gg_BadChange, ex_BadChange, hd_BadChange, cc_BadChange, cg, ct, mo_BadChange⟩, t_BadChange, kit_of cl_ChangeError t_ChangeError us_BadChange (fun z => nomatch z)⟩
  eCannotDo := ⟨⟨cl_CannotDo, ga_CannotDo, gg_CannotDo, ex_CannotDo, hd_CannotDo, cc_CannotDo, cg, ct, mo_CannotDo⟩, t_CannotDo, kit_of cl_ChangeError t_ChangeError us_CannotDo (fun z => nomatch z)⟩
  eBadText := ⟨⟨cl_BadText, ga_BadText, gg_BadText, ex_BadText, hd_BadText, cc_BadText, cg, ct, mo_BadText⟩, t_BadText, kit_of cl_ChangeError t_ChangeError us_BadText (fun z => nomatch z)⟩
  xBadKinds := ⟨x_BadKinds_BadKinds, x_BadKinds_BadChange, x_BadKinds_CannotDo, x_BadKinds_BadText⟩
  xBadChange := ⟨x_BadChange_BadKinds, x_BadChange_BadChange, x_BadChange_CannotDo, x_BadChange_BadText⟩
  xCannotDo := ⟨x_CannotDo_BadKinds, x_CannotDo_BadChange, x_CannotDo_CannotDo, x_CannotDo_BadText⟩
  xBadText := ⟨x_BadText_BadKinds, x_BadText_BadChange, x_BadText_CannotDo, x_BadText_BadText⟩
  yBadText := x_BadText
  zBadKinds := z_BadKinds
  zBadChange := z_BadChange
  zCannotDo := z_CannotDo
  kf := ⟨⟨pg, hdK, po, saK⟩, nT, ⟨mkI, i_Kinds_init, g_Kinds_init, k_Kinds⟩, fn_getitem, ne, mroK, dictK, kit_of cl_Kinds t_Kinds dictK (fun _ => rfl), kit_of cl_Kinds t_Kinds noneK (fun _ => rfl), caK, cg, ct⟩
  bf := ⟨PySem.W.mg_none_of X G n_isinstance, PySem.W.mg_none_of X G n_str, PySem.W.mg_none_of X G n_int, PySem.W.mg_none_of X G n_bool, PySem.W.mg_none_of X G n_tuple, PySem.W.mg_none_of X G n_list, PySem.W.mg_none_of X G n_dict, PySem.W.mg_none_of X G n_len, PySem.W.mg_none_of X G n_all, PySem.W.mg_none_of X G n_any, PySem.W.mg_none_of X G n_set, PySem.W.mg_none_of X G n_sorted, PySem.W.mg_none_of X G n_enumerate, PySem.W.mg_none_of X G n_range, PySem.W.mg_none_of X G n_abs, PySem.W.mg_none_of X G n_TypeError, PySem.W.mg_none_of X G n_ValueError⟩
  }
  kr := ⟨cc__law_kinds_right, ⟨oc__law_kinds_right, od__law_kinds_right, kv__law_kinds_right, dc__law_kinds_right, pm__law_kinds_right, an__law_kinds_right, ct__law_kinds_right, sl__law_kinds_right, rfl, l__law_kinds_right, d__law_kinds_right⟩, codeHd_mk kc__law_kinds_right hd__law_kinds_right, out__law_kinds_right⟩
  rf := ⟨cc__law_refused, ⟨oc__law_refused, od__law_refused, kv__law_refused, dc__law_refused, pm__law_refused, an__law_refused, ct__law_refused, sl__law_refused, rfl, l__law_refused, d__law_refused⟩, codeHd_mk kc__law_refused hd__law_refused, out__law_refused⟩
  lw := ⟨cc_law, ⟨oc_law, od_law, kv_law, dc_law, pm_law, an_law, ct_law, sl_law, rfl, l_law, d_law⟩, codeHd_mk kc_law hd_law, out_law⟩
end K41

end

section
open PySem PySem.W PyProof.Rows
set_option maxRecDepth 100000 in
set_option maxHeartbeats 0 in
theorem PySem.Challenge.cw_changetables_k41_whole_kinds_and_changes_holds : PySem.Challenge.rw_changetables_k41_whole_kinds_and_changes.Holds := by
  w_on; o_law; k_head; (case hw => w_witness2)
  k_fill
  refine LamX.walk_ofTs (l := PySem.Challenge.rw_changetables_k41_whole_kinds_and_changes) (n := 63) (k := 24) (x := "script") (CX := fun _ => L2.CX0) rfl (by decide) rfl ⟨rfl, by decide, by decide⟩ (fun w h Y => PySem.W.km_in_of Y) ?F (fun _ _ _ _ _ z => z)
  case F =>
    intro w mg fa h Y KX G hmg
    have tabs := PySem.W.km_tabs_of Y
    refine' K41.end_of (K41.top_of KX G ?a_ChangeError ?k_ChangeError ?a_BadKinds ?k_BadKinds ?a_BadChange ?k_BadChange ?a_BadText ?k_BadText ?a_CannotDo ?k_CannotDo ?a_Kinds ?k_Kinds ?a_check_kinds ?a_needs_letter ?a_is_whole ?a_has_names ?a_is_name ?a_is_kind ?a_is_row ?a_is_part ?a_done ?a_done_all ?a_can_do ?a_text_behind ?a_check_text ?a_check_changes ?a_is_text ?a_is_change ?a__law_number ?a__law_take ?a__law_pick ?a__law_all_kinds ?a__law_kinds ?a__law_has_new ?a__law_do ?a__law_made ?a__law_is_kind ?a__law_thing ?a__law_told ?a__law_kinds_right ?a__law_refused ?a_law ?i_BadKinds_init ?g_BadKinds_init ?i_BadChange_init ?g_BadChange_init ?i_CannotDo_init ?g_CannotDo_init ?i_Kinds_init ?g_Kinds_init ?i_Kinds_getitem ?g_Kinds_getitem ?i_Kinds_contains ?g_Kinds_contains ?i_Kinds_len ?g_Kinds_len ?i_Kinds_eq ?g_Kinds_eq ?i_Kinds_names ?g_Kinds_names ?i_Kinds_growth ?g_Kinds_growth ?l_check_kinds ?d_check_kinds ?p_check_kinds ?l_needs_letter ?d_needs_letter ?p_needs_letter ?l_is_whole ?d_is_whole ?p_is_whole ?l_has_names ?d_has_names ?p_has_names ?l_is_name ?d_is_name ?p_is_name ?l_is_kind ?d_is_kind ?p_is_kind ?l_is_row ?d_is_row ?p_is_row ?l_is_part ?d_is_part ?p_is_part ?l_done ?d_done ?p_done ?l_done_all ?d_done_all ?p_done_all ?l_can_do ?d_can_do ?p_can_do ?l_text_behind ?d_text_behind ?p_text_behind ?l_check_text ?d_check_text ?p_check_text ?l_check_changes ?d_check_changes ?p_check_changes ?l_is_text ?d_is_text ?p_is_text ?l_is_change ?d_is_change ?p_is_change ?l__law_number ?d__law_number ?p__law_number ?l__law_take ?d__law_take ?p__law_take ?l__law_pick ?d__law_pick ?p__law_pick ?l__law_all_kinds ?d__law_all_kinds ?p__law_all_kinds ?l__law_kinds ?d__law_kinds ?p__law_kinds ?l__law_has_new ?d__law_has_new ?p__law_has_new ?l__law_do ?d__law_do ?p__law_do ?l__law_made ?d__law_made ?p__law_made ?l__law_is_kind ?d__law_is_kind ?p__law_is_kind ?l__law_thing ?d__law_thing ?p__law_thing ?l__law_told ?d__law_told ?p__law_told ?l__law_kinds_right ?d__law_kinds_right ?p__law_kinds_right ?l__law_refused ?d__law_refused ?p__law_refused ?l_law ?d_law ?p_law ?l_BadKinds_init ?d_BadKinds_init ?p_BadKinds_init ?l_BadChange_init ?d_BadChange_init ?p_BadChange_init ?l_CannotDo_init ?d_CannotDo_init ?p_CannotDo_init ?l_Kinds_init ?d_Kinds_init ?p_Kinds_init ?l_Kinds_getitem ?d_Kinds_getitem ?p_Kinds_getitem ?l_Kinds_contains ?d_Kinds_contains ?p_Kinds_contains ?l_Kinds_len ?d_Kinds_len ?p_Kinds_len ?l_Kinds_eq ?d_Kinds_eq ?p_Kinds_eq ?l_Kinds_names ?d_Kinds_names ?p_Kinds_names ?l_Kinds_growth ?d_Kinds_growth ?p_Kinds_growth ?xl_BadKinds ?xr_BadKinds ?sa_BadKinds ?xl_BadChange ?xr_BadChange ?sa_BadChange ?xl_CannotDo ?xr_CannotDo ?sa_CannotDo ?cl_BadKinds ?ga_BadKinds ?gg_BadKinds ?ex_BadKinds ?hd_BadKinds ?cc_BadKinds ?mo_BadKinds ?t_BadKinds ?us_BadKinds ?x_BadKinds_BadKinds ?x_BadKinds_BadChange ?x_BadKinds_CannotDo ?x_BadKinds_BadText ?cl_BadChange ?ga_BadChange ?gg_BadChange ?ex_BadChange ?hd_BadChange ?cc_BadChange ?mo_BadChange ?t_BadChange ?us_BadChange ?x_BadChange_BadKinds ?x_BadChange_BadChange ?x_BadChange_CannotDo ?x_BadChange_BadText ?cl_CannotDo ?ga_CannotDo ?gg_CannotDo ?ex_CannotDo ?hd_CannotDo ?cc_CannotDo ?mo_CannotDo ?t_CannotDo ?us_CannotDo ?x_CannotDo_BadKinds ?x_CannotDo_BadChange ?x_CannotDo_CannotDo ?x_CannotDo_BadText ?cl_BadText ?ga_BadText ?gg_BadText ?ex_BadText ?hd_BadText ?cc_BadText ?mo_BadText ?t_BadText ?us_BadText ?x_BadText_BadKinds ?x_BadText_BadChange ?x_BadText_CannotDo ?x_BadText_BadText ?cl_ChangeError ?t_ChangeError ?cl_Kinds ?t_Kinds ?cg ?ct ?x_BadText ?z_BadKinds ?z_BadChange ?z_CannotDo ?pg ?hdK ?po ?saK ?mkI ?nT ?fn_getitem ?ne ?mroK ?dictK ?noneK ?caK ?n_isinstance ?n_str ?n_int ?n_bool ?n_tuple ?n_list ?n_dict ?n_len ?n_all ?n_any ?n_set ?n_sorted ?n_enumerate ?n_range ?n_abs ?n_TypeError ?n_ValueError ?kc__law_kinds_right ?hd__law_kinds_right ?out__law_kinds_right ?kc__law_refused ?hd__law_refused ?out__law_refused ?kc_law ?hd_law ?out_law) KX hmg tabs
    (case a_ChangeError => k_is)
    (case k_ChangeError => k_is)
    (case a_BadKinds => k_is)
    (case k_BadKinds => k_is)
    (case a_BadChange => k_is)
    (case k_BadChange => k_is)
    (case a_BadText => k_is)
    (case k_BadText => k_is)
    (case a_CannotDo => k_is)
    (case k_CannotDo => k_is)
    (case a_Kinds => k_is)
    (case k_Kinds => k_is)
    (case a_check_kinds => k_is)
    (case a_needs_letter => k_is)
    (case a_is_whole => k_is)
    (case a_has_names => k_is)
    (case a_is_name => k_is)
    (case a_is_kind => k_is)
    (case a_is_row => k_is)
    (case a_is_part => k_is)
    (case a_done => k_is)
    (case a_done_all => k_is)
    (case a_can_do => k_is)
    (case a_text_behind => k_is)
    (case a_check_text => k_is)
    (case a_check_changes => k_is)
    (case a_is_text => k_is)
    (case a_is_change => k_is)
    (case a__law_number => k_is)
    (case a__law_take => k_is)
    (case a__law_pick => k_is)
    (case a__law_all_kinds => k_is)
    (case a__law_kinds => k_is)
    (case a__law_has_new => k_is)
    (case a__law_do => k_is)
    (case a__law_made => k_is)
    (case a__law_is_kind => k_is)
    (case a__law_thing => k_is)
    (case a__law_told => k_is)
    (case a__law_kinds_right => k_is)
    (case a__law_refused => k_is)
    (case a_law => k_is)
    (case i_BadKinds_init => k_is)
    (case g_BadKinds_init => k_is)
    (case i_BadChange_init => k_is)
    (case g_BadChange_init => k_is)
    (case i_CannotDo_init => k_is)
    (case g_CannotDo_init => k_is)
    (case i_Kinds_init => k_is)
    (case g_Kinds_init => k_is)
    (case i_Kinds_getitem => k_is)
    (case g_Kinds_getitem => k_is)
    (case i_Kinds_contains => k_is)
    (case g_Kinds_contains => k_is)
    (case i_Kinds_len => k_is)
    (case g_Kinds_len => k_is)
    (case i_Kinds_eq => k_is)
    (case g_Kinds_eq => k_is)
    (case i_Kinds_names => k_is)
    (case g_Kinds_names => k_is)
    (case i_Kinds_growth => k_is)
    (case g_Kinds_growth => k_is)
    (case l_check_kinds => k_is)
    (case d_check_kinds => k_is)
    (case p_check_kinds => k_is)
    (case l_needs_letter => k_is)
    (case d_needs_letter => k_is)
    (case p_needs_letter => k_is)
    (case l_is_whole => k_is)
    (case d_is_whole => k_is)
    (case p_is_whole => k_is)
    (case l_has_names => k_is)
    (case d_has_names => k_is)
    (case p_has_names => k_is)
    (case l_is_name => k_is)
    (case d_is_name => k_is)
    (case p_is_name => k_is)
    (case l_is_kind => k_is)
    (case d_is_kind => k_is)
    (case p_is_kind => k_is)
    (case l_is_row => k_is)
    (case d_is_row => k_is)
    (case p_is_row => k_is)
    (case l_is_part => k_is)
    (case d_is_part => k_is)
    (case p_is_part => k_is)
    (case l_done => k_is)
    (case d_done => k_is)
    (case p_done => k_is)
    (case l_done_all => k_is)
    (case d_done_all => k_is)
    (case p_done_all => k_is)
    (case l_can_do => k_is)
    (case d_can_do => k_is)
    (case p_can_do => k_is)
    (case l_text_behind => k_is)
    (case d_text_behind => k_is)
    (case p_text_behind => k_is)
    (case l_check_text => k_is)
    (case d_check_text => k_is)
    (case p_check_text => k_is)
    (case l_check_changes => k_is)
    (case d_check_changes => k_is)
    (case p_check_changes => k_is)
    (case l_is_text => k_is)
    (case d_is_text => k_is)
    (case p_is_text => k_is)
    (case l_is_change => k_is)
    (case d_is_change => k_is)
    (case p_is_change => k_is)
    (case l__law_number => k_is)
    (case d__law_number => k_is)
    (case p__law_number => k_is)
    (case l__law_take => k_is)
    (case d__law_take => k_is)
    (case p__law_take => k_is)
    (case l__law_pick => k_is)
    (case d__law_pick => k_is)
    (case p__law_pick => k_is)
    (case l__law_all_kinds => k_is)
    (case d__law_all_kinds => k_is)
    (case p__law_all_kinds => k_is)
    (case l__law_kinds => k_is)
    (case d__law_kinds => k_is)
    (case p__law_kinds => k_is)
    (case l__law_has_new => k_is)
    (case d__law_has_new => k_is)
    (case p__law_has_new => k_is)
    (case l__law_do => k_is)
    (case d__law_do => k_is)
    (case p__law_do => k_is)
    (case l__law_made => k_is)
    (case d__law_made => k_is)
    (case p__law_made => k_is)
    (case l__law_is_kind => k_is)
    (case d__law_is_kind => k_is)
    (case p__law_is_kind => k_is)
    (case l__law_thing => k_is)
    (case d__law_thing => k_is)
    (case p__law_thing => k_is)
    (case l__law_told => k_is)
    (case d__law_told => k_is)
    (case p__law_told => k_is)
    (case l__law_kinds_right => k_is)
    (case d__law_kinds_right => k_is)
    (case p__law_kinds_right => k_is)
    (case l__law_refused => k_is)
    (case d__law_refused => k_is)
    (case p__law_refused => k_is)
    (case l_law => k_is)
    (case d_law => k_is)
    (case p_law => k_is)
    (case l_BadKinds_init => k_is)
    (case d_BadKinds_init => k_is)
    (case p_BadKinds_init => k_is)
    (case l_BadChange_init => k_is)
    (case d_BadChange_init => k_is)
    (case p_BadChange_init => k_is)
    (case l_CannotDo_init => k_is)
    (case d_CannotDo_init => k_is)
    (case p_CannotDo_init => k_is)
    (case l_Kinds_init => k_is)
    (case d_Kinds_init => k_is)
    (case p_Kinds_init => k_is)
    (case l_Kinds_getitem => k_is)
    (case d_Kinds_getitem => k_is)
    (case p_Kinds_getitem => k_is)
    (case l_Kinds_contains => k_is)
    (case d_Kinds_contains => k_is)
    (case p_Kinds_contains => k_is)
    (case l_Kinds_len => k_is)
    (case d_Kinds_len => k_is)
    (case p_Kinds_len => k_is)
    (case l_Kinds_eq => k_is)
    (case d_Kinds_eq => k_is)
    (case p_Kinds_eq => k_is)
    (case l_Kinds_names => k_is)
    (case d_Kinds_names => k_is)
    (case p_Kinds_names => k_is)
    (case l_Kinds_growth => k_is)
    (case d_Kinds_growth => k_is)
    (case p_Kinds_growth => k_is)
    (case xl_BadKinds => k_is)
    (case xr_BadKinds => decide +kernel)
    (case sa_BadKinds => k_is)
    (case xl_BadChange => k_is)
    (case xr_BadChange => decide +kernel)
    (case sa_BadChange => k_is)
    (case xl_CannotDo => k_is)
    (case xr_CannotDo => decide +kernel)
    (case sa_CannotDo => k_is)
    (case cl_BadKinds => k_is)
    (case ga_BadKinds => k_is)
    (case gg_BadKinds => k_is)
    (case ex_BadKinds => k_is)
    (case hd_BadKinds => k_is)
    (case cc_BadKinds => k_is)
    (case mo_BadKinds => k_is)
    (case t_BadKinds => k_is)
    (case us_BadKinds => k_is)
    (case x_BadKinds_BadKinds => k_is)
    (case x_BadKinds_BadChange => k_is)
    (case x_BadKinds_CannotDo => k_is)
    (case x_BadKinds_BadText => k_is)
    (case cl_BadChange => k_is)
    (case ga_BadChange => k_is)
    (case gg_BadChange => k_is)
    (case ex_BadChange => k_is)
    (case hd_BadChange => k_is)
    (case cc_BadChange => k_is)
    (case mo_BadChange => k_is)
    (case t_BadChange => k_is)
    (case us_BadChange => k_is)
    (case x_BadChange_BadKinds => k_is)
    (case x_BadChange_BadChange => k_is)
    (case x_BadChange_CannotDo => k_is)
    (case x_BadChange_BadText => k_is)
    (case cl_CannotDo => k_is)
    (case ga_CannotDo => k_is)
    (case gg_CannotDo => k_is)
    (case ex_CannotDo => k_is)
    (case hd_CannotDo => k_is)
    (case cc_CannotDo => k_is)
    (case mo_CannotDo => k_is)
    (case t_CannotDo => k_is)
    (case us_CannotDo => k_is)
    (case x_CannotDo_BadKinds => k_is)
    (case x_CannotDo_BadChange => k_is)
    (case x_CannotDo_CannotDo => k_is)
    (case x_CannotDo_BadText => k_is)
    (case cl_BadText => k_is)
    (case ga_BadText => k_is)
    (case gg_BadText => k_is)
    (case ex_BadText => k_is)
    (case hd_BadText => k_is)
    (case cc_BadText => k_is)
    (case mo_BadText => k_is)
    (case t_BadText => k_is)
    (case us_BadText => k_is)
    (case x_BadText_BadKinds => k_is)
    (case x_BadText_BadChange => k_is)
    (case x_BadText_CannotDo => k_is)
    (case x_BadText_BadText => k_is)
    (case cl_ChangeError => k_is)
    (case t_ChangeError => k_is)
    (case cl_Kinds => k_is)
    (case t_Kinds => k_is)
    (case cg => k_is)
    (case ct => k_is)
    (case x_BadText => k_exc)
    (case z_BadKinds => k_is)
    (case z_BadChange => k_is)
    (case z_CannotDo => k_is)
    (case pg => k_is)
    (case hdK => k_is)
    (case po => k_is)
    (case saK => k_is)
    (case mkI => k_is)
    (case nT => k_is)
    (case fn_getitem => k_is)
    (case ne => k_is)
    (case mroK => k_is)
    (case dictK => k_is)
    (case noneK => k_is)
    (case caK => k_is)
    (case n_isinstance => k_is)
    (case n_str => k_is)
    (case n_int => k_is)
    (case n_bool => k_is)
    (case n_tuple => k_is)
    (case n_list => k_is)
    (case n_dict => k_is)
    (case n_len => k_is)
    (case n_all => k_is)
    (case n_any => k_is)
    (case n_set => k_is)
    (case n_sorted => k_is)
    (case n_enumerate => k_is)
    (case n_range => k_is)
    (case n_abs => k_is)
    (case n_TypeError => k_is)
    (case n_ValueError => k_is)
    (case kc__law_kinds_right => k_is)
    (case hd__law_kinds_right => decide +kernel)
    (case out__law_kinds_right => first | rfl | decide +kernel)
    (case kc__law_refused => k_is)
    (case hd__law_refused => decide +kernel)
    (case out__law_refused => first | rfl | decide +kernel)
    (case kc_law => k_is)
    (case hd_law => decide +kernel)
    (case out_law => first | rfl | decide +kernel)

end
