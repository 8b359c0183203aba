import PyProof.Rows.All
import Wide.All
import OpenK.AllK
import Wide.FinOn
import HandS.ForMost
import HandS.Exc
import HandS.ExcOwn
import HandS.OwnEq
import HandS.TryMany
import HandS.ExcInit
import HandS.ExcIs
import HandS.ExcField
import KE.KExcIs
import HandS.SetKeys
import HandS.SetFor
import HandS.DictComp
import HandS.DeepEq
import HandS.Nested
import HandS.Comp
import KE.KDictCopyH
import PyProof.StrOps2
import KE.GoesEnum
import HandS.Walk
import HandS.IsInst
import HandS.EndTab
import HandS.Deep
import HandS.Star
import HandS.TupAny
import HandS.StrMore
import HandS.Conv
import HandS.WordsExc
import HandS.More
import KE.KRevSl
import KE.DataFind
import HandS.Strs
import HandS.Style
import HandS.Set
import HandS.Rev
import KE.KDictList
import PySem.Challenge.RW_changetables_k05_whole_ways_back
set_option Elab.async false
set_option linter.all false
set_option maxRecDepth 100000
section
set_option Elab.async false
set_option linter.all false
set_option maxRecDepth 100000
set_option maxHeartbeats 2000000
/-! Operators of instances with their own methods; a list's item changed in place. -/
namespace KX
open PySem PySem.Spec PyProof.Rows L2

section
variable {X : Cx} {CX : CXT} {k : Nat} {f C : Addr} {fd : FuncData} {ps : List Str} {sp : Sp} {E : XK}

/-- a def of one's own called by the machine itself, at any depth below the body -/
theorem own_run (F : FnOk X.prog X.w X.K X.mg X.base CX k f fd ps sp) (hb : Binds X.K fd ps []) (hx : Passes CX X E) {A : Around} (sb : Sub X k A)
    {pins : List (Addr × Obj)} {σ : L2.St} {H : Hp} {s : Shared} {us : List Value} {vs : List V} {Q : VK} (I : Inv X pins σ H s) (r : Vals vs us) (h : sp vs H Q E) :
    wpAny (model X.prog X.w) A (call (.ref f) us) (EP X pins σ Q) X.xe s := by
  have hl : us.length = ps.length := by rw [← r.length]; exact F.len _ _ _ _ h
  have e0 : Env0 X.prog X.w X.K X.mg X.base A X.stack s H := by
    have e := I.env0
    exact ⟨by rw [sb.fr]; exact e.frames, e.mod, e.bs, e.bsz, e.funs, e.frf, e.hok, e.bare⟩
  have hb' : BindsTo s fd ⟨us, []⟩ (ps.zip us) := by
    have q := hb s us I.kIn (by rw [List.append_nil]; exact hl)
    rw [List.append_nil] at q
    exact q
  refine wpAny_call (codeAny_mono (F.run A X.stack s H ⟨us, []⟩ us vs Q E sb.room e0 hb' r h) fun r' s' hq => ?_)
  cases r' with
  | error e => exact hx pins σ H s e s' I hq
  | ok fl =>
    cases fl with
    | ret u => exact I.after hq
    | next => exact False.elim hq
    | brk => exact False.elim hq
    | cont => exact False.elim hq

/-- x in o, x not in o: o's own __contains__ answers a bool -/
def rOwnIn (C : Addr) (neg : Bool) (sp : Sp) (E : XK) : R2 := fun x y H Q => ∃ a dx fs, y = .ref a ∧ H a = some (.ins C dx fs) ∧ sp [.ref a, x] H (fun v H' => ∃ b, v = .bl b ∧ Q (.bl (if neg then !b else b)) H') E
theorem op_ownIn (F : FnOk X.prog X.w X.K X.mg X.base CX k f fd ps sp) (hr : Room k X.A) (hb : Binds X.K fd ps []) (hx : Passes CX X E)
    (hs : PySem.W.findIn X.K (.ref C) "__contains__" = some (some (.ref f))) (hf : PySem.W.isFn X.K (.ref f) = true) : OpR X (compareOp .In) (rOwnIn C false sp E) := by
  intro pins s σ H x y v u Q I rx ry h
  obtain ⟨a, dx, fs, rfl, ha, q⟩ := h
  cases ry
  obtain ⟨mA, J, _⟩ := ins_get I.hok ha
  obtain ⟨od, J, _⟩ := J.look
  obtain ⟨m, hF⟩ := I.fr
  refine PySem.W.in_K hF I.ok.mod.kin J hs hf (thn (own_run (us := [.ref a, v]) (vs := [.ref a, x]) F hb hx ⟨hr, rfl⟩ I (.cons rfl (.cons rx .nil)) q) fun w s1 hh => ?_)
  obtain ⟨z, H1, I1, rz, b, ez, q1⟩ := hh
  subst ez
  cases rz
  exact wpAny_truthy_bool ⟨.bl _, H1, I1, rfl, q1⟩
theorem op_ownNotIn (F : FnOk X.prog X.w X.K X.mg X.base CX k f fd ps sp) (hr : Room k X.A) (hb : Binds X.K fd ps []) (hx : Passes CX X E)
    (hs : PySem.W.findIn X.K (.ref C) "__contains__" = some (some (.ref f))) (hf : PySem.W.isFn X.K (.ref f) = true) : OpR X (compareOp .NotIn) (rOwnIn C true sp E) := by
  intro pins s σ H x y v u Q I rx ry h
  obtain ⟨a, dx, fs, rfl, ha, q⟩ := h
  cases ry
  obtain ⟨mA, J, _⟩ := ins_get I.hok ha
  obtain ⟨od, J, _⟩ := J.look
  obtain ⟨m, hF⟩ := I.fr
  refine PySem.W.notIn_K hF I.ok.mod.kin J hs hf (thn (own_run (us := [.ref a, v]) (vs := [.ref a, x]) F hb hx ⟨hr, rfl⟩ I (.cons rfl (.cons rx .nil)) q) fun w s1 hh => ?_)
  obtain ⟨z, H1, I1, rz, b, ez, q1⟩ := hh
  subst ez
  cases rz
  exact wpAny_truthy_bool ⟨.bl _, H1, I1, rfl, q1⟩

/-- len(o) by its own __len__ -/
def rOwnLen (C : Addr) (sp : Sp) (E : XK) : List V → Hp → VK → Prop := fun xs H Q => ∃ a dx fs, xs = [.ref a] ∧ H a = some (.ins C dx fs) ∧ sp [.ref a] H (fun v H' => ∃ n : Int, v = .int n ∧ 0 ≤ n ∧ n < 2 ^ 63 ∧ Q (.int n) H') E
theorem call_ownLen (F : FnOk X.prog X.w X.K X.mg X.base CX k f fd ps sp) (hr : Room (k + 1) X.A) (hb : Binds X.K fd ps []) (hx : Passes CX X E)
    (hs : PySem.W.findIn X.K (.ref C) "__len__" = some (some (.ref f))) (hf : PySem.W.isFn X.K (.ref f) = true) : CallR X (.builtin "len") (rOwnLen C sp E) := by
  intro pins s σ H xs us Q I r h
  obtain ⟨a, dx, fs, rfl, ha, q⟩ := h
  obtain ⟨u, rfl, ru⟩ := vals1 r
  cases ru
  obtain ⟨mA, J, _⟩ := ins_get I.hok ha
  obtain ⟨od, J, _⟩ := J.look
  obtain ⟨m, hF⟩ := I.fr
  have sb : Sub X k X.A.in1 := ⟨hr.in1, rfl⟩
  refine PySem.W.len_K hF I.ok.mod.kin J hs hf (thn (own_run (us := [.ref a]) (vs := [.ref a]) F hb hx sb I (.cons rfl .nil) q) fun w s1 hh => ?_)
  obtain ⟨z, H1, I1, rz, n, ez, h0, h1, q1⟩ := hh
  subst ez
  obtain ⟨t, rfl⟩ := rz
  exact ⟨⟨h0, h1⟩, .int n, H1, I1.tok _, ⟨_, rfl⟩, q1⟩

/-- o[i] by its own __getitem__ -/
def rOwnIx (C : Addr) (sp : Sp) (E : XK) : R2 := fun x y H Q => ∃ a dx fs, x = .ref a ∧ H a = some (.ins C dx fs) ∧ sp [.ref a, y] H Q E
theorem pe_ownIx {a b : Expr} {ta tb : TE} {pos : Pos} (F : FnOk X.prog X.w X.K X.mg X.base CX k f fd ps sp) (hr : Room (k + 1) X.A) (hb : Binds X.K fd ps []) (hx : Passes CX X E)
    (hs : PySem.W.findIn X.K (.ref C) "__getitem__" = some (some (.ref f))) (hf : PySem.W.isFn X.K (.ref f) = true) (hfn : PySem.W.fnIn X.K f = true) (ha : PE X a ta) (hb' : PE X b tb)
    (hsl : ∀ x i, subscripted b true (.ref x) i = runValue (.builtin "lifetime.subscript" ⟨[.ref x, i], []⟩)) : PE X (.Subscript a b pos) (tOp (rOwnIx C sp E) ta tb) := by
  refine ⟨fun pins s σ H Q I h => ?_⟩
  refine Subscript_ (binT ha hb' I h fun v u s2 x y H2 I2 rx ry q => ?_)
  obtain ⟨p, dx, fs, rfl, hp, q⟩ := q
  cases rx
  obtain ⟨mA, J, _⟩ := ins_get I2.hok hp
  obtain ⟨od, J, _⟩ := J.look
  obtain ⟨m, hF⟩ := I2.fr
  exact PySem.W.sub_K hF I2.ok.mod.kin J hs hfn hf (own_run (us := [.ref p, u]) (vs := [.ref p, y]) F hb hx (⟨hr.in1, rfl⟩ : Sub X k X.A.in1) I2 (.cons rfl (.cons ry .nil)) q) (hsl _ _)

/-- o == p, o != p by o's own __eq__ (p of any kind that has no == to be asked first) -/
def rOwnEq (C : Addr) (neg : Bool) (sp : Sp) (E : XK) : R2 := fun x y H Q => ∃ a dx fs, x = .ref a ∧ H a = some (.ins C dx fs) ∧ sp [.ref a, y] H (fun v H' => ∃ b, v = .bl b ∧ Q (.bl (if neg then !b else b)) H') E
end

/-- xs[i] of a list, to be changed in place -/
theorem get_list {X : Cx} : PGet X (rIxL X.K) := by
  intro pins s σ H o i ov iv Q I ro ri h
  obtain ⟨p, xs, j, z, rfl, rfl, hq, he, q⟩ := h
  cases ro
  obtain ⟨t, rfl⟩ := ri
  obtain ⟨its, r, pl, hz⟩ := I.list hq
  obtain ⟨n, h1, h2, h3, h4, h5⟩ := atI_get he
  obtain ⟨w, ew, rw'⟩ := r.get h2
  have hl := r.length
  have hn := line63
  have hfin : EP X pins σ Q w s := ⟨z, H, I, rw', q⟩
  by_cases h0 : 0 ≤ j
  · have hj : j.toNat = n := by
      rw [seqIndex_of h0 h5] at h1
      exact Option.some.inj h1
    exact wpAny_getItem_list (x := w) pl.isList h0 (by omega) (by rw [hj]; simpa using ew) hfin
  · have hj : (j + (its.toArray.size : Int)).toNat = n := by
      rw [seqIndex_neg (by omega) h4] at h1
      rw [List.size_toArray, ← hl]
      exact Option.some.inj h1
    exact wpAny_getItem_list_neg (x := w) pl.isList (by omega) (by rw [List.size_toArray] <;> omega) (by omega) (by rw [hj]; simpa using ew) hfin
end KX

end

section
set_option Elab.async false
set_option linter.all false
set_option maxRecDepth 100000
set_option maxHeartbeats 2000000
/-! Several except clauses that name what they caught; isinstance of a caught error that has fields. -/
namespace KX
open PySem PySem.Spec PyProof.Rows L2

/-- one clause: the class that it names, the slot of its name, its suite -/
structure Clause where
  c : Value
  i : Nat
  ts : Addr → Value → Option Addr → TS
/-- the ends of a suite whose slot i is forgotten behind it -/
def forget (i : Nat) (D : Ends) : Ends := { nx := fun σ H => D.nx (σ.set i none) H, rt := D.rt, bk := fun σ H => D.bk (σ.set i none) H, ct := fun σ H => D.ct (σ.set i none) H }
/-- what the clauses wish of an exception of the body -/
def wClauses (K : PySem.W.Frag) (Wz : WX) (D : Ends) : List Clause → WX
  | [] => Wz
  | k :: r => fun cls d σ H => ∃ b, PySem.W.exmOne K cls k.c = some b ∧ (b = true → ∀ a, H a = none → k.ts a cls d (forget k.i D) (σ.set k.i (some (.ref a))) H) ∧ (b = false → wClauses K Wz D r cls d σ H)
inductive Clauses (X : Cx) : List ExceptHandler → List Clause → Prop
  | nil : Clauses X [] []
  | cons {x n : Str} {k : Clause} {st₀ : Stmt} {sts : List Stmt} {q1 q2 : Pos} {hds : List ExceptHandler} {l : List Clause} (nm : Names X x k.c) (hi : X.N[k.i]? = some n) (hk : X.env.kindOf n = some .local)
      (su : ∀ (a : Addr) (oe : Obj) (cls : Value) (d : Option Addr) (pn : List (Addr × Obj)), Zc cls d oe → (∃ vs, oe.data = .fields vs) → PSs (X.suite a ((a, oe) :: pn)) (st₀ :: sts) (k.ts a cls d)) (r : Clauses X hds l) :
      Clauses X (.ExceptHandler (some (.Name x q1)) (some n) (st₀ :: sts) q2 :: hds) (k :: l)

section
variable {X : Cx} {body : List Stmt} {h₀ : ExceptHandler} {hds : List ExceptHandler} {l : List Clause} {pos : Pos} {tb : WX → TS} {Wz : WX} {pins : List (Addr × Obj)}

/-- the clauses looked through, one by one, for an exception at a that has landed in this frame -/
theorem clauses_run (ok : X.Ok) (fr : X.A.frames = some (X.env :: X.outer)) (stk : X.stack = X.env :: X.outer) (hf : X.env.frame = some X.env.locals) (nd : X.N.Nodup) (tk : Takes X Wz)
    {a : Addr} {B : Heap} {sI : Shared} {σ : L2.St} {H : Hp} {cls : Value} {d : Option Addr} {D : Ends} {s' : Shared} (J : Inv X pins σ H sI)
    (nb : ∀ b o, sI.heap.get? b = some o → b ∉ frs X.stack → B.get? b = some o) (os : s'.os = sI.os) (ag : AllBare s'.gens) (na : H a = none)
    {g : Heap} (up : sI.heap.UpToSlots g) (fl : HandSPX.FlyingZ B (X.env :: X.outer) a (Zc cls d) g) :
    ∀ {hds : List ExceptHandler} {l : List Clause}, Clauses X hds l → wClauses X.K Wz D l cls d σ H → wpAny (model X.prog X.w) X.A (handleBy (.ref a) X.env hds) (SP X pins D) X.xe { s' with heap := g } := by
  have Jg : Inv X pins σ H { s' with heap := g } := J.landed nb fl.1 up os ag
  obtain ⟨oe, vs, hoe, hz, hdat⟩ := fl.there
  have out : a ∉ frs (X.env :: X.outer) := fun hm => by
    obtain ⟨_, o2, e2, hnf⟩ := fl.2.2.1.mem hm
    rw [hoe] at e2
    cases e2
    exact hnf _ hdat
  have nL : a ≠ X.env.locals := fun z => out (List.mem_filterMap.mpr ⟨X.env, List.mem_cons_self, by rw [hf, z]⟩)
  have nF : a ∉ X.fs := fun hm => by
    obtain ⟨env, he, q⟩ := List.mem_filterMap.mp hm
    exact out (List.mem_filterMap.mpr ⟨env, List.mem_cons_of_mem _ he, q⟩)
  have Su := Jg.suite hoe hdat na nL nF
  intro hds l hc
  induction hc with
  | nil =>
    intro w
    refine wpAny_handleBy_nil ?_
    obtain ⟨_, _, _, oe2, vs2, T, oT, ts2, g1, _, g3, g4, _⟩ := id fl
    have last : wpAny (model X.prog X.w) X.A (setFlight (.ref a) X.env.frame) (fun _ s4 => wpAny (model X.prog X.w) X.A (throw (.ref a) : Sem Flow) (SP X pins D) X.xe s4) X.xe { s' with heap := g } := by
      rw [hf]
      refine HandSPX.setFlight_upZ fl fun g' held up' => wpAny_throw (tk _ _ ⟨a, B, sI, pins, σ, H, cls, d, rfl, J, nb, up.trans up', .inr (.inr ?_), na, os, ag, w⟩)
      rw [stk]
      exact held
    unfold PySem.passOn
    refine wpAny_bind (wpAny_field g1 g3 g4 ?_)
    rw [if_neg (by simp : ¬ ((Value.ref T == Value.none) = true))]
    first
      | exact wpAny_bind (wpAny_pure (wpAny_bind last))
      | exact wpAny_bind last
  | @cons x n k st₀ sts q1 q2 hds2 l2 nm hi hk su r ih =>
    intro w
    obtain ⟨b, hb, yes, no⟩ := w
    refine wpAny_handleBy_cons (codeAny_handlers_test ?_) (fun q => nomatch q)
    have isCls : PySem.W.Looks (model X.prog X.w) g (typeOf (.ref a)) cls := fun A Q E s kk q => wpAny_typeOf_ref (kk _ _ hoe) (by rw [hz.1]; exact q)
    have isOne := PySem.W.exm_one (M := model X.prog X.w) Jg.kIn isCls hb
    have named : ∀ {Q : Value → Shared → Prop} {E : Value → Shared → Prop}, Q k.c { s' with heap := g } → wpAny (model X.prog X.w) (X.A.mark (some (.ref a))) (eval (.Name x q1) X.env) Q E { s' with heap := g } := fun {Q E} q => by
      obtain ⟨hg, hdb, m | ⟨m, bt, nn⟩⟩ := nm
      · exact ld_glob (X := X.suite a ((a, oe) :: (X.pn ++ pins))) Su hg m q hdb
      · exact ld_blt (X := X.suite a ((a, oe) :: (X.pn ++ pins))) Su hg m bt q nn hdb
    refine named (isOne.here ?_)
    cases b with
    | false =>
      show wpAny _ X.A (handleBy (.ref a) X.env hds2) _ _ _
      exact ih (no rfl)
    | true =>
      refine codeAny_handlers_suite_as (HandSPX.lands_againZ fl fun g' fl' up' => ?_)
      obtain ⟨oe2, vs2, e2, z2, d2⟩ := fl'.there
      have J2 : Inv X pins σ H { s' with heap := g' } := J.landed nb fl'.1 (up.trans up') os ag
      have Su2 := J2.suite e2 d2 na nL nF
      refine store_ok (X := X.suite a ((a, oe2) :: (X.pn ++ pins))) (v := .ref a) Su2 nd hi (.inl hk) rfl (fun s5 S5 => ?_) (.inr hk)
      have body := (su a oe2 cls d (X.pn ++ pins) z2 ⟨_, d2⟩).run [] s5 _ H _ S5 (yes rfl a na)
      refine wpAny_mono body (fun f s6 hsp => ?_) (fun _ _ z => False.elim z)
      have gone : ∀ {σ6 : L2.St} {H6 : Hp} {Q : Shared → Prop}, Inv (X.suite a ((a, oe2) :: (X.pn ++ pins))) [] σ6 H6 s6 → (∀ s7, Inv X pins (σ6.set k.i none) H6 s7 → Q s7) →
          wpAny (model X.prog X.w) X.A (do bindName X.env n .none; unbindBehindTheSuite X.env n q2) (fun _ s7 => Q s7) X.xe s6 := fun {σ6 H6 Q} S6 hq => gone_ok (S6.unsuite ok) nd hi hk hq
      cases f with
      | ret u =>
        obtain ⟨v6, σ6, H6, S6, r6, q6⟩ := hsp
        exact gone S6 fun s7 J7 => ⟨v6, _, H6, J7, r6, q6⟩
      | next =>
        obtain ⟨σ6, H6, S6, q6⟩ := hsp
        exact gone S6 fun s7 J7 => ⟨_, H6, J7, q6⟩
      | brk =>
        obtain ⟨σ6, H6, S6, q6⟩ := hsp
        exact gone S6 fun s7 J7 => ⟨_, H6, J7, q6⟩
      | cont =>
        obtain ⟨σ6, H6, S6, q6⟩ := hsp
        exact gone S6 fun s7 J7 => ⟨_, H6, J7, q6⟩

/-- try: body, then clauses «except x as n» -/
theorem ps_try_clauses (stk : X.stack = X.env :: X.outer) (hf : X.env.frame = some X.env.locals) (nd : X.N.Nodup) (tk : Takes X Wz)
    (hb : ∀ (W : WX) (pn : List (Addr × Obj)) (xe : Value → Shared → Prop), Takes (X.tr pn xe) W → PassesOwn (model X.prog X.w) X.A X.env xe → PSs (X.tr pn xe) body (tb W))
    (hh : Clauses X (h₀ :: hds) l) : PS X (.Try body (h₀ :: hds) [] [] pos) (fun D σ H => tb (wClauses X.K Wz D l) D σ H) := by
  refine ⟨fun pins s σ H D I h => ?_⟩
  have ok := I.ok
  have fr : X.A.frames = some (X.env :: X.outer) := by rw [ok.frames, stk]
  let catch_ : Value → Shared → Prop := fun e s₁ => wpAny (model X.prog X.w) X.A (noteFrame e X.env) (fun _ s₂ => wpAny (model X.prog X.w) X.A (setFlight e none)
    (fun _ s₃ => wpAny (model X.prog X.w) X.A (handleBy e X.env (h₀ :: hds)) (SP X pins D) X.xe s₃) X.xe s₂) X.xe s₁
  have caught : Takes (X.tr (X.pn ++ pins) catch_) (wClauses X.K Wz D l) := by
    rintro u s' ⟨a, B, sI, pins', σ', H', cls, d, rfl, J', nb, up, sky, na, os, ag, w⟩
    have J : Inv X pins σ' H' sI := J'.ofTry ok
    have sky' : Sky B (X.env :: X.outer) a (Zc cls d) X.env.locals s'.heap := by
      rw [← stk]
      exact sky
    show wpAny (model X.prog X.w) X.A (noteFrame (.ref a) X.env) _ _ _
    exact Sky.land Zc.steady fr hf sky' fun g fl up2 => clauses_run ok fr stk hf nd tk J nb os ag na (up.trans up2) fl hh w
  refine wpAny_Try_except (wpAny_mono ((hb _ (X.pn ++ pins) catch_ caught PassesOwn.looking).run [] s σ H D (I.toTry _) h) (fun f s1 hsp => ?_) fun _ _ z => z)
  cases f with
  | ret u =>
    obtain ⟨v, σ1, H1, J1, r1, q1⟩ := hsp
    exact ⟨v, σ1, H1, J1.ofTry ok, r1, q1⟩
  | next =>
    obtain ⟨σ1, H1, J1, q1⟩ := hsp
    exact wpAny_execs_nil ⟨σ1, H1, J1.ofTry ok, q1⟩
  | brk =>
    obtain ⟨σ1, H1, J1, q1⟩ := hsp
    exact ⟨σ1, H1, J1.ofTry ok, q1⟩
  | cont =>
    obtain ⟨σ1, H1, J1, q1⟩ := hsp
    exact ⟨σ1, H1, J1.ofTry ok, q1⟩
end
end KX

end

section
set_option Elab.async false
set_option linter.all false
set_option maxRecDepth 100000
set_option maxHeartbeats 2000000
namespace KX
open PySem PySem.Spec PyProof.Rows L2
/-- what the class at D must say for isinstance and for fields -/
structure ErrC (K : PySem.W.Frag) (D : Addr) : Prop where
  cl : (PySem.W.clsIn K D).isSome = true
  ga : PySem.W.findIn K (.ref D) "__getattribute__" = some (some (.builtin "BaseException.__getattribute__"))
  gg : PySem.W.findIn K (.ref D) "__getattr__" = some none
  ex : PySem.W.subIn K (.ref D) (.type "BaseException") = some true
  hd : PySem.W.hasDictIn K D = true
  cc : PySem.W.findIn K (.ref D) "__class__" = some (some (.builtin "object.__class__"))
  cg : PySem.W.specialIn K (.builtin "object.__class__") "__get__" = some (some (.builtin "getset_descriptor.__get__"))
  ct : PySem.W.takesIn K (.builtin "object.__class__") = some true
  mo : PySem.W.mroIn K D (.type "object") = some true
theorem ErrC.xf {K : PySem.W.Frag} {D : Addr} (T : ErrC K D) : XfC K D := ⟨T.ga, T.gg, T.ex, T.hd⟩
/-- the error's own dict, if it has one, is known -/
def DictKnown (d : Option Addr) (H : Hp) : Prop := d = none ∨ ∃ dd fs, d = some dd ∧ H dd = some (.xd fs)
/-- isinstance(error, c), error the one that the suite holds (at a; its class D, its dict d) -/
def rIsErr (K : PySem.W.Frag) (a D : Addr) (cls : Value) (d : Option Addr) : List V → Hp → VK → Prop := fun xs H Q => ∃ (c : V) (cv : Value) (b : Bool), cls = .ref D ∧ xs = [.ref a, c] ∧ (∀ u, RelV c u → u = cv) ∧ PySem.W.kitOne K (.ref D) cv = some b ∧ DictKnown d H ∧ Q (.bl b) H
theorem call_isErr {X : Cx} {a D : Addr} {oe : Obj} {cls : Value} {d : Option Addr} {pn : List (Addr × Obj)} (T : ErrC X.K D) (hz : Zc cls d oe) (hf : ∃ vs, oe.data = .fields vs) : CallR (X.suite a ((a, oe) :: pn)) (.builtin "isinstance") (rIsErr X.K a D cls d) := by
  intro pins s σ H xs us Q I r h
  obtain ⟨c, cv, b, ec, rfl, hcv, hk, dk, q⟩ := h
  subst ec
  obtain ⟨u, w', rfl, ru, rw'⟩ := vals2 r
  cases ru
  have ew := hcv _ rw'
  subst ew
  obtain ⟨hget, _⟩ := I.pin (a, oe) (List.mem_append_left _ List.mem_cons_self)
  obtain ⟨vs, hv⟩ := hf
  have nc : PySem.W.notCls oe = true := by
    unfold PySem.W.notCls
    rw [hv]
    all_goals rfl
  have fin : ∀ od : Option Obj, PySem.W.InstAt s.heap a oe D od → wpAny (model X.prog X.w) (X.suite a ((a, oe) :: pn)).A (call (.builtin "isinstance") [.ref a, w']) (EP (X.suite a ((a, oe) :: pn)) pins σ Q) (fun _ _ => False) s := fun od J =>
    PySem.W.kia_one (PySem.W.kitx_exc (od := od) (ox := oe) (gt := none) T.cl T.ga T.gg T.ex T.cc T.cg T.ct T.mo) I.kIn J hk (fun z => nomatch z) fun tk => ⟨.bl b, H, I.kept (t' := tk) fun _ _ z => z, rfl, q⟩
  rcases dk with e | ⟨dd, fs, e, hx⟩
  · subst e
    exact fin none ⟨hget, hz.1, nc, by rw [hz.2]; trivial⟩
  · subst e
    have ob : ObjOk X.prog X.w H s.heap dd (.xd fs) := I.hok dd _ hx
    obtain ⟨mA, hns, _⟩ := ob
    obtain ⟨od, ho, _⟩ := lookIn_ns hns
    exact fin (some od) ⟨hget, hz.1, nc, by rw [hz.2]; exact ho⟩
end KX

end

section
set_option Elab.async false
set_option linter.all false
set_option maxRecDepth 100000
set_option maxHeartbeats 4000000
/-! len(set(t)) of a tuple of keys (ints and texts): how many differ. -/
namespace KX
open PySem PySem.Spec PyProof.Rows L2

/-- j stands in l -/
def has {α : Type} [DecidableEq α] (l : List α) (j : α) : Bool := decide (j ∈ l)
theorem has_app {α : Type} [DecidableEq α] (l : List α) (k j : α) : has (l ++ [k]) j = (has l j || decide (j = k)) := by
  unfold has
  simp [List.mem_append]
/-- how many of the first i differ -/
def nDiff {α : Type} [DecidableEq α] (ks : List α) : Nat → Nat
  | 0 => 0
  | i + 1 => match ks[i]? with
    | some k => if has (ks.take i) k = true then nDiff ks i else nDiff ks i + 1
    | none => nDiff ks i
theorem nDiff_succ {α : Type} [DecidableEq α] {ks : List α} {i : Nat} {k : α} (h : ks[i]? = some k) : nDiff ks (i + 1) = if has (ks.take i) k = true then nDiff ks i else nDiff ks i + 1 := by
  rw [nDiff.eq_2, h]
theorem nDiff_le {α : Type} [DecidableEq α] (ks : List α) : ∀ i, nDiff ks i ≤ i
  | 0 => Nat.le_refl _
  | i + 1 => by
    have ih := nDiff_le ks i
    unfold nDiff
    split
    · split <;> omega
    · omega
theorem nDiff_nodup {α : Type} [DecidableEq α] (ks : List α) : ∀ i, i ≤ ks.length → (nDiff ks i = i ↔ (ks.take i).Nodup)
  | 0, _ => by simp [nDiff]
  | i + 1, h => by
    have ih := nDiff_nodup ks i (by omega)
    have le := nDiff_le ks i
    have hg : ks[i]? = some (ks[i]'(by omega)) := List.getElem?_eq_getElem (by omega)
    unfold nDiff
    rw [hg, List.take_add_one, hg]
    simp only [Option.toList_some]
    split
    · rename_i hm
      have hm : ks[i]'(by omega) ∈ ks.take i := of_decide_eq_true hm
      constructor
      · intro e
        omega
      · intro hn
        exact absurd rfl ((List.nodup_append.mp hn).2.2 _ hm _ (by simp))
    · rename_i hm
      have hm : ¬ ks[i]'(by omega) ∈ ks.take i := fun z => hm (decide_eq_true z)
      constructor
      · intro e
        have e' : nDiff ks i = i := by omega
        refine List.nodup_append.mpr ⟨ih.mp e', by simp, fun a ha b hb z => ?_⟩
        simp at hb
        rw [hb] at z
        exact hm (z ▸ ha)
      · intro hn
        rw [ih.mpr (List.nodup_append.mp hn).1]

/-- the object of a set just made -/
abbrev set0 (w : World) : Obj := { cls := .type "set", dict := none, data := .set #[] 0 (.fresh 0 0 (!w.params.followText "set-order")) }
section
variable {P : Program} {w : World} {A : Around} {E : Value → Shared → Prop} {s : Shared}
/-- the turns of an update by a walk that yields the keys ks -/
theorem keys_update {I : Addr} {fp wr : List Addr} {G : Array GenState → Array GenState → Prop} {n : Nat} {Pv : Nat → Value → Prop} {St : Nat → Shared → Prop} {R : Result → Shared → Prop} (W : WalksS P w A.in1 I fp wr G n Pv St) (S : Addr) (out : S ∉ fp) (ks : List Key)
    (hn : n = ks.length) (room : ks.length + 1 < scanBound) (yields : ∀ i v, Pv i v → ∃ k, ks[i]? = some k ∧ keyIs k v = true ∧ v.scannable = true) :
    ∀ (m i : Nat) (s : Shared), n - i = m → i ≤ n → St i s → s.heap.SetOf (mixKind P w) S (has (ks.take i)) (nDiff ks i) →
      (∀ s', Moved (S :: wr) G s s' → s'.heap.SetOf (mixKind P w) S (has ks) (nDiff ks n) → R (.ok (.ret .none)) s') → codeAny (model P w) A (.builtin "set.update.loop" ⟨[.ref S, .ref I], []⟩) R s := by
  have outw : S ∉ wr := fun h => out (W.sub _ h)
  have more : ∀ b ∈ wr, b ∈ S :: wr := fun b hb => List.mem_cons_of_mem _ hb
  intro m
  induction m with
  | zero =>
    intro i s hm hi st hS fin
    obtain rfl : i = n := by omega
    refine codeAny_builtin F.entry_set_update_loop ?_
    rw [Around.under_plainId F.plain_set_update_loop _]
    show wpAny _ A.in1 (pyNext (.ref I) >>= _) _ _ s
    refine wpAny_bind (W.done s _ _ st fun s' mv => ?_)
    rw [show ks.take i = ks from List.take_of_length_le (by omega)] at hS
    show wpAny _ A.in1 (ret Value.none) _ _ s'
    exact wpAny_pure (fin s' (mv.mono more) (setOf_at hS fun o e => mv.heap S o outw e))
  | succ m ih =>
    intro i s hm hi st hS fin
    have lt : i < n := by omega
    refine codeAny_builtin F.entry_set_update_loop ?_
    rw [Around.under_plainId F.plain_set_update_loop _]
    show wpAny _ A.in1 (pyNext (.ref I) >>= _) _ _ s
    refine wpAny_bind (W.item i s _ _ lt st fun v s' pv st' mv => ?_)
    obtain ⟨k, hk, ik, sc⟩ := yields i v pv
    have hS' := setOf_at hS fun o e => mv.heap S o outw e
    show wpAny _ A.in1 (holding [v] (setAdd S v) >>= _) _ _ s'
    refine wpAny_bind (wpAny_holding ?_)
    unfold setAdd
    refine wpAny_holding (wpAny_bind ((mixKind P w).pyHash (k := k) ik ?_))
    have le := nDiff_le ks i
    refine wpAny_setAddHashed_of (knd := mixKind P w) (s := { s' with toks := s'.toks + 1 }) ik sc hS' (by omega) fun h' sb hS2 => ?_
    have ei : nDiff ks (i + 1) = if has (ks.take i) k = true then nDiff ks i else nDiff ks i + 1 := by
      exact nDiff_succ hk
    have ej : has (ks.take (i + 1)) = fun j => has (ks.take i) j || decide (j = k) := by
      funext j
      rw [List.take_add_one, hk]
      exact has_app _ _ _
    have hS3 : h'.SetOf (mixKind P w) S (has (ks.take (i + 1))) (nDiff ks (i + 1)) := by
      rw [ei, ej]
      exact hS2
    refine wpAny_pure ⟨plainId_quiet F.plain_set_update_loop _, ih (i + 1) _ (by omega) lt (W.frame _ s' _ _ st' (Nat.le_succ _) fun b hb o e => ?_) hS3 fun s2 mv2 hS4 => ?_⟩
    · rw [sb.2 b fun z => out (by rw [← z]; exact hb)]
      exact e
    · refine fin s2 (Moved.trans W.gtrans ((mv.mono more).then_heap (Nat.le_succ _) fun b o hb e => ?_) mv2) hS4
      rw [sb.2 b fun z => hb (by rw [z]; exact List.mem_cons_self)]
      exact e
/-- the keys of a tuple's items -/
def KeysAre (us : List Value) (ks : List Key) : Prop := Paired (fun v k => keyIs k v = true ∧ v.scannable = true) us ks
theorem KeysAre.get : ∀ {us : List Value} {ks : List Key} {i : Nat} {v : Value}, KeysAre us ks → us[i]? = some v → ∃ k, ks[i]? = some k ∧ keyIs k v = true ∧ v.scannable = true
  | _, _, _, _, .nil, e => by simp at e
  | _, _, 0, v, .cons h _, e => by
    simp at e
    subst e
    exact ⟨_, rfl, h⟩
  | _, _, i + 1, v, .cons _ t, e => by
    obtain ⟨k, h1, h2⟩ := KeysAre.get (i := i) t (by simpa using e)
    exact ⟨k, by simpa using h1, h2⟩
theorem set0_of {h : Heap} {a : Addr} (e : h.get? a = some (set0 w)) : h.SetOf (mixKind P w) a (has []) (nDiff ([] : List Key) 0) :=
  ⟨_, #[], 0, _, e, ⟨rfl, rfl, rfl⟩, rfl, (fun e he => by simp at he), (fun k => by simp [has]), (by decide), (by rfl), rfl⟩
theorem set_of_tuple {l : Addr} {its : List Value} (ks : List Key) {Q : Value → Shared → Prop} (hh : A.handled = none) (hl : s.heap.IsTuple l its.toArray) (hk : KeysAre its ks) (hb : ks.length + 1 < scanBound)
    (h : ∀ (h' : Heap) (tk : Nat), h'.SetOf (mixKind P w) s.heap.objs.size (has ks) (nDiff ks ks.length) → (∀ b o, s.heap.get? b = some o → h'.get? b = some o) → Q (.ref s.heap.objs.size) { s with heap := h', toks := tk }) :
    wpAny (model P w) A (call (.type "set") [.ref l]) Q E s := by
  have hsz : its.toArray.size = ks.length := by
    rw [List.size_toArray]
    exact Paired.length hk
  obtain ⟨c, tl, hmro⟩ := F.called_set.mro
  have t1 := F.called_set.made
  have t2 := F.called_set.sub
  have t3 := F.called_set.notType
  have t4 := F.called_set.canCreate
  have t5 := F.typeCall_set_1 (.ref l)
  let N : Addr := s.heap.objs.size
  refine wpAny_call (codeAny_of_tree ?_)
  show wpAny _ _ (callAny (.type "set") _) _ _ _
  refine wpAny_pure ⟨Code.quiet_builtin _ (by decide +kernel), codeAny_builtin F.entry_type_call ?_⟩
  rw [Around.under_plain (weight_type_call_type "set" [.ref l] []) rfl]
  repeat (any_goals (first | assumption | wp_step))
  have new := code_set_led1 (P := P) (w := w) (A := A.in1) (s := s) (.ref l) (E := E) (Q₁ := fun obj s₁ => obj = .ref s.heap.objs.size ∧ s₁ = { s with heap := s.heap.push (set0 w) }) ⟨rfl, rfl⟩
  refine codeAny_mono new fun r s₁ hr => ?_
  cases r with
  | error e => exact hr
  | ok fl =>
    cases fl with
    | next => exact hr.elim
    | brk => exact hr.elim
    | cont => exact hr.elim
    | ret obj =>
      obtain ⟨rfl, rfl⟩ := hr
      have at0 : (s.heap.push (set0 w)).get? s.heap.objs.size = some (set0 w) := Heap.get?_push_size _ rfl
      have ty0 : Shared.TypeIs { s with heap := s.heap.push (set0 w) } (.ref s.heap.objs.size) "set" := ⟨_, at0, rfl⟩
      have u1 := F.called_set.init.lookup
      have u2 := F.called_set.init.bind (.ref s.heap.objs.size)
      repeat (any_goals (first | assumption | wp_step))
      refine codeAny_mono (codeAny_call_builtin (R := wants (fun r s₂ => r = .none ∧ ∃ h' tk, s₂ = { s with heap := h', toks := tk } ∧ h'.SetOf (mixKind P w) s.heap.objs.size (has ks) (nDiff ks ks.length) ∧
        ∀ b o, s.heap.get? b = some o → h'.get? b = some o) E) F.called_set.init.plain F.entry_set_init (check_set_init_1 ty0 ?_)) fun r₂ s₂ hr₂ => ?_
      · obtain ⟨⟨oc, odd, oda, osl⟩, ho, hc, nl, hd⟩ := hl
        simp only at hc hd
        subst hc hd
        have ho1 : (s.heap.push (set0 w)).get? l = some { cls := .type "tuple", dict := odd, data := .seq its.toArray nl, slots := osl } := Heap.get?_push_of_some _ ho
        have tup1 : (s.heap.push (set0 w)).IsTuple l its.toArray := ⟨_, ho1, rfl, nl, rfl⟩
        have v1 := F.sub_tuple_set
        have v2 := F.sub_tuple_frozenset
        have v3 : (Value.type "tuple" == Value.type "dict") = false := by decide
        have hlS : l < s.heap.objs.size := Heap.lt_size ho
        have hh3 : A.in1.in1.in1.handled = none := by simp [hh]
        have sz1 : (s.heap.push (set0 w)).objs.size = s.heap.objs.size + 1 := Heap.size_push ..
        unfold Builtin.«set.__init__» noKeywords Builtin.Frozenset.updateFrom
        generalize hPI : pyIter = PI
        wp_walk
        subst hPI
        refine wpAny_pyIter_tuple tup1 (wpAny_bind (wpAny_runValue ?_))
        refine keys_update ((Walks.tuple hh3 (s.heap.push (set0 w)).objs.size l (by rw [sz1]; exact Nat.ne_of_lt (Nat.lt_succ_of_lt hlS)) its.toArray).toS) s.heap.objs.size ?out ks hsz hb (fun i v hv => hk.get (by simpa using hv)) (its.toArray.size - 0) 0 _ (by omega) (Nat.zero_le _)
          ⟨⟨_, Heap.get?_push_size _ rfl, rfl, rfl⟩, tup1.push _⟩ (set0_of (Heap.get?_push_of_some _ at0)) fun s' mv hS' => ?fin
        case out =>
          rw [sz1]
          simp only [List.mem_cons, List.not_mem_nil, or_false, not_or]
          exact ⟨Nat.ne_of_lt (Nat.lt_succ_self _), Nat.ne_of_gt hlS⟩
        case fin =>
          rw [hsz] at hS'
          obtain ⟨h', g2, d', tk', os'⟩ := s'
          have e1 : g2 = s.gens := mv.gens
          have e2 : d' = s.drawn := mv.drawn
          have e3 : os' = s.os := mv.os
          subst e1 e2 e3
          show wpAny _ _ _ _ _ _
          refine wpAny_pure ?_
          show wpAny _ _ (ret Value.none) _ _ _
          refine wpAny_pure ⟨rfl, h', tk', rfl, hS', fun b o e => mv.heap b o ?_ (Heap.get?_push_of_some _ (Heap.get?_push_of_some _ e))⟩
          have lt : b < s.heap.objs.size := Heap.lt_size e
          rw [sz1]
          simp only [List.mem_cons, List.not_mem_nil, or_false, not_or]
          exact ⟨Nat.ne_of_lt lt, Nat.ne_of_lt (Nat.lt_succ_of_lt lt)⟩
      · cases r₂ with
        | error e => exact hr₂
        | ok fl₂ =>
          cases fl₂ with
          | next => exact hr₂.elim
          | brk => exact hr₂.elim
          | cont => exact hr₂.elim
          | ret r =>
            obtain ⟨rfl, h', tk, rfl, hS', old⟩ := hr₂
            repeat (any_goals (first | assumption | wp_step))
            exact h _ _ hS' old
end
theorem keys_of_vals (P : Program) (w : World) : ∀ {ks : List Key} {us : List Value}, Vals (ks.map kV) us → KeysAre us ks
  | [], _, .nil => .nil
  | k :: ks, _, .cons r t => .cons ⟨kV_is (P := P) (w := w) r, key_scan r⟩ (keys_of_vals P w t)
/-- len(set(t)), t a tuple of keys -/
def tLenSetK (K : PySem.W.Frag) (ta : TE) : TE := fun σ H Q => ta σ H fun x H1 => ∃ (l : Addr) (ks : List Key), x = .ref l ∧ SqT K H1 l (ks.map kV) ∧ ks.length ≤ 4000 ∧ Q (.int (nDiff ks ks.length : Nat)) H1
theorem pe_lenSetK {X : Cx} {a : Expr} {ta : TE} {p p2 q pos : Pos} (hg : Gl X "len") (hm : X.mg "len" = none) (hg2 : Gl X "set") (hm2 : X.mg "set" = none) (ha : PE X a ta) (hc : X.calm = true := by rfl)
    (na : starEach [a] X.env = (false, eval a X.env) :: starEach [] X.env := by rfl) : PE X (.Call (.Name "len" p) [.Call (.Name "set" p2) [a] [] q] [] pos) (tLenSetK X.K ta) := by
  refine ⟨fun pins s σ H Q I h => ?_⟩
  refine Call_ (ld_blt I hg hm boot_len (PyProof.Rows.callWith_builtin1 (PyProof.Rows.args_cons ?_ rfl) rfl rfl))
  refine Call_ (ld_blt I hg2 hm2 boot_set ?_)
  refine PyProof.Rows.callWith_type1 (PyProof.Rows.args_cons (thn (ha.run pins s σ H _ I h) fun v s1 hh => PyProof.Rows.args_nil ?_) na) na rfl
  obtain ⟨x, H1, I1, r1, l, ks, rfl, hs, hl, q1⟩ := hh
  cases r1
  obtain ⟨its, r, tp, hz⟩ := I1.tuple hs
  refine set_of_tuple ks (I1.ok.hd hc) tp (keys_of_vals X.prog X.w r) (by unfold scanBound; omega) fun h' tk hS old => PyProof.Rows.args_nil ?_
  obtain ⟨o, es, ep, t, ho, hex, hd, _, _, _, hf, hn⟩ := hS
  have I2 : Inv X pins σ H1 { s1 with heap := h', toks := tk } := I1.kept old
  have le := nDiff_le ks ks.length
  exact call_len_set ho hex hd hf (by rw [hn] <;> omega) ⟨.int (nDiff ks ks.length : Nat), H1, I2.tok _, ⟨_, by rw [hn]⟩, q1⟩
end KX

end

section
set_option Elab.async false
set_option linter.all false
set_option maxRecDepth 100000
set_option maxHeartbeats 2000000
/-! Dicts that hold the very same objects: !=. The own == and != of instances. -/
namespace KX
open PySem PySem.Spec PyProof.Rows L2

def isRef : V → Bool
  | .ref _ => true
  | _ => false
theorem hits_very {A : Around} {s : Shared} {ls : List (Key × V)} {vb : List (Key × Value)} (rb : KV ls vb) : ∀ {ks : List (Key × V)} {va : List (Key × Value)}, KV ks va → (∀ p ∈ ks, valV ls p.1 = some p.2 ∧ isRef p.2 = true) →
    PySem.W.KeqHits A s vb va true
  | [], _, .nil, _ => .nil
  | p :: ps, _, .cons (b := q) (l₂ := qs) h t, hp => by
    obtain ⟨e1, e2⟩ := hp p List.mem_cons_self
    obtain ⟨k, v⟩ := p
    obtain ⟨k', v'⟩ := q
    obtain ⟨z1, z2⟩ := h
    have z1 : k = k' := z1
    subst z1
    have rr : RelO (some v) (valueAt vb k) := by rw [← e1]; exact rb.val k
    obtain ⟨y, hy, ry⟩ := rr.some_of
    cases v with
    | ref a =>
      cases z2
      cases ry
      show PySem.W.KeqHits A s vb ((k, Value.ref a) :: qs) (true && true)
      exact .hit hy (SeqAt.EqAt.same _) (hits_very rb t fun p' hm => hp p' (List.mem_cons_of_mem _ hm))
    | _ => cases e2
section
variable {X : Cx}
/-- d != e of two dicts with the same keys that hold the same objects -/
def rNeVery : R2 := fun x y H Q => ∃ a b ks ls, x = .ref a ∧ y = .ref b ∧ H a = some (.dK ks) ∧ H b = some (.dK ls) ∧ ks.length = ls.length ∧ (∀ p ∈ ks, valV ls p.1 = some p.2 ∧ isRef p.2 = true) ∧ Q (.bl false) H
theorem op_neVery (hu : X.A.units < cLine) : OpR X (compareOp .NotEq) rNeVery := by
  intro pins s σ H x y v u Q I rx ry h
  obtain ⟨a, b, ks, ls, rfl, rfl, ea, eb, hlen, hp, q⟩ := h
  cases rx
  cases ry
  obtain ⟨_, ya, va, ra, da⟩ := (show ObjOk X.prog X.w H s.heap a (.dK ks) from I.hok a _ ea)
  obtain ⟨_, yb, vb, rb, db⟩ := (show ObjOk X.prog X.w H s.heap b (.dK ls) from I.hok b _ eb)
  have hl : va.length = vb.length := by rw [← ra.length, ← rb.length, hlen]
  exact PySem.W.keq_ne (knd := mixKind X.prog X.w) (r := true) ya yb da db hu (fun _ => hits_very rb ra hp) (fin_bl I q (by simp [hl]))
end
end KX

end

section
set_option Elab.async false
set_option linter.all false
set_option maxRecDepth 100000
set_option maxHeartbeats 2000000
namespace KX
open PySem PySem.Spec PyProof.Rows L2
section
variable {prog : Program} {w : World} {A : Around} {E : Value → Shared → Prop} {s : Shared} {K : PySem.W.Frag} {x C f : Addr} {ox : Obj} {od : Option Obj} {b tb : Value}
theorem own_ne {Q : Value → Shared → Prop} (hu : A.units + 1 < cLine) (X : K.In s.heap) (I : PySem.W.InstAt s.heap x ox C od) (hb : PySem.W.Looks (model prog w) s.heap (typeOf b) tb) (hn : PySem.W.notFirst K C tb = true)
    (hne : PySem.W.findIn K (.ref C) "__ne__" = some (some (.builtin "object.__ne__"))) (heq : PySem.W.findIn K (.ref C) "__eq__" = some (some (.ref f))) (hf : PySem.W.isFn K (.ref f) = true) (hm : PySem.W.mroIn K C (.type "object") = some true)
    (h : wpAny (model prog w) A.in1 (call (.ref f) [.ref x, b]) (fun v s' => ∃ r, v = .bool r ∧ Q (.bool (!r)) s') E s) : wpAny (model prog w) A (richCompare .NotEq (.ref x) b) Q E s := by
  have body : wpAny (model prog w) A (call (.builtin "object.__ne__") [.ref x, b]) (fun v s' => v ≠ .notImplemented ∧ Q v s') E s := by
    have sub : PySem.W.Looks (model prog w) s.heap (isInstance (.ref x) (.type "object")) true := I.type.andThen (PySem.W.looks_mroIn X hm)
    refine wpAny_call (codeAny_call_builtin (by decide +kernel) PySem.F.cmpEntry_ne (PySem.W.check_slot PySem.F.cmpKind_ne PySem.F.cmpSplit_ne sub (PySem.F.cmpArgs_ne _ _) ?_))
    unfold Builtin.«object.__ne__»
    refine wpAny_bind (wpAny_of_eq (a := ((Value.ref x : Value), [b])) (by first | rfl | (simp only [Builtin.slotArgs]; rfl)) ?_)
    refine wpAny_bind (wpAny_cRoomFor hu ?_)
    refine wpAny_bind (PySem.W.ifBound_K X I heq hf (wpAny_mono h (fun v s' hv => ?_) fun _ _ e => e))
    obtain ⟨r, rfl, q⟩ := hv
    exact wpAny_bind (wpAny_truthy_bool (wpAny_pure ⟨(fun z => nomatch z), q⟩))
  have one : wpAny (model prog w) A (tryCompare (.ref x) "__ne__" b) (fun r s' => ∃ v, r = some v ∧ Q v s') E s := by
    unfold tryCompare
    simp only [callSpecialIfBound?, bindSpecialIfBound?]
    have go : ∀ k : Option Value → Sem (Option Value), (∀ v, v ≠ Value.notImplemented → k (some v) = pure (some v)) → wpAny (model prog w) A (call (.builtin "object.__ne__") ([.ref x] ++ [b]) >>= fun v => pure (some v)) (fun r s' => wpAny (model prog w) A (k r) (fun r s' => ∃ v, r = some v ∧ Q v s') E s') E s := fun k hk =>
      wpAny_bind (wpAny_mono body (fun v s' hv => wpAny_pure (by
        obtain ⟨h1, h2⟩ := hv
        rw [hk v h1]
        exact wpAny_pure ⟨_, rfl, h2⟩)) fun _ _ e => e)
    refine wpAny_bind (wpAny_holding (wpAny_bind (wpAny_bind (wpAny_bind (I.type.here ((PySem.W.looks_findIn X hne).here ?_))))))
    simp only [PySem.F.cmp_object.ne.bind]
    refine wpAny_bind (wpAny_askSetting (wpAny_ite ?_))
    split
    · exact wpAny_bind (wpAny_pure (wpAny_pure (go _ fun v hv => by cases v <;> first | rfl | exact absurd rfl hv)))
    · exact wpAny_tryCatch (wpAny_bind (wpAny_pure (wpAny_pure (go _ fun v hv => by cases v <;> first | rfl | exact absurd rfl hv))))
  unfold richCompare
  simp only [oneThing_ref]
  refine wpAny_holding (wpAny_bind (wpAny_cRoomFor (Nat.lt_of_succ_lt hu) ?_))
  rw [cmpInfo_NotEq]
  dsimp only
  refine wpAny_bind (I.type.here (wpAny_bind (hb.here ?_)))
  have last : ∀ {k : Option Value → Sem Value}, (∀ v, k (some v) = pure v) → wpAny (model prog w) A (tryCompare (.ref x) "__ne__" b >>= k) Q E s := fun hk =>
    wpAny_bind (wpAny_mono one (fun r s' z => by
      obtain ⟨v, rfl, q⟩ := z
      rw [hk]
      exact wpAny_pure q) fun _ _ e => e)
  split
  · rename_i q
    have e : PySem.W.subIn K tb (.ref C) = some false := by
      rcases Bool.or_eq_true_iff.mp hn with e | e
      · rw [beq_iff_eq.mp e] at q
        simp at q
      · exact beq_iff_eq.mp e
    refine wpAny_bind ((PySem.W.looks_subIn X e).here ?_)
    simp only [Bool.false_eq_true, if_false]
    exact last fun v => rfl
  · refine wpAny_bind (wpAny_pure ?_)
    simp only [Bool.false_eq_true, if_false]
    exact last fun v => rfl
end
section
variable {X : Cx} {CX : CXT} {k : Nat} {f C : Addr} {fd : FuncData} {ps : List Str} {sp : Sp} {E : XK}
/-- the type of a value that has no own order in comparisons with the class at C -/
def TyB (X : Cx) (H : Hp) (C : Addr) (y : V) : Prop := ∀ (pins : List (Addr × Obj)) (σ : L2.St) (s : Shared) (u : Value), Inv X pins σ H s → RelV y u → ∃ tb, PySem.W.Looks (model X.prog X.w) s.heap (typeOf u) tb ∧ PySem.W.notFirst X.K C tb = true
theorem TyB.same {H : Hp} {a dx : Addr} {fs : List (Str × V)} (h : H a = some (.ins C dx fs)) : TyB X H C (.ref a) := fun pins σ s u I r => by
  cases r
  obtain ⟨mA, J, _⟩ := ins_get I.hok h
  obtain ⟨od, J, _⟩ := J.look
  exact ⟨_, J.type, by simp [PySem.W.notFirst]⟩
theorem TyB.dict {H : Hp} {a : Addr} {kvs : List (Key × V)} (h : H a = some (.dK kvs)) (hs : PySem.W.subIn X.K (.type "dict") (.ref C) = some false) : TyB X H C (.ref a) := fun pins σ s u I r => by
  cases r
  obtain ⟨_, _, vs, _, o, es, ep, ho, hx, _⟩ := (show ObjOk X.prog X.w H s.heap a (.dK kvs) from I.hok a _ h)
  refine ⟨.type "dict", fun A Q E s' kk q => wpAny_typeOf_ref (kk _ _ ho) (by rw [hx.1]; exact q), ?_⟩
  unfold PySem.W.notFirst
  rw [hs]
  simp
/-- o == p, o != p: o's own __eq__ answers a bool -/
def rOwnCmp (X : Cx) (C : Addr) (neg : Bool) (sp : Sp) (E : XK) : R2 := fun x y H Q => ∃ a dx fs, x = .ref a ∧ H a = some (.ins C dx fs) ∧ TyB X H C y ∧ sp [.ref a, y] H (fun v H' => ∃ b, v = .bl b ∧ Q (.bl (if neg then !b else b)) H') E
theorem op_ownEq (F : FnOk X.prog X.w X.K X.mg X.base CX k f fd ps sp) (hr : Room k X.A) (hb : Binds X.K fd ps []) (hx : Passes CX X E)
    (hs : PySem.W.findIn X.K (.ref C) "__eq__" = some (some (.ref f))) (hf : PySem.W.isFn X.K (.ref f) = true) : OpR X (compareOp .Eq) (rOwnCmp X C false sp E) := by
  intro pins s σ H x y v u Q I rx ry h
  obtain ⟨a, dx, fs, rfl, ha, ty, q⟩ := h
  cases rx
  obtain ⟨mA, J, _⟩ := ins_get I.hok ha
  obtain ⟨od, J, _⟩ := J.look
  obtain ⟨m, hF⟩ := I.fr
  obtain ⟨tb, lt, nf⟩ := ty _ _ _ _ I ry
  show wpAny _ _ (richCompare .Eq (.ref a) u) _ _ _
  refine PySem.W.cmp_K (op := .Eq) hr.units0 hF I.ok.mod.kin J lt nf hs hf (thn (own_run (us := [.ref a, u]) (vs := [.ref a, y]) F hb hx ⟨hr, rfl⟩ I (.cons rfl (.cons ry .nil)) q) fun w s1 hh => ?_)
  obtain ⟨z, H1, I1, rz, b, ez, q1⟩ := hh
  subst ez
  cases rz
  exact ⟨.bl _, H1, I1, rfl, q1⟩
theorem op_ownNe (F : FnOk X.prog X.w X.K X.mg X.base CX k f fd ps sp) (hr : Room (k + 1) X.A) (hb : Binds X.K fd ps []) (hx : Passes CX X E)
    (hne : PySem.W.findIn X.K (.ref C) "__ne__" = some (some (.builtin "object.__ne__"))) (hs : PySem.W.findIn X.K (.ref C) "__eq__" = some (some (.ref f))) (hf : PySem.W.isFn X.K (.ref f) = true) (hm : PySem.W.mroIn X.K C (.type "object") = some true) :
    OpR X (compareOp .NotEq) (rOwnCmp X C true sp E) := by
  intro pins s σ H x y v u Q I rx ry h
  obtain ⟨a, dx, fs, rfl, ha, ty, q⟩ := h
  cases rx
  obtain ⟨mA, J, _⟩ := ins_get I.hok ha
  obtain ⟨od, J, _⟩ := J.look
  obtain ⟨tb, lt, nf⟩ := ty _ _ _ _ I ry
  have hu : X.A.units + 1 < cLine := Nat.lt_of_le_of_lt (Nat.add_le_add_left (by decide : 1 ≤ 64) _) hr.units
  show wpAny _ _ (richCompare .NotEq (.ref a) u) _ _ _
  refine own_ne hu I.kIn J lt nf hne hs hf hm (thn (own_run (us := [.ref a, u]) (vs := [.ref a, y]) F hb hx (⟨hr.in1, rfl⟩ : Sub X k X.A.in1) I (.cons rfl (.cons ry .nil)) q) fun w s1 hh => ?_)
  obtain ⟨z, H1, I1, rz, b, ez, q1⟩ := hh
  subst ez
  cases rz
  exact ⟨b, rfl, .bl _, H1, I1, rfl, q1⟩
end
end KX

end

section
set_option Elab.async false
set_option linter.all false
set_option maxRecDepth 100000
set_option maxHeartbeats 2000000
/-! A lambda without parameters as a value: made, kept, called by another def. -/
namespace KX
open PySem PySem.Spec PyProof.Rows L2 LamX NdefX

/-- a lambda's words, the cells that it captured, its code object -/
structure LF where
  qual : Str
  params : Arguments
  body : Expr
  scope : Scope
  cl : List (Str × Addr)
  c : Addr
def LamO (f : Addr) (F : LF) : HO := .ext fun h => ∃ pm ctv : Value, h.get? f = some (PySem.W.kla_obj "<lambda>" F.qual F.params F.body F.scope F.cl pm F.c ctv)
theorem lamO_at {P : Program} {w : World} {H : Hp} {h : Heap} {f : Addr} {F : LF} (hok : HOk P w H h) (e : H f = some (LamO f F)) : ∃ pm ctv : Value, h.get? f = some (PySem.W.kla_obj "<lambda>" F.qual F.params F.body F.scope F.cl pm F.c ctv) := by
  obtain ⟨z, _, _⟩ := hok f _ e
  exact z
section
variable {X : Cx} {pins : List (Addr × Obj)} {σ : L2.St} {H : Hp} {s : Shared}
theorem inv_lam {F : LF} {t' : Nat} {pm ctv : Value} (I : Inv X pins σ H s) :
    Inv X pins σ (upd H s.heap.objs.size (LamO s.heap.objs.size F)) { s with heap := s.heap.push (PySem.W.kla_obj "<lambda>" F.qual F.params F.body F.scope F.cl pm F.c ctv), toks := t' } := by
  refine I.laid (a := s.heap.objs.size) (fun b u e => Heap.get?_push_of_some _ e) (Nat.le_refl _) ?_
  have e : (s.heap.push (PySem.W.kla_obj "<lambda>" F.qual F.params F.body F.scope F.cl pm F.c ctv)).get? s.heap.objs.size = some (PySem.W.kla_obj "<lambda>" F.qual F.params F.body F.scope F.cl pm F.c ctv) := Heap.get?_push_size _ rfl
  exact ⟨⟨pm, ctv, e⟩, ⟨_, e⟩, fun h1 h2 ⟨p, t, z⟩ st => ⟨p, t, st _ z⟩⟩
/-- the lambda's object is made: tracked from then on -/
theorem lam_made {T : List (Addr × Str)} {c P : Addr} {params : Arguments} {body : Expr} {scope : Scope} {pos : Pos} {E : Value → Shared → Prop} {Q : Value → Shared → Prop} (I : Inv X pins σ H s) (TB : TabB X.base X.mg c P) (hcode : X.env.code = .ref c)
    (hm : (P, X.env.qual ++ "<lambda>") ∈ T) (hu : ∀ p ∈ T, p.1 = P → p.2 = X.env.qual ++ "<lambda>") (hT : Tabs T H) (hdef : defaultsOf params X.env = ([], [])) (hfree : ∀ y ∈ scope.names, y.2 = .free → ∃ c, X.env.cells.lookup y.1 = some c)
    (h : ∀ (f c' : Addr) (H1 : Hp) (s' : Shared), Inv X pins σ H1 s' → ExtN H H1 → Tabs T H1 → H f = none → (∀ b, H1 b = none → H b = none) → H1 f = some (LamO f ⟨X.env.qual ++ "<lambda>", params, body, scope, cloFrom X.env.cells scope.names [], c'⟩) →
      H1 c' = some (CodeO c' (X.env.qual ++ "<lambda>")) → Q (.ref f) s') : wpAny (model X.prog X.w) X.A (eval (.Lambda params body scope pos) X.env) Q E s := by
  obtain ⟨ps, hP, tr, known⟩ := hT _ hm
  have bP : s.heap.BuiltinsAt X.mg P := TB.bm.keeps I.bk
  have oP : s.heap.get? P = some { cls := .none, data := .fields ps } := I.hok P _ hP
  refine PySem.W.kla_eval hdef ?_
  cases hc : codeAmong pos ps.toList with
  | some cv =>
    obtain ⟨c', ec, kc⟩ := known pos cv hc
    subst ec
    refine PySem.W.kla_makeFunctionHit (mg := X.mg) (c := c) (P := P) (ps := ps) (closure_ok hfree) I.ok.glob (I.mod.glob.keeps I.bk) hcode (TB.code.keeps I.bk) oP tr hc bP fun ctv h' tk keep big => ?_
    have I1 : Inv X pins σ H { s with heap := h', toks := tk } := I.kept keep
    have nf : H h'.objs.size = none := I1.hok.fresh (Nat.le_refl _)
    have ne : ∀ b o, H b = some o → b ≠ h'.objs.size := fun b o e => ne_of_none e nf
    refine h h'.objs.size c' _ _ (inv_lam (F := ⟨X.env.qual ++ "<lambda>", params, body, scope, cloFrom X.env.cells scope.names [], c'⟩) (t' := tk) I1) (fun b o e _ => by rw [upd_ne (ne b o e)]; exact e) (hT.ext fun b o e => by rw [upd_ne (ne b o e)]; exact e) nf
      (fun b e => upd_none e) upd_same (by rw [upd_ne (ne _ _ kc)]; exact kc)
  | none =>
    refine PySem.W.kla_makeFunction (mg := X.mg) (c := c) (P := P) (ps := ps) (closure_ok hfree) I.ok.glob (I.mod.glob.keeps I.bk) hcode (TB.code.keeps I.bk) oP tr hc TB.gP bP fun c' ctv h' tk ext ge lt rec_ tab => ?_
    obtain ⟨c2, oc, vs, t, e2, hoc, hd, hv⟩ := rec_
    cases e2
    have nC : H c' = none := I.hok.fresh ge
    have I1 := inv_table (t' := tk) (more := #[rawInt pos.line, rawInt pos.col, .ref c']) (h' := h') I hP (fun b o hb e => ext b o hb e) tab ge ⟨oc, vs, t, hoc, hd, hv⟩
    generalize eH : upd (upd H P (.tbl (ps ++ #[rawInt pos.line, rawInt pos.col, .ref c']))) c' (CodeO c' (X.env.qual ++ "<lambda>")) = Hc at I1
    have cC : Hc c' = some (CodeO c' (X.env.qual ++ "<lambda>")) := by rw [← eH]; exact upd_same
    have cP : Hc P = some (.tbl (ps ++ #[rawInt pos.line, rawInt pos.col, .ref c'])) := by rw [← eH, upd_ne (ne_of_none hP nC)]; exact upd_same
    have off : ∀ b o, H b = some o → b ≠ P → Hc b = some o := fun b o e hb => by rw [← eH, upd_ne (ne_of_none e nC), upd_ne hb]; exact e
    have eN : ExtN H Hc := fun b o e n => off b o e fun z => n ps (Option.some.inj (e.symm.trans (by rw [z]; exact hP)))
    have back : ∀ b, Hc b = none → H b = none := fun b e => by
      rw [← eH] at e
      exact upd_none (upd_none e)
    have T1 : Tabs T Hc := fun p hp => by
      by_cases hb : p.1 = P
      · rw [hu p hp hb, hb]
        have eL : (ps ++ #[rawInt pos.line, rawInt pos.col, .ref c']).toList = ps.toList ++ [rawInt pos.line, rawInt pos.col, .ref c'] := by simp
        refine ⟨_, cP, by rw [eL]; exact PySem.TriplesOk_snoc _ _ _ _ tr, fun p' cv hcv => ?_⟩
        rw [eL] at hcv
        rcases among_app _ tr hcv with z | z
        · obtain ⟨c0, z1, z2⟩ := known p' cv z
          exact ⟨c0, z1, eN _ _ z2 codeO_ne⟩
        · exact ⟨c', z, cC⟩
      · obtain ⟨ps', a1, a2, a3⟩ := hT p hp
        refine ⟨ps', off _ _ a1 hb, a2, fun p' cv hcv => ?_⟩
        obtain ⟨c0, z1, z2⟩ := a3 p' cv hcv
        exact ⟨c0, z1, eN _ _ z2 codeO_ne⟩
    have nf : Hc h'.objs.size = none := I1.hok.fresh (Nat.le_refl _)
    have ne : ∀ b o, Hc b = some o → b ≠ h'.objs.size := fun b o e => ne_of_none e nf
    refine h h'.objs.size c' _ _ (inv_lam (F := ⟨X.env.qual ++ "<lambda>", params, body, scope, cloFrom X.env.cells scope.names [], c'⟩) (t' := tk) I1) (fun b o e n => by rw [upd_ne (ne _ _ (eN b o e n))]; exact eN b o e n) (T1.ext fun b o e => by rw [upd_ne (ne b o e)]; exact e) (back _ nf)
      (fun b e => back b (upd_none e)) upd_same (by rw [upd_ne (ne _ _ cC)]; exact cC)
end
/-- a lambda as a value -/
def tLamV (T : List (Addr × Str)) (mk : Addr → LF) : TE := fun σ H Q => Tabs T H ∧ ∀ (f c' : Addr) (H1 : Hp), ExtN H H1 → Tabs T H1 → H f = none → (∀ b, H1 b = none → H b = none) → H1 f = some (LamO f (mk c')) → H1 c' = some (CodeO c' (mk c').qual) → Q (.ref f) H1
theorem pe_lam {X : Cx} {T : List (Addr × Str)} {c P : Addr} {params : Arguments} {body : Expr} {scope : Scope} {pos : Pos} (TB : TabB X.base X.mg c P) (hcode : X.env.code = .ref c) (hm : (P, X.env.qual ++ "<lambda>") ∈ T) (hu : ∀ p ∈ T, p.1 = P → p.2 = X.env.qual ++ "<lambda>")
    (L : LamS X.env.scope scope) (hdef : defaultsOf params X.env = ([], [])) : PE X (.Lambda params body scope pos) (tLamV T fun c' => ⟨X.env.qual ++ "<lambda>", params, body, scope, cloFrom X.env.cells scope.names [], c'⟩) := by
  refine ⟨fun pins s σ H Q I h => ?_⟩
  obtain ⟨hT, h⟩ := h
  exact lam_made I TB hcode hm hu hT hdef (L.has I.ok) fun f c' H1 s' I1 eN T1 f0 back f1 c1 => ⟨.ref f, H1, I1, rfl, h f c' H1 eN T1 f0 back f1 c1⟩
end KX

end

section
set_option Elab.async false
set_option linter.all false
set_option maxRecDepth 100000
set_option maxHeartbeats 2000000
/-! A lambda called: by its body; what a def may do that is handed one. -/
namespace KX
open PySem PySem.Spec PyProof.Rows L2 LamX NdefX

abbrev LF.nf (F : LF) : NF := ⟨"<lambda>", F.qual, F.params, [], F.scope, F.cl, F.c⟩
section
variable {P : Program} {w : World} {K : PySem.W.Frag} {mg : Str → Option Value} {base : Heap} {N fr : List Str} {F : LF} {f : Addr} {k : Nat} {tb : XK → TE}
/-- f() of a lambda, by its body's reading; ws what its captured cells hold -/
theorem lam_run (S : NScope N [] fr F.scope) (hb : ∀ pm ctv : Value, bindArgs (PySem.W.kla_fn "<lambda>" F.qual F.params F.body F.scope F.cl pm (.ref F.c) ctv) ⟨[], []⟩ = pure [])
    (hbody : ∀ (A : Around) (outer : List Env) (s : Shared) (H : Hp) (E : XK), Room k (A.deeper (envF F.nf f s.heap.objs.size)) → PE (ncx (L2.CX P w) P w K mg base N F.nf f A outer s H E) F.body (tb E))
    {A : Around} {outer : List Env} {s : Shared} {H : Hp} {ws : List (Option V)} {Q : VK} {E : XK} (hr : Room (k + 1) A) (e0 : Env0 P w K mg base A outer s H) (hf : H f = some (LamO f F)) (hc : H F.c = some (CodeO F.c F.qual))
    (C : CellsAt F.cl fr ws s.heap H) (q : tb E (startF N [] ws) H Q) : codeAny (model P w) A (.call (.ref f) ⟨[], []⟩) (CR (L2.CX P w) outer P w H s Q E) s := by
  have lim : s.heap.NoLimit := e0.mod.nolimit.keeps fun b o e => (e0.bs b o e).1
  obtain ⟨pm, ctv, ho⟩ := lamO_at e0.hok hf
  refine PySem.W.kla_callFunE hr.depth ho rfl S.co S.gen rfl (codeO_at e0.hok hc) ?_
  rw [hb pm ctv]
  refine wpAny_pure (wpAny_newFunctionEnv S.nocell (fun y hy => absurd hy (by simp)) (fun h₁ hns hsb => ⟨lim.fresh _ hsb, ?_⟩) S.kind)
  show codeAny _ _ (.expr F.body (envF F.nf f s.heap.objs.size)) _ _
  have kp : ∀ b o, s.heap.get? b = some o → h₁.get? b = some o := fun b o e => hsb.extBut b o (Nat.ne_of_lt (Heap.lt_size e)) (Heap.get?_push_of_some _ e)
  have J : Inv (ncx (L2.CX P w) P w K mg base N F.nf f A outer s H E) [] (startF N [] ws) H { s with heap := h₁, toks := s.toks + ([] : List (Str × Value)).length } :=
    inv_startN (ps := []) (us := []) S hr.hd e0 rfl .nil C hns kp
  refine PySem.W.kla_codeExpr (wpAny_mono ((hbody A outer s H E (hr.deeper _)).run [] _ _ H Q J q) (fun v s' hq => ?_) fun _ _ z => z)
  obtain ⟨v', H', J', rv, q'⟩ := hq
  exact ⟨v', H', J'.os, J'.bare, J'.base, J'.hok, rv, q'⟩

/-- cells stay while the callers' frames may change -/
theorem cells_un {cl : List (Str × Addr)} {ws : List (Option V)} {fs ex : List Addr} {h h' : Heap} {H H' : Hp} (C : CellsAt cl fr ws h H) (u : Un fs ex H H' h h') (hx : ∀ y c, cl.lookup y = some c → c ∉ ex) : CellsAt cl fr ws h' H' := by
  have st : ∀ {y : Str} {c : Addr} {v : Option Value}, cl.lookup y = some c → h.IsCell c v → h'.IsCell c v := fun {y c v} e ⟨o, ho, hd⟩ => by
    obtain ⟨sl, q⟩ := u.any ho (C.all y c e).1 (hx y c e)
    exact ⟨_, q, hd⟩
  refine ⟨C.len, fun y c e => ?_, C.inj, fun i y e => ?_⟩
  · obtain ⟨n, v, o, ho, hd⟩ := C.all y c e
    exact ⟨u.free c o ho n (hx y c e), v, st e ⟨o, ho, hd⟩⟩
  · obtain ⟨c, hc, hv⟩ := C.has i y e
    refine ⟨c, hc, fun v ev => ?_⟩
    obtain ⟨u', r, z⟩ := hv v ev
    exact ⟨u', r, st hc z⟩

/-- what a called def may do with the thing at f while it runs: call it -/
def Act (P : Program) (w : World) (K : PySem.W.Frag) (mg : Str → Option Value) (base : Heap) (k : Nat) (f : Addr) (outer : List Env) (s : Shared) (H : Hp) (tl : XK → Hp → VK → Prop) : Prop :=
  ∀ (A' : Around) (outer' : List Env) (s' : Shared) (H' : Hp) (Q' : VK) (E' : XK), Room k A' → Env0 P w K mg base A' outer' s' H' → Un (frs outer) [] H H' s.heap s'.heap → tl E' H' Q' →
    codeAny (model P w) A' (.call (.ref f) ⟨[], []⟩) (CR (L2.CX P w) outer' P w H' s' Q' E') s'
theorem act_lam (S : NScope N [] fr F.scope) (hb : ∀ pm ctv : Value, bindArgs (PySem.W.kla_fn "<lambda>" F.qual F.params F.body F.scope F.cl pm (.ref F.c) ctv) ⟨[], []⟩ = pure [])
    (hbody : ∀ (A : Around) (outer : List Env) (s : Shared) (H : Hp) (E : XK), Room k (A.deeper (envF F.nf f s.heap.objs.size)) → PE (ncx (L2.CX P w) P w K mg base N F.nf f A outer s H E) F.body (tb E))
    {outer : List Env} {s : Shared} {H : Hp} {ws : List (Option V)} (C : CellsAt F.cl fr ws s.heap H) :
    Act P w K mg base (k + 1) f outer s H (fun E' H' Q' => H' f = some (LamO f F) ∧ H' F.c = some (CodeO F.c F.qual) ∧ tb E' (startF N [] ws) H' Q') :=
  fun A' outer' s' H' Q' E' hr e0 u ⟨h1, h2, h3⟩ => lam_run S hb hbody hr e0 h1 h2 (cells_un C u fun _ _ _ => by simp) h3
/-- a(), a the name of what was handed in, in the running def -/
theorem pe_actV {X : Cx} {outer : List Env} {s : Shared} {H : Hp} {W : WX} {E : XK} {tl : XK → Hp → VK → Prop} {a : Str} {i : Nat} {p1 p2 : Pos} (act : Act X.prog X.w X.K X.mg X.base k f outer s H tl) (h0 : X.s_0 = s) (hH : X.H_0 = H) (ho : X.outer = outer) (hex : X.ex = []) (hr : Room k X.A)
    (tk : Takes X W) (hW : ∀ cls d σ' H', E cls d H' → W cls d σ' H') (hN : X.N[i]? = some a) (hv : Vis X.env.scope a) (hd : (a == ("__debug__" : Str)) = false := by decide) (hcd : (a == ("__classdict__" : Str)) = false := by decide)
    (isF : ∀ (pins : List (Addr × Obj)) (σ : L2.St) (H' : Hp) (s' : Shared) (Q : VK), Inv X pins σ H' s' → tl E H' Q → PySem.W.FnAt f s'.heap) :
    PE X (.Call (.Name a p1) [] [] p2) (fun σ H' Q => σ[i]? = some (some (.ref f)) ∧ tl E H' Q) := by
  subst h0 hH ho
  refine ⟨fun pins s' σ H' Q I h => ?_⟩
  obtain ⟨hs, ht⟩ := h
  refine wpAny_Call_Name_kw (thn ((pe_var (pos := p1) (i := i) hN hv hd hcd).run pins s' σ H' (fun v H1 => v = .ref f ∧ H1 = H') I ⟨.ref f, hs, rfl, rfl⟩) fun u s1 ⟨v, H1, I1, r1, ev, eH⟩ => ?_)
  subst ev
  rw [eH] at I1
  cases r1
  refine PySem.W.callWith_F0 (isF _ _ _ _ _ I1 ht) ?_
  have un : Un (frs X.outer) [] X.H_0 H' X.s_0.heap s1.heap := by
    have u := I1.base
    rw [hex] at u
    exact u
  have rc := act X.A X.stack s1 H' Q E hr I1.env0 un ht
  have hx : Passes (L2.CX X.prog X.w) X E := passes_call tk hW
  refine wpAny_call (codeAny_mono rc fun r s2 hq => ?_)
  cases r with
  | error e => exact hx pins σ H' s1 e s2 I1 hq
  | ok fl =>
    cases fl with
    | ret u => exact I1.after hq
    | next => exact False.elim hq
    | brk => exact False.elim hq
    | cont => exact False.elim hq
end
end KX

end

section
set_option Elab.async false
set_option linter.all false
set_option maxRecDepth 100000
set_option maxHeartbeats 2000000
/-! A def that is handed a lambda and calls it, called. -/
namespace KX
open PySem PySem.Spec PyProof.Rows L2 LamX NdefX

/-- what is known of a lambda that the running def made -/
structure LamGood (X : Cx) (k : Nat) (F : LF) (N fr : List Str) (js : List Nat) (tb : XK → TE) : Prop where
  S : NScope N [] fr F.scope
  hb : ∀ pm ctv : Value, bindArgs (PySem.W.kla_fn "<lambda>" F.qual F.params F.body F.scope F.cl pm (.ref F.c) ctv) ⟨[], []⟩ = pure []
  body : ∀ (f : Addr) (A : Around) (outer : List Env) (s : Shared) (H : Hp) (E : XK), Room k (A.deeper (envF F.nf f s.heap.objs.size)) → PE (ncx (L2.CX X.prog X.w) X.prog X.w X.K X.mg X.base N F.nf f A outer s H E) F.body (tb E)
  caps : X.Ok → Caps X F.cl fr js
/-- the lambda's own call, ws what its cells hold -/
def lamTl (f : Addr) (F : LF) (N : List Str) (tb : XK → TE) (ws : List (Option V)) : XK → Hp → VK → Prop := fun E' H' Q' => H' f = some (LamO f F) ∧ H' F.c = some (CodeO F.c F.qual) ∧ tb E' (startF N [] ws) H' Q'
/-- the def at g: handed something that it may call, it keeps TT -/
def Teller (P : Program) (w : World) (K : PySem.W.Frag) (mg : Str → Option Value) (base : Heap) (k j : Nat) (g : Addr) (TT : (XK → Hp → VK → Prop) → Hp → VK → Prop) : Prop :=
  ∀ (A : Around) (outer : List Env) (s : Shared) (H : Hp) (Q : VK) (f : Addr) (tl : XK → Hp → VK → Prop), Room k A → Env0 P w K mg base A outer s H → Act P w K mg base j f outer s H tl →
    (∀ (E' : XK) (H' : Hp) (Q' : VK) (h : Heap), HOk P w H' h → tl E' H' Q' → PySem.W.FnAt f h) → TT tl H Q → codeAny (model P w) A (.call (.ref g) ⟨[.ref f], []⟩) (CR CX0 outer P w H s Q E0) s
section
variable {X : Cx} {x : Str} {g : Addr} {k j : Nat} {TT : (XK → Hp → VK → Prop) → Hp → VK → Prop} {e : Expr} {te : TE} {p pos : Pos}
/-- x(e), e a lambda that this def made -/
def tTold (X : Cx) (j : Nat) (TT : (XK → Hp → VK → Prop) → Hp → VK → Prop) (te : TE) : TE := fun σ H Q => te σ H fun v H1 => ∃ (f : Addr) (F : LF) (N fr : List Str) (js : List Nat) (tb : XK → TE), v = .ref f ∧ LamGood X j F N fr js tb ∧ TT (lamTl f F N tb (js.map (slotAt σ))) H1 Q
theorem lamTl_fn {P : Program} {w : World} {f : Addr} {F : LF} {N : List Str} {tb : XK → TE} {ws : List (Option V)} (E' : XK) (H' : Hp) (Q' : VK) (h : Heap) (hok : HOk P w H' h) (t : lamTl f F N tb ws E' H' Q') : PySem.W.FnAt f h := by
  obtain ⟨pm, ctv, ho⟩ := lamO_at hok t.1
  exact ⟨_, _, _, _, ho⟩
theorem told_here (Tg : Teller X.prog X.w X.K X.mg X.base k (j + 1) g TT) (hr : Room k X.A) {pins : List (Addr × Obj)} {σ : L2.St} {H : Hp} {s : Shared} {f : Addr} {F : LF} {N fr : List Str} {tb : XK → TE} {Q : VK} {ws : List (Option V)} (I : Inv X pins σ H s)
    (S : NScope N [] fr F.scope) (hb : ∀ pm ctv : Value, bindArgs (PySem.W.kla_fn "<lambda>" F.qual F.params F.body F.scope F.cl pm (.ref F.c) ctv) ⟨[], []⟩ = pure [])
    (body : ∀ (f : Addr) (A : Around) (outer : List Env) (s : Shared) (H : Hp) (E : XK), Room j (A.deeper (envF F.nf f s.heap.objs.size)) → PE (ncx (L2.CX X.prog X.w) X.prog X.w X.K X.mg X.base N F.nf f A outer s H E) F.body (tb E))
    (C : CellsAt F.cl fr ws s.heap H) (q : TT (lamTl f F N tb ws) H Q) : wpAny (model X.prog X.w) X.A (call (.ref g) [.ref f]) (EP X pins σ Q) X.xe s := by
  have act := act_lam (f := f) (outer := X.stack) S hb (body f) C
  refine wpAny_call (codeAny_mono (Tg X.A X.stack s H Q f _ hr I.env0 act (fun E' H' Q' h hok t => lamTl_fn E' H' Q' h hok t) q) fun r s' hq => ?_)
  cases r with
  | error e => exact (show False from hq).elim
  | ok fl =>
    cases fl with
    | ret u => exact I.after hq
    | next => exact False.elim hq
    | brk => exact False.elim hq
    | cont => exact False.elim hq
theorem pe_told (Tg : Teller X.prog X.w X.K X.mg X.base k (j + 1) g TT) (hr : Room k X.A) (hg : Gl X x) (hm : X.mg x = some (.ref g)) (hk : PySem.W.keepIn X.K (.ref g) = true) (he : PE X e te)
    (hs : starEach (e :: []) X.env = (false, eval e X.env) :: starEach [] X.env := by rfl) (hpl : (backTo pos (starEach [] X.env)).any (·.1) = false := by rfl) (hdb : (x == ("__debug__" : Str)) = false := by decide) :
    PE X (.Call (.Name x p) [e] [] pos) (tTold X j TT te) := by
  refine ⟨fun pins s σ H Q I h => ?_⟩
  refine wpAny_Call_Name_kw (ld_glob I hg hm ?_ hdb)
  have ha : PA X [e] (tCons te tNil) := pa_cons he pa_nil hs
  refine PySem.W.callWith_K (h₀ := X.base) I.ok.mod.kin hk (thn (ha.run pos pins s σ H (fun vs H1 => match vs with | [v] => ∃ (f : Addr) (F : LF) (N fr : List Str) (js : List Nat) (tb : XK → TE), v = .ref f ∧ LamGood X j F N fr js tb ∧ TT (lamTl f F N tb (js.map (slotAt σ))) H1 Q | _ => False) I h) fun us s1 hh => ?_) hs hpl
  obtain ⟨vs, H1, I1, r1, hv⟩ := hh
  match vs, r1, hv with
  | [v], r1, hv =>
    obtain ⟨f, F, N, fr, js, tb, rfl, G, q⟩ := hv
    obtain ⟨u, rfl, ru⟩ := vals1 r1
    cases ru
    exact ⟨I1.kIn, told_here Tg hr I1 G.S G.hb G.body (cells_of I1 (G.caps I1.ok)) q⟩
end
end KX

end

section
set_option Elab.async false
set_option linter.all false
set_option maxRecDepth 100000
set_option maxHeartbeats 4000000
/-! A list comprehension whose element may lean on what the def's own cells hold. -/
namespace KX
open PySem PySem.Spec PyProof.Rows L2 LamX NdefX

/-- told of the state at the block's entry, by the def around -/
def Entry (X : Cx) (σ : L2.St) (s : Shared) (H : Hp) (fp : List Addr) : Prop := ∃ pins, Inv X pins σ H s ∧ ∀ b ∈ fp, ∀ y c, X.env.cells.lookup y = some c → c ≠ b
/-- [elt for tg in iter], the element's reading hangs on the def's names at the entry -/
def tLcE (wi : TI) (g : TG) (te : L2.St → TE) (vs : List Nat) : TE := fun σ H Q => wi σ H fun J H1 => ∀ D, H1 D = none → ∃ W : Nat → Nat → Hp → Prop, (∃ m, W 0 m (upd H1 D (.lst []))) ∧ ∀ i m H, W i m H →
  (J.stop i H ∧ Q (.ref D) H) ∨ (J.go i H ∧ ∃ Nx : Hp → Prop, (∀ H', Nx H' → ∃ m', m' < m ∧ W (i + 1) m' H') ∧ ∀ x H', J.yld i H x H' → g x (wipe σ vs) H' fun σ2 H2 => wipe σ2 vs = wipe σ vs ∧
    te σ σ2 H2 fun y H4 => ∃ acc, H4 D = some (.lst acc) ∧ acc.length < sizeLine ∧ Nx (upd H4 D (.lst (acc ++ [y]))))
section
variable {X : Cx} {elt tg iter : Expr} {scope : Scope} {own : List (Str × Nat)} {pos : Pos} {wi : TI} {g : TG} {te : L2.St → TE}
theorem pe_lcE (hc : X.calm = true) (nd : X.N.Nodup) (hi : PI X tg iter wi) (ok : BlkOk X.N X.env.scope scope own)
    (hg : ∀ (s : Shared) (H : Hp) (C : Addr) (cl : List (Str × Addr)) (fp : List Addr), PG (X.blk s H scope (compEnvC scope cl C X.env) fp) tg g)
    (he : ∀ (σ : L2.St) (s : Shared) (H : Hp) (C : Addr) (cl : List (Str × Addr)) (fp : List Addr), Entry X σ s H fp → PE (X.blk s H scope (compEnvC scope cl C X.env) fp) elt (te σ)) (plain : ∀ x, foldedSetIterable iter X.env x = pure x := by intro _; rfl) :
    PE X (.ListComp elt [⟨tg, iter, [], 0⟩] scope pos) (tLcE wi g te (own.map (·.2))) := by
  refine ⟨fun pins s σ H Q I h => ?_⟩
  rw [eval_ListComp]
  have clos : ∀ y ∈ scope.names, y.2 = .free → ∃ c, X.env.cells.lookup y.1 = some c := fun y hy e => (ok.free y hy e).elim (fun k => I.ok.has _ (.inl k)) fun k => I.ok.has _ (.inr k)
  refine wpAny_comprehension_free (use := none) rfl plain (closure_ok clos) ok.kind (fun y hy e => by rw [ok.uniq y hy, e]) (thn (hi.run pins s σ H _ I h) fun _ _ hx => thn hx fun _ sa ha => ?_)
  obtain ⟨it, fp, tn, J, Ha, e, Ia, T, sta, fa, q⟩ := ha
  subst e
  refine wpAny_newObj_type (newEnv_comp ?_) (by show 0 ≤ sizeLine; decide)
  generalize eD : sa.heap.objs.size = D
  have freeD : Ha D = none := Ia.hok.fresh (Nat.le_of_eq eD)
  obtain ⟨W, ⟨m0, w0⟩, turn⟩ := q D freeD
  let lo : Obj := { cls := .type "list", data := .seq ([] : List Value).toArray }
  generalize eb : ({ sa with heap := sa.heap.push lo } : Shared) = sb
  have hb : sb.heap = sa.heap.push lo := by rw [← eb]
  have Ib : Inv X pins σ (upd Ha D (.lst [])) sb := by
    rw [← eb]
    refine Ia.laid (t' := sa.toks) (fun b o e => Heap.get?_push_of_some _ e) (Nat.le_of_eq eD) ⟨Nat.zero_le _, [], 0, .nil, ?_⟩
    rw [← eD]
    exact Heap.get?_push_size _ rfl
  have small : ∀ b ∈ fp, b < sa.heap.objs.size := fun b hb => let ⟨o, e, _⟩ := T.obj _ _ sta b hb; Heap.lt_size e
  have fb : ∀ b ∈ fp, FpOk X pins (upd Ha D (.lst [])) b ∧ b < sb.heap.objs.size := fun b hm => by
    have lt := small b hm
    refine ⟨⟨?_, (fa b hm).2⟩, by rw [hb, Heap.size_push]; exact Nat.lt_succ_of_lt lt⟩
    rw [upd_ne (by rw [← eD]; exact Nat.ne_of_lt lt)]
    exact (fa b hm).1
  have stb : tn 0 sb.heap := T.keep _ _ _ sta fun b _ o e => by rw [hb]; exact Heap.get?_push_of_some _ e
  have Ic := block_start Ib ok nd fb
  let cells := cellsFrom (sb.heap.objs.size + 1) scope.names (cloFrom X.env.cells scope.names [])
  have entry : Entry X σ sb (upd Ha D (.lst [])) fp := ⟨pins, Ib, fun b hm y c e => (fb b hm).1.2.2.2.2.1 y c e⟩
  have pg := hg sb (upd Ha D (.lst [])) sb.heap.objs.size cells fp
  have pe := he σ sb (upd Ha D (.lst [])) sb.heap.objs.size cells fp entry
  have unf : ∀ b ∈ fp, (upd Ha D (.lst [])) b = none := fun b hm => (fb b hm).1.1
  show codeAny _ _ (.compStart (.ListComp elt [⟨tg, iter, [], 0⟩] scope pos) 0 (.ref it) (.ref D) (compEnvC scope cells sb.heap.objs.size X.env)) (compPost (model X.prog X.w) X.A X.xe none (EP X pins σ Q) (.ref D) sb.heap.objs.size) { sb with heap := pushCells (sb.heap.push { cls := .type "dict", data := .dict #[] }) scope.names }
  generalize ece : compEnvC scope cells sb.heap.objs.size X.env = ce at Ic pg pe ⊢
  have cL : ce.locals = sb.heap.objs.size := by subst ece; rfl
  generalize eHb : upd Ha D (.lst []) = Hb at Ib Ic pg pe w0 unf fb
  generalize esc : ({ sb with heap := pushCells (sb.heap.push { cls := .type "dict", data := .dict #[] }) scope.names } : Shared) = sc at Ic ⊢
  have stc : tn 0 sc.heap := T.keep _ _ _ stb fun b _ o e => by rw [← esc]; exact pushCells_keeps _ _ _ _ (Heap.get?_push_of_some _ e)
  have fpk : ∀ {σ' : L2.St} {H' : Hp} {s' : Shared}, Inv (X.blk sb Hb scope ce fp) [] σ' H' s' → (∀ b ∈ fp, H' b = none) → ∀ b ∈ fp, FpOk (X.blk sb Hb scope ce fp) [] H' b := fun {σ' H' s'} I' hn b hm =>
    ⟨hn b hm, (I'.ok.exf b hm).1, I'.ok.exfs b hm, .inl hm, fun x c e => (I'.ok.exf b hm).2 x c e, fun p hp => absurd (show p ∈ ([] : List (Addr × Obj)) ++ [] from hp) (by simp)⟩
  refine codeAny_compStart_list (?loop : codeAny (model X.prog X.w) X.A (.compLoop (.ListComp elt [⟨tg, iter, [], 0⟩] scope pos) 0 (.ref it) (.ref D) ce) (compPost (model X.prog X.w) X.A X.xe none (EP X pins σ Q) (.ref D) sb.heap.objs.size) sc) (T.self X.A 0 _ _ _ stc ?loop)
  refine compLoop_any (fun n s' => ∃ i H', Inv (X.blk sb Hb scope ce fp) [] (wipe σ (own.map (·.2))) H' s' ∧ tn i s'.heap ∧ (∀ b ∈ fp, H' b = none) ∧ W i n H') ?_ m0 ⟨0, Hb, Ic, stc, unf, w0⟩
  rintro n s5 ⟨i, H5, I5, st5, n5, w5⟩
  rcases turn i n H5 w5 with ⟨stop, qq⟩ | ⟨go, Nx, next, step⟩
  · refine thnF (T.done (X.blk sb Hb scope ce fp) rfl rfl rfl hc i [] s5 _ H5 (fun _ _ => False) I5 (fpk I5 n5) st5 stop) fun r s6 ⟨hr, I6⟩ => ?_
    subst hr
    have I7 : Inv X pins σ H5 s6 := Ib.call' (ch := fp) I6.os I6.base I6.hok I6.bare fun b hm => ⟨(fb b hm).1.2.2.2.1, (fb b hm).1.2.1, (fb b hm).1.2.2.2.2.1, (fb b hm).1.2.2.2.2.2⟩
    have nC : H5 sb.heap.objs.size = none := by
      have z : H5 ce.locals = none := I6.free
      rw [cL] at z
      exact z
    obtain ⟨m, hn, _⟩ := I6.loc
    have hn : s6.heap.Ns ce.locals m := hn
    rw [cL] at hn
    refine ⟨m, hn, fun h'' sm => ?_⟩
    obtain ⟨f0, f1, f2, f3, f4, f5⟩ := Ib.fpOk (Nat.le_refl _) nC
    exact ⟨.ref D, H5, I7.turned (t' := s6.toks) (fun b o hb e => (sm.2 b hb).trans e) f0 f1 f3 f4 f5, rfl, qq⟩
  · refine thnF (T.item (X.blk sb Hb scope ce fp) rfl rfl rfl hc i [] s5 _ H5 (fun _ _ => False) I5 (fpk I5 n5) st5 go) fun r s6 ⟨u, hr, h6⟩ => ?_
    subst hr
    refine thnF h6 fun _ s7 ⟨x, H7, I7, r7, y7, st7, n7⟩ => ?_
    refine thnF (pg.run _ s7 _ H7 x u _ (I7.pinned (fpk I7 n7) (T.obj _ _ st7)) r7 (step x H7 y7)) fun _ s8 ⟨σ8, H8, I8, hw8, q8⟩ => ?_
    refine wpAny_tests_nil ?_
    simp only [if_true]
    refine thnF (pe.run _ s8 σ8 H8 _ I8 q8) fun z s10 ⟨yv, H10, I10, r10, acc, hD10, hz10, nx⟩ => ?_
    refine app_ok (X := X.blk sb Hb scope ce fp) I10 hD10 hz10 r10 fun s11 I11 => ?_
    obtain ⟨m', hm, w'⟩ := next _ nx
    have pin' : ∀ b ∈ fp, ∀ o, s7.heap.get? b = some o → s11.heap.get? b = some o ∧ (upd H10 D (.lst (acc ++ [yv]))) b = none := fun b hm o e =>
      let z := I11.pin (b, o) (List.mem_append_right _ (List.mem_append_right _ (mem_pinsAt hm e)))
      ⟨z.1, z.2.1⟩
    have hl : (wipe σ (own.map (·.2))).length = σ8.length := by rw [← hw8, wipe_length]
    refine ⟨m', hm, i + 1, _, (I11.unpinned (pins := [])).weak hl (fun j v e => ?_), T.keep _ _ _ st7 fun b hm o e => (pin' b hm o e).1, fun b hm => ?_, w'⟩
    · rw [← hw8] at e
      exact (wipe_some e).1
    · obtain ⟨o, e, _⟩ := T.obj _ _ st7 b hm
      exact (pin' b hm o e).2
variable {x : Str} {g' : Addr} {k j : Nat} {TT : (XK → Hp → VK → Prop) → Hp → VK → Prop} {e : Expr} {t : TE} {p q : Pos} {s₀ : Shared} {H₀ : Hp} {ce : Env} {fp : List Addr}
/-- x(e) within a comprehension, e a lambda that the def around made -/
def tToldB (X : Cx) (j : Nat) (TT : (XK → Hp → VK → Prop) → Hp → VK → Prop) (t : TE) (σ₀ : L2.St) : TE := fun σ H Q => t σ H fun v H1 => ∃ (f : Addr) (F : LF) (N fr : List Str) (js : List Nat) (tb : XK → TE), v = .ref f ∧ LamGood X j F N fr js tb ∧ TT (lamTl f F N tb (js.map (slotAt σ₀))) H1 Q
theorem pe_toldB {σ₀ : L2.St} (en : Entry X σ₀ s₀ H₀ fp) (Tg : Teller X.prog X.w X.K X.mg X.base k (j + 1) g' TT) (hr : Room k X.A) (hgl : Gl (X.blk s₀ H₀ scope ce fp) x) (hm : X.mg x = some (.ref g')) (hk : PySem.W.keepIn X.K (.ref g') = true) (he : PE (X.blk s₀ H₀ scope ce fp) e t)
    (hs : starEach (e :: []) ce = (false, eval e ce) :: starEach [] ce := by rfl) (hpl : (backTo q (starEach [] ce)).any (·.1) = false := by rfl) (hdb : (x == ("__debug__" : Str)) = false := by decide) :
    PE (X.blk s₀ H₀ scope ce fp) (.Call (.Name x p) [e] [] q) (tToldB X j TT t σ₀) := by
  refine ⟨fun pins s σ H Q I h => ?_⟩
  refine wpAny_Call_Name_kw (ld_glob I hgl hm ?_ hdb)
  have ha : PA (X.blk s₀ H₀ scope ce fp) [e] (tCons t tNil) := pa_cons he pa_nil hs
  refine PySem.W.callWith_K (h₀ := X.base) I.ok.mod.kin hk (thn (ha.run q pins s σ H (fun vs H1 => match vs with | [v] => ∃ (f : Addr) (F : LF) (N fr : List Str) (js : List Nat) (tb : XK → TE), v = .ref f ∧ LamGood X j F N fr js tb ∧ TT (lamTl f F N tb (js.map (slotAt σ₀))) H1 Q | _ => False) I h) fun us s1 hh => ?_) hs hpl
  obtain ⟨vs, H1, I1, r1, hv⟩ := hh
  match vs, r1, hv with
  | [v], r1, hv =>
    obtain ⟨f, F, N, fr, js, tb, rfl, G, qq⟩ := hv
    obtain ⟨u, rfl, ru⟩ := vals1 r1
    cases ru
    obtain ⟨pins₀, I₀, away⟩ := en
    have cp := G.caps I₀.ok
    have C₀ : CellsAt F.cl fr (js.map (slotAt σ₀)) s₀.heap H₀ := cells_of I₀ cp
    have un : Un (frs X.stack) fp H₀ H1 s₀.heap s1.heap := I1.base
    have C1 := cells_un C₀ un fun y c e hm => away c hm y c (cp.sub y c e) rfl
    exact ⟨I1.kIn, told_here (X := X.blk s₀ H₀ scope ce fp) (j := j) Tg hr I1 G.S G.hb G.body C1 qq⟩
end
end KX

end

section
set_option Elab.async false
set_option linter.all false
set_option maxRecDepth 100000
set_option maxHeartbeats 2000000
/-! list(d.values()); text * int. -/
namespace KX
open PySem PySem.Spec PyProof.Rows L2
theorem vals_ix : ∀ {xs : List V} {us : List Value}, xs.length = us.length → (∀ (i : Nat) x u, xs[i]? = some x → us[i]? = some u → RelV x u) → Vals xs us
  | [], [], _, _ => .nil
  | [], _ :: _, h, _ => by simp at h
  | _ :: _, [], h, _ => by simp at h
  | x :: xs, u :: us, h, r => .cons (r 0 x u rfl rfl) (vals_ix (by simpa using h) fun i y v h1 h2 => r (i + 1) y v (by simpa using h1) (by simpa using h2))
section
variable {X : Cx} {e : Expr} {te : TE} {p pos apos cpos : Pos}
/-- list(d.values()) -/
def tListValues (te : TE) : TE := fun σ H Q => te σ H fun x H1 => ∃ (d : Addr) (kvs : List (Key × V)), x = .ref d ∧ H1 d = some (.dK kvs) ∧ ∀ l, H1 l = none → Q (.ref l) (upd H1 l (.lst (kvs.map (·.2))))
theorem pe_listValues (hc : X.calm = true) (he : PE X e te) (hg : Gl X "list") (hm : X.mg "list" = none) (hv : bootBuiltins "list" = some (.type "list")) (hbase : attributeBase e "values" X.env (eval e X.env) = eval e X.env := by rfl) (hline : (apos.endLine == cpos.line) = true := by rfl)
    (hs : starEach [.Call (.Attribute e "values" apos) [] [] cpos] X.env = (false, eval (.Call (.Attribute e "values" apos) [] [] cpos) X.env) :: starEach [] X.env := by rfl) :
    PE X (.Call (.Name "list" p) [.Call (.Attribute e "values" apos) [] [] cpos] [] pos) (tListValues te) := by
  refine ⟨fun pins s σ H Q I hq => ?_⟩
  refine wpAny_Call_Name_kw (ld_blt I hg hm hv (PyProof.Rows.callWith_type1 ?_ hs rfl))
  rw [hs]
  show wpAny _ _ (spliced ((false, eval (.Call (.Attribute e "values" apos) [] [] cpos) X.env) :: backTo pos (starEach [] X.env))) _ _ s
  refine Calls.spliced_cons (wpAny_Call_method (T := "dict") (id := "dict.values") hbase rfl hline F.plainAttrs_dict F.slot_dict_values F.type_dict_values (thn (he.run pins s σ H _ I hq) fun u s1 hh => ?_))
  obtain ⟨x, H1, I1, rx, d, kvs, ex, hd, q⟩ := hh
  subst ex
  cases rx
  obtain ⟨hz, hsys, vs, kv, dic⟩ := I1.hok d _ hd
  have lk : kvs.length = vs.length := Paired.length kv
  obtain ⟨es, ep, raw, sz, ents⟩ := Heap.DictOf.raw dic
  refine ⟨dic.typeIs, dic.mapOf.noDict, ?_⟩
  show wpAny _ _ (callWith cpos (.builtin "dict.values") [.ref d] [] []) _ X.xe s1
  refine method_meetsIn F.slot_dict_values F.entry_dict_values rfl (PySem.evalArgs_none ⟨rfl, dic.typeIs, F.args_dict_values_1 _, _, meets_dict_values (mixKind X.prog X.w) d hsys, ⟨vs, dic⟩, ?_⟩)
  refine Calls.spliced_nil ?_
  refine PySem.W.kdl_call (KdlSrc.rawValues (r := s1.heap.objs.size) (d := d) (es := es) (ep := ep)) (I1.ok.hd hc) ⟨⟨_, Heap.get?_push_size _ rfl, rfl, rfl⟩, raw.at fun o e => Heap.get?_push_of_some _ e⟩ (by omega) fun h' tk acc c keep at_ items => ?_
  have I2 : Inv X pins σ H1 { s1 with heap := s1.heap.push { cls := .type "dict_values", data := .fields #[.ref d] } } := I1.kept (t' := s1.toks) fun b ob q => Heap.get?_push_of_some _ q
  obtain ⟨n1, n2⟩ := items
  have rel : Vals (kvs.map (·.2)) acc.toList := by
    refine vals_ix (by show (kvs.map (·.2)).length = acc.toList.length; have ea : acc.toList.length = acc.size := Array.length_toList; rw [List.length_map, ea]; omega) fun i x u h1 h2 => ?_
    rw [List.getElem?_map] at h1
    obtain ⟨kx, hk, rfl⟩ := Option.map_eq_some_iff.mp h1
    obtain ⟨hi, hu⟩ := n2 i u (by simpa using h2)
    obtain ⟨y, hy, r1, r2⟩ := paired_get kv hk
    obtain ⟨k', v'⟩ := y
    obtain ⟨_, ev⟩ := ents i hi k' v' hy
    rw [hu, ev]
    exact r2
  have fresh := I2.hok.fresh (Nat.le_refl _)
  exact ⟨.ref _, _, I2.laid (t' := tk) (o := .lst (kvs.map (·.2))) keep (Nat.le_refl _) ⟨by rw [List.length_map]; exact hz, acc.toList, c, rel, by rw [Array.toArray_toList]; exact at_⟩, rfl, q _ (by
    have nl : H1 _ = none := fresh
    exact nl)⟩
/-- text * int -/
def rStrMul : R2 := fun x y H Q => ∃ (c : Nat) (n : Nat), x = .str ⟨#[c]⟩ ∧ y = .int n ∧ 1 ≤ n ∧ n ≤ 1000 ∧ Q (.str ⟨(List.replicate n c).toArray⟩) H
theorem foldl_one (c : Nat) : ∀ (n : Nat) (acc : Array Nat), ((List.replicate n #[c]).foldl (· ++ ·) acc) = acc ++ (List.replicate n c).toArray
  | 0, acc => by simp
  | n + 1, acc => by
    rw [List.replicate_succ, List.foldl_cons, foldl_one c n, List.replicate_succ]
    apply Array.ext'
    simp
theorem op_strMul : OpR X (binaryOp .Mult) rStrMul := by
  intro pins s σ H x y v u Q I rx ry h
  obtain ⟨c, n, rfl, rfl, h1, h2, q⟩ := h
  obtain ⟨t, rfl⟩ := rx
  obtain ⟨t', rfl⟩ := ry
  have hl : (⟨#[c]⟩ : Str).length = 1 := rfl
  refine PySem.P.mul_str (by rw [decide_eq_false (by omega), decide_eq_false (by omega)] <;> rfl) (fun _ _ => ?_) (fun _ _ => ?_) ?_
  · have hn : (0 : Int) < n := by omega
    have := (Int.le_ediv_iff_mul_le hn).mpr (show (1 : Int) * (n : Int) ≤ 2 ^ 63 - 1 by omega)
    rw [hl]
    omega
  · refine decide_eq_false ?_
    rw [sizeLine_eq, hl]
    have : (n : Int).toNat = n := by omega
    rw [this]
    omega
  · rw [if_neg (by omega)]
    by_cases e : n = 1
    · subst e
      rw [if_pos (by simp)]
      exact ⟨.str _, H, I, ⟨t, rfl⟩, q⟩
    · rw [if_neg (by rw [hl]; simp; omega)]
      have e2 : (⟨(List.replicate (n : Int).toNat (⟨#[c]⟩ : Str).cps).foldl (· ++ ·) #[]⟩ : Str) = ⟨(List.replicate n c).toArray⟩ := by
        rw [show (n : Int).toNat = n by omega, foldl_one]
        simp
      rw [e2]
      refine ⟨?_, .str _, H, I.tok _, ⟨_, rfl⟩, q⟩
      show (List.replicate n c).toArray.size ≤ sizeLine
      rw [List.size_toArray, List.length_replicate, sizeLine_eq]
      omega
end
end KX

end

section
set_option Elab.async false
set_option linter.all false
set_option maxRecDepth 100000
set_option maxHeartbeats 2000000
namespace KX
open PySem PySem.Spec PyProof.Rows L2
section
variable {X : Cx}
/-- d == e of two dicts with the same keys that hold the same objects -/
def rEqVery : R2 := fun x y H Q => ∃ a b ks ls, x = .ref a ∧ y = .ref b ∧ H a = some (.dK ks) ∧ H b = some (.dK ls) ∧ ks.length = ls.length ∧ (∀ p ∈ ks, valV ls p.1 = some p.2 ∧ isRef p.2 = true) ∧ Q (.bl true) H
theorem op_eqVery (hu : X.A.units < cLine) : OpR X (compareOp .Eq) rEqVery := by
  intro pins s σ H x y v u Q I rx ry h
  obtain ⟨a, b, ks, ls, rfl, rfl, ea, eb, hlen, hp, q⟩ := h
  cases rx
  cases ry
  obtain ⟨_, ya, va, ra, da⟩ := (show ObjOk X.prog X.w H s.heap a (.dK ks) from I.hok a _ ea)
  obtain ⟨_, yb, vb, rb, db⟩ := (show ObjOk X.prog X.w H s.heap b (.dK ls) from I.hok b _ eb)
  have hl : va.length = vb.length := by rw [← ra.length, ← rb.length, hlen]
  exact PySem.W.keq_eq (knd := mixKind X.prog X.w) (r := true) ya yb da db hu (fun _ => hits_very rb ra hp) (fin_bl I q (by simp [hl]))
end
end KX

end

section
set_option Elab.async false
set_option linter.all false
set_option maxRecDepth 100000
set_option maxHeartbeats 2000000
/-! enumerate over a tuple. -/
namespace KX
open PySem PySem.Spec PyProof.Rows L2
theorem meets_enum1 {v : Value} {o : Obj} {H : Heap → Prop} (B : Begins v o H) :
    Meets (Builtin.«enumerate.__new__» ⟨[.type "enumerate", v], []⟩) (fun _ R s => H s.heap ∧
      R (.ok (.ret (.ref (s.heap.push o).objs.size))) { s with heap := (s.heap.push o).push { cls := .type "enumerate", data := .fields #[.none, .bool false, .ref s.heap.objs.size, rawInt 0, .none, .none] } }) :=
  .of_wp fun prog w A R s h => by
    obtain ⟨hp, g, d, tk, os⟩ := s; obtain ⟨h1, h⟩ := h
    have hsub := sub_enumerate
    have q1 : ∀ {A' : Around} {E : Value → Shared → Prop} {Q : Value → Shared → Prop}, Q (.ref hp.objs.size) ⟨hp.push o, g, d, tk, os⟩ → wpAny (model prog w) A' (pyIter v) Q E ⟨hp, g, d, tk, os⟩ :=
      fun q => B.iter prog w _ _ ⟨hp, g, d, tk, os⟩ _ h1 q
    wp_walk using q1
    refine wpAny_stack_any fun st => wpAny_pure ?_
    split
    · rename_i c _ _ _ _ _
      cases (c == Value.type "enumerate")
      · wp_walk using q1
        exact ⟨_, rfl, h⟩
      · wp_walk using q1
        exact ⟨_, rfl, h⟩
    · wp_walk using q1
      exact ⟨_, rfl, h⟩
theorem enum1 {prog : Program} {w : World} {A : Around} {E : Value → Shared → Prop} {s : Shared} {v : Value} {o : Obj} {H : Heap → Prop} {Q : Value → Shared → Prop} (B : Begins v o H) (h1 : H s.heap)
    (h : ∀ h', IsEnum h' (s.heap.objs.size + 1) s.heap.objs.size 0 .none → h'.get? s.heap.objs.size = some o → h'.objs.size = s.heap.objs.size + 2 →
      (∀ b o, s.heap.get? b = some o → h'.get? b = some o) → Q (.ref (s.heap.objs.size + 1)) { s with heap := h' }) :
    wpAny (model prog w) A (call (.type "enumerate") [v]) Q E s := by
  refine callType_new F.called_enumerate (by decide) (F.typeCall_enumerate_1 _) (F.newCall_enumerate_1 _) (fun obj => F.args_object_init_2 obj _) F.entry_enumerate_new
    (meets_enum1 B) ⟨h1, ?_⟩
  have hz : (s.heap.push o).objs.size = s.heap.objs.size + 1 := Heap.size_push ..
  show _ ∧ _
  rw [hz]
  have he : IsEnum ((s.heap.push o).push { cls := .type "enumerate", data := .fields #[.none, .bool false, .ref s.heap.objs.size, rawInt 0, .none, .none] }) (s.heap.objs.size + 1) s.heap.objs.size 0 .none := by
    have := Heap.get?_push_size (s.heap.push o) (o := { cls := .type "enumerate", data := .fields #[.none, .bool false, .ref s.heap.objs.size, rawInt 0, .none, .none] }) rfl
    rw [hz] at this; exact this
  refine ⟨⟨_, he, rfl⟩, h _ he (Heap.get?_push_of_some _ (Heap.get?_push_size _ B.free)) (by rw [Heap.size_push, hz]) fun b o x => Heap.get?_push_of_some _ (Heap.get?_push_of_some _ x)⟩
/-- the tuple's items, each in a new pair -/
def IteT (K : PySem.W.Frag) (a : Addr) : It :=
  ⟨fun i H => ∃ (xs : List V) (x : V), SqT K H a xs ∧ xs[i]? = some x, fun i H v H' => ∃ T x, v = .ref T ∧ H T = none ∧ H' = upd H T (.tup [.int (i : Nat), x]) ∧ ∀ xs, SqT K H a xs → xs[i]? = some x, fun i H => ∃ xs : List V, SqT K H a xs ∧ xs.length = i⟩
theorem turn_enumT {P : Program} {w : World} {K : PySem.W.Frag} {elts : List Expr} {kk : Nat} {tpos : Pos} (a e it : Addr) (hai : a ≠ it) (hae : a ≠ e) :
    Turn P w K (.Tuple elts kk tpos) (IteT K a) [e, it] e (fun i h => (∃ old, IsEnum h e it ((i : Nat) : Int) old) ∧ h.IsTupleIter it a i ∧ e ≠ it) where
  mem := by simp
  obj := fun i h st b hb => by
    obtain ⟨⟨old, he⟩, ⟨o, ho, hc, hd⟩, _⟩ := st
    have e' : b = e ∨ b = it := by simpa using hb
    rcases e' with z | z
    · rw [z]; exact ⟨_, he, fun v q => nomatch q⟩
    · rw [z]; exact ⟨o, ho, fun v q => by rw [hd] at q; cases q⟩
  keep := fun i h h' st k => let ⟨⟨old, he⟩, hi, hne⟩ := st; ⟨⟨old, k e (by simp) _ he⟩, hi.at fun o q => k it (by simp) o q, hne⟩
  item := by
    intro X hP hw hK hc i pins s σ H E I hf st hg
    subst hP hw hK
    obtain ⟨⟨old, he⟩, hit, hne⟩ := st
    obtain ⟨xs, x, hq, hx⟩ := hg
    obtain ⟨its, rv, p, hz⟩ := I.tuple hq
    obtain ⟨u, hu, ru⟩ := rv.get hx
    have hel : e < s.heap.objs.size := Heap.lt_size he
    have hil : it < s.heap.objs.size := by obtain ⟨_, q, _⟩ := hit; exact Heap.lt_size q
    have hT0 : s.heap.IsTuple a its.toArray := p
    have hlt : i < its.toArray.size := by
      have := (List.getElem?_eq_some_iff.mp hu).1
      simpa using this
    have D := Draws.tuple (prog := X.prog) (w := X.w) (A := X.A.in1) (I.ok.hd hc) it a hai its.toArray
    refine wpAny_pyNext_enum_itemD D he ⟨hit, hT0⟩ hlt hne (by simp [hne, Ne.symm hae]) fun x' h' tk hP' ho hst' hT hsz hk => ?_
    have ex : x' = u := by
      have h1 : its[i]? = some x' := by simpa using hP'
      rw [hu] at h1
      exact (Option.some.inj h1).symm
    subst ex
    refine ⟨_, rfl, wpAny_letOwnedTupleGo_enum (s := { s with heap := h', toks := tk + 1 }) ho fun h'' he' sb => ?_⟩
    have hT2 : h''.get? s.heap.objs.size = some { cls := .type "tuple", data := .seq #[.int i tk, x'] } := (sb.2 _ (Nat.ne_of_gt hel)).trans hT
    have new : ObjOk X.prog X.w (upd H s.heap.objs.size (.tup [.int (i : Nat), x])) h'' s.heap.objs.size (.tup [.int (i : Nat), x]) :=
      ⟨by show 2 ≤ sizeLine; decide, [.int i tk, x'], .cons ⟨_, rfl⟩ (.cons ru .nil), ⟨_, hT2, rfl, _, rfl⟩⟩
    have I1 : Inv X pins σ (upd H s.heap.objs.size (.tup [.int (i : Nat), x])) { s with heap := h'', toks := tk + 1 } :=
      I.turnedNew (ch := [e, it]) (fun b ob hb q => (sb.2 b (fun z => hb (by simp [z]))).trans (hk b ob (fun z => hb (by simp [z])) (fun z => hb (by simp [z])) q)) hf (Nat.le_refl _) new
    refine ⟨.ref s.heap.objs.size, _, I1, rfl, ⟨_, x, rfl, I.hok.fresh (Nat.le_refl _), rfl, fun ys hy => by rw [I.tuple_inj hy hq]; exact hx⟩, ⟨⟨x', ?_⟩, hst'.1.at fun o q => (sb.2 it (Ne.symm hne)).trans q, hne⟩, fun b hb => ?_⟩
    · have e1 : ((i + 1 : Nat) : Int) = (i : Int) + 1 := by omega
      rw [e1]; exact he'
    · have hb' : b < s.heap.objs.size := by
        have e' : b = e ∨ b = it := by simpa using hb
        rcases e' with z | z
        · rw [z]; exact hel
        · rw [z]; exact hil
      rw [upd_ne (Nat.ne_of_lt hb')]
      exact (hf b hb).1
  done := by
    intro X hP hw hK hc i pins s σ H E I hf st hg
    subst hP hw hK
    obtain ⟨⟨old, he⟩, hit, hne⟩ := st
    obtain ⟨xs, hq, hx⟩ := hg
    obtain ⟨its, rv, p, hz⟩ := I.tuple hq
    obtain ⟨f0, f1, f2, f3, f4, f5⟩ := hf it (by simp)
    have hl := rv.length
    have hT0 : s.heap.IsTuple a its.toArray := p
    have D := Draws.tuple (prog := X.prog) (w := X.w) (A := X.A.in1) (I.ok.hd hc) it a hai its.toArray
    have en : i = its.toArray.size := by simp; omega
    exact wpAny_pyNext_enum_endD D he (by rw [← en]; exact ⟨hit, hT0⟩) fun h' eb => ⟨rfl, I.turned (t' := s.toks) (fun b o hb q => eb b o hb q) f0 f1 f3 f4 f5⟩
  self := fun A i s Q E st h => let ⟨⟨_, he⟩, _⟩ := st; wpAny_pyIter_enum he h
theorem walk_enumT {K : PySem.W.Frag} {a : Addr} {xs : List V} : Walk (IteT K a) xs.length (fun H => SqT K H a xs) (YPair (fun i => some (.int (i : Nat))) (fun i => xs[i]?)) := by
  refine ⟨fun i _ hi q => ⟨xs, xs[i], q, by simp [hi]⟩, fun _ q => ⟨xs, q, rfl⟩, fun i H v H' _ q y => ?_⟩
  obtain ⟨T, x, h1, h2, h3, h4⟩ := y
  exact ⟨T, .int (i : Nat), x, h1, h2, h3, rfl, h4 xs q⟩
def iEnumT (K : PySem.W.Frag) (ta : TA) : TI := fun σ H R => ta σ H fun vs H1 => ∃ a xs, vs = [.ref a] ∧ (SqL K H1 a xs ∨ SqT K H1 a xs) ∧
  ∀ (J : It) (G : Hp → Prop), Walk J xs.length G (YPair (fun i => some (.int (i : Nat))) (fun i => xs[i]?)) → (∀ H3, Same H1 H3 → G H3) → R J H1
theorem pi_enumT {X : Cx} {e : Expr} {ta : TA} {p pos tpos : Pos} {elts : List Expr} {kk : Nat} (hg : Gl X "enumerate") (hm : X.mg "enumerate" = none) (ha : PA X [e] ta) (hs : starEach [e] X.env = [(false, eval e X.env)] := by rfl) :
    PI X (.Tuple elts kk tpos) (.Call (.Name "enumerate" p) [e] [] pos) (iEnumT X.K ta) := by
  refine ⟨fun pins s σ H R I h => ?_⟩
  refine Call_ (ld_blt I hg hm boot_enumerate (PyProof.Rows.callWith_type1 (thn (ha.run pos pins s σ H _ I h) fun us s1 ⟨vs, H1, I1, r1, q1⟩ => ?_) hs rfl))
  obtain ⟨a, xs, ex, hsq, q⟩ := q1
  subst ex
  cases r1 with
  | cons r rr =>
    cases rr
    cases r
    have fin : ∀ {b : Addr}, b ∈ [s1.heap.objs.size + 1, s1.heap.objs.size] → FpOk X pins H1 b := fun {b} hb => by
      have e' : b = s1.heap.objs.size + 1 ∨ b = s1.heap.objs.size := by simpa using hb
      have hle : s1.heap.objs.size ≤ b := by
        rcases e' with z | z
        · rw [z]; exact Nat.le_add_right _ _
        · rw [z]; exact Nat.le_refl _
      exact I1.fpOk hle (I1.hok.fresh hle)
    rcases hsq with hq | hq
    · obtain ⟨its, rv, p', hz⟩ := I1.list hq
      refine call_enumerate_list p'.isList fun h' he hit hsz hk => wpAny_pyIter_enum he ?_
      have I2 : Inv X pins σ H1 { s1 with heap := h' } := I1.kept (t' := s1.toks) hk
      exact ⟨s1.heap.objs.size + 1, [s1.heap.objs.size + 1, s1.heap.objs.size], _, _, H1, rfl, I2, turn_enum a (s1.heap.objs.size + 1) s1.heap.objs.size, ⟨⟨.none, he⟩, hit, Nat.succ_ne_self _⟩, fun b hb => fin hb, q _ _ walk_enum fun H3 s => s.seq hq⟩
    · obtain ⟨its, rv, p', hz⟩ := I1.tuple hq
      have hT0 : s1.heap.IsTuple a its.toArray := p'
      have hal : a < s1.heap.objs.size := by obtain ⟨_, z, _⟩ := hT0; exact Heap.lt_size z
      refine enum1 (begins_tuple a its.toArray) hT0 fun h' he hit hsz hk => wpAny_pyIter_enum he ?_
      have I2 : Inv X pins σ H1 { s1 with heap := h' } := I1.kept (t' := s1.toks) hk
      exact ⟨s1.heap.objs.size + 1, [s1.heap.objs.size + 1, s1.heap.objs.size], _, _, H1, rfl, I2, turn_enumT a (s1.heap.objs.size + 1) s1.heap.objs.size (Nat.ne_of_lt hal) (Nat.ne_of_lt (Nat.lt_succ_of_lt hal)), ⟨⟨.none, he⟩, ⟨_, hit, rfl, rfl⟩, Nat.succ_ne_self _⟩, fun b hb => fin hb, q _ _ walk_enumT fun H3 s => (show SqT X.K H3 a xs from match hq with | .inl (.inl h) => .inl (.inl (s _ _ h)) | .inl (.inr ⟨o, h⟩) => .inl (.inr ⟨o, s _ _ h⟩) | .inr h => .inr h)⟩
end KX

end

section
set_option Elab.async false
set_option linter.all false
set_option maxRecDepth 100000
set_option maxHeartbeats 2000000
/-! A list of two, its second item a counter that nobody tells: opened while a def turns it. -/
namespace KX
open PySem PySem.Spec PyProof.Rows L2
def DrawO (d a : Addr) : HO := .ext fun h => ∃ (n : Int) (t : Tok) (k : Nat), h.get? d = some { cls := .type "list", data := .seq #[.ref a, .int n t] k }
section
variable {X : Cx} {pins : List (Addr × Obj)} {σ : L2.St} {H : Hp} {s : Shared} {d a : Addr}
theorem draw_open (I : Inv X pins σ H s) (h : H d = some (DrawO d a)) : ∃ n : Int, Inv X pins σ (upd H d (.lst [.ref a, .int n])) s := by
  obtain ⟨⟨n, t, k, e⟩, _, _⟩ := (show ObjOk X.prog X.w H s.heap d (DrawO d a) from I.hok d _ h)
  have new : ObjOk X.prog X.w (upd H d (.lst [.ref a, .int n])) s.heap d (.lst [.ref a, .int n]) := ⟨by show 2 ≤ sizeLine; decide, [.ref a, .int n t], k, .cons rfl (.cons ⟨t, rfl⟩ .nil), e⟩
  exact ⟨n, I.write (x := d) (e := d) (t' := s.toks) (h' := s.heap) (by rw [h]; trivial) (.inl rfl) (fun b v _ q => q) ⟨_, e⟩ new⟩
theorem draw_close {n : Int} (I : Inv X pins σ H s) (h : H d = some (.lst [.ref a, .int n])) : Inv X pins σ (upd H d (DrawO d a)) s := by
  obtain ⟨_, its, k, r, e⟩ := (show ObjOk X.prog X.w H s.heap d (.lst [.ref a, .int n]) from I.hok d _ h)
  have new : ObjOk X.prog X.w (upd H d (DrawO d a)) s.heap d (DrawO d a) := by
    cases r with
    | cons r1 r2 =>
      cases r2 with
      | cons r2 r3 =>
        cases r3
        cases r1
        obtain ⟨t, rfl⟩ := r2
        exact ⟨⟨n, t, k, e⟩, ⟨_, e⟩, fun h1 h2 ⟨n, t, k, z⟩ st => ⟨n, t, k, st _ z⟩⟩
  exact I.write (x := d) (e := d) (t' := s.toks) (h' := s.heap) (by rw [h]; trivial) (.inl rfl) (fun b v _ q => q) ⟨_, e⟩ new
def sOpen (t : TS) : TS := fun D σ H => ∃ d a, H d = some (DrawO d a) ∧ ∀ n : Int, t
  ⟨fun σ' H' => (∃ n' : Int, H' d = some (.lst [.ref a, .int n'])) ∧ D.nx σ' (upd H' d (DrawO d a)), fun v H' => (∃ n' : Int, H' d = some (.lst [.ref a, .int n'])) ∧ D.rt v (upd H' d (DrawO d a)),
    fun σ' H' => (∃ n' : Int, H' d = some (.lst [.ref a, .int n'])) ∧ D.bk σ' (upd H' d (DrawO d a)), fun σ' H' => (∃ n' : Int, H' d = some (.lst [.ref a, .int n'])) ∧ D.ct σ' (upd H' d (DrawO d a))⟩ σ (upd H d (.lst [.ref a, .int n]))
theorem pss_open {b : List Stmt} {t : TS} (h : PSs X b t) : PSs X b (sOpen t) := by
  refine ⟨fun pins s σ H D I hw => ?_⟩
  obtain ⟨d, a, hd, hw⟩ := hw
  obtain ⟨n, I1⟩ := draw_open I hd
  refine thn (h.run pins s σ _ _ I1 (hw n)) fun f s1 q => ?_
  cases f with
  | next => obtain ⟨σ', H', I2, ⟨n', e⟩, q⟩ := q; exact ⟨σ', _, draw_close I2 e, q⟩
  | brk => obtain ⟨σ', H', I2, ⟨n', e⟩, q⟩ := q; exact ⟨σ', _, draw_close I2 e, q⟩
  | cont => obtain ⟨σ', H', I2, ⟨n', e⟩, q⟩ := q; exact ⟨σ', _, draw_close I2 e, q⟩
  | ret v => obtain ⟨x, σ', H', I2, r, ⟨n', e⟩, q⟩ := q; exact ⟨x, σ', _, draw_close I2 e, r, q⟩
def sClose (t : TS) : TS := fun D σ H => ∃ (d a : Addr) (n : Int), H d = some (.lst [.ref a, .int n]) ∧ t D σ (upd H d (DrawO d a))
theorem pss_close {b : List Stmt} {t : TS} (h : PSs X b t) : PSs X b (sClose t) := by
  refine ⟨fun pins s σ H D I hw => ?_⟩
  obtain ⟨d, a, n, hd, hw⟩ := hw
  exact h.run pins s σ _ _ (draw_close I hd) hw
end
end KX

end

section
set_option Elab.async false
set_option linter.all false
set_option maxRecDepth 100000
/-! The text by places; the names of each def; what the top leaves. -/

namespace K41
open PySem PySem.Spec PyProof.Rows L2 KX
def topS (i : Nat) : Stmt := PySem.Challenge.pw_changetables_k05_whole_ways_back.main.body.getD i (.Pass ⟨0, 0, 0, 0⟩)
abbrev s__wall : Stmt := topS 0
abbrev n__wall : List Str := ["k"]
theorem sc__wall : FnScope n__wall ["k"] (defScope s__wall) := ⟨rfl, rfl, rfl, by decide +kernel, rfl, by decide +kernel, by decide +kernel⟩
abbrev s_BadKinds_init : Stmt := inClass (topS 3) 0
abbrev n_BadKinds_init : List Str := ["self", "name"]
theorem sc_BadKinds_init : FnScope n_BadKinds_init ["self", "name"] (defScope s_BadKinds_init) := ⟨rfl, rfl, rfl, by decide +kernel, rfl, by decide +kernel, by decide +kernel⟩
abbrev s_BadChange_init : Stmt := inClass (topS 4) 0
abbrev n_BadChange_init : List Str := ["self", "place"]
theorem sc_BadChange_init : FnScope n_BadChange_init ["self", "place"] (defScope s_BadChange_init) := ⟨rfl, rfl, rfl, by decide +kernel, rfl, by decide +kernel, by decide +kernel⟩
abbrev s_CannotDo_init : Stmt := inClass (topS 6) 0
abbrev n_CannotDo_init : List Str := ["self", "place"]
theorem sc_CannotDo_init : FnScope n_CannotDo_init ["self", "place"] (defScope s_CannotDo_init) := ⟨rfl, rfl, rfl, by decide +kernel, rfl, by decide +kernel, by decide +kernel⟩
abbrev s_Kinds_init : Stmt := inClass (topS 8) 0
abbrev n_Kinds_init : List Str := ["self", "told", "names", "at", "name", "early"]
theorem sc_Kinds_init : FnScope n_Kinds_init ["self", "told"] (defScope s_Kinds_init) := ⟨rfl, rfl, rfl, by decide +kernel, rfl, by decide +kernel, by decide +kernel⟩
abbrev s_Kinds_getitem : Stmt := inClass (topS 8) 1
abbrev n_Kinds_getitem : List Str := ["self", "at"]
theorem sc_Kinds_getitem : FnScope n_Kinds_getitem ["self", "at"] (defScope s_Kinds_getitem) := ⟨rfl, rfl, rfl, by decide +kernel, rfl, by decide +kernel, by decide +kernel⟩
abbrev s_Kinds_iter : Stmt := inClass (topS 8) 2
abbrev n_Kinds_iter : List Str := ["self"]
theorem sc_Kinds_iter : FnScope n_Kinds_iter ["self"] (defScope s_Kinds_iter) := ⟨rfl, rfl, rfl, by decide +kernel, rfl, by decide +kernel, by decide +kernel⟩
abbrev s_Kinds_contains : Stmt := inClass (topS 8) 3
abbrev n_Kinds_contains : List Str := ["self", "x"]
theorem sc_Kinds_contains : FnScope n_Kinds_contains ["self", "x"] (defScope s_Kinds_contains) := ⟨rfl, rfl, rfl, by decide +kernel, rfl, by decide +kernel, by decide +kernel⟩
abbrev s_Kinds_len : Stmt := inClass (topS 8) 4
abbrev n_Kinds_len : List Str := ["self"]
theorem sc_Kinds_len : FnScope n_Kinds_len ["self"] (defScope s_Kinds_len) := ⟨rfl, rfl, rfl, by decide +kernel, rfl, by decide +kernel, by decide +kernel⟩
abbrev s_Kinds_eq : Stmt := inClass (topS 8) 5
abbrev n_Kinds_eq : List Str := ["self", "other"]
theorem sc_Kinds_eq : FnScope n_Kinds_eq ["self", "other"] (defScope s_Kinds_eq) := ⟨rfl, rfl, rfl, by decide +kernel, rfl, by decide +kernel, by decide +kernel⟩
abbrev s_Kinds_names : Stmt := inClass (topS 8) 6
abbrev n_Kinds_names : List Str := ["self"]
theorem sc_Kinds_names : FnScope n_Kinds_names ["self"] (defScope s_Kinds_names) := ⟨rfl, rfl, rfl, by decide +kernel, rfl, by decide +kernel, by decide +kernel⟩
abbrev s_Kinds_growth : Stmt := inClass (topS 8) 7
abbrev n_Kinds_growth : List Str := ["self", "name"]
theorem sc_Kinds_growth : FnScope n_Kinds_growth ["self", "name"] (defScope s_Kinds_growth) := ⟨rfl, rfl, rfl, by decide +kernel, rfl, by decide +kernel, by decide +kernel⟩
abbrev s_check_kinds : Stmt := topS 9
abbrev n_check_kinds : List Str := ["kinds"]
theorem sc_check_kinds : FnScope n_check_kinds ["kinds"] (defScope s_check_kinds) := ⟨rfl, rfl, rfl, by decide +kernel, rfl, by decide +kernel, by decide +kernel⟩
abbrev s_needs_letter : Stmt := topS 10
abbrev n_needs_letter : List Str := ["kinds", "name"]
theorem sc_needs_letter : FnScope n_needs_letter ["kinds", "name"] (defScope s_needs_letter) := ⟨rfl, rfl, rfl, by decide +kernel, rfl, by decide +kernel, by decide +kernel⟩
abbrev s_is_whole : Stmt := topS 11
abbrev n_is_whole : List Str := ["number"]
theorem sc_is_whole : FnScope n_is_whole ["number"] (defScope s_is_whole) := ⟨rfl, rfl, rfl, by decide +kernel, rfl, by decide +kernel, by decide +kernel⟩
abbrev s_has_names : Stmt := topS 12
abbrev n_has_names : List Str := ["told", "name"]
theorem sc_has_names : FnScope n_has_names ["told"] (defScope s_has_names) := ⟨rfl, rfl, rfl, by decide +kernel, rfl, by decide +kernel, by decide +kernel⟩
abbrev s_is_name : Stmt := topS 13
abbrev n_is_name : List Str := ["name"]
theorem sc_is_name : FnScope n_is_name ["name"] (defScope s_is_name) := ⟨rfl, rfl, rfl, by decide +kernel, rfl, by decide +kernel, by decide +kernel⟩
abbrev s_is_kind : Stmt := topS 14
abbrev n_is_kind : List Str := ["kind", "width", "row"]
theorem sc_is_kind : FnScope n_is_kind ["kind"] (defScope s_is_kind) := ⟨rfl, rfl, rfl, by decide +kernel, rfl, by decide +kernel, by decide +kernel⟩
abbrev s_is_row : Stmt := topS 15
abbrev n_is_row : List Str := ["width", "row", "part"]
theorem sc_is_row : FnScope n_is_row ["width", "row"] (defScope s_is_row) := ⟨rfl, rfl, rfl, by decide +kernel, rfl, by decide +kernel, by decide +kernel⟩
abbrev s_is_part : Stmt := topS 16
abbrev n_is_part : List Str := ["width", "part"]
theorem sc_is_part : FnScope n_is_part ["width", "part"] (defScope s_is_part) := ⟨rfl, rfl, rfl, by decide +kernel, rfl, by decide +kernel, by decide +kernel⟩
abbrev s_done : Stmt := topS 18
abbrev n_done : List Str := ["kinds", "text", "change"]
theorem sc_done : FnScope n_done ["kinds", "text", "change"] (defScope s_done) := ⟨rfl, rfl, rfl, by decide +kernel, rfl, by decide +kernel, by decide +kernel⟩
abbrev s_done_all : Stmt := topS 19
abbrev n_done_all : List Str := ["kinds", "text", "changes", "now", "at", "change"]
theorem sc_done_all : FnScope n_done_all ["kinds", "text", "changes"] (defScope s_done_all) := ⟨rfl, rfl, rfl, by decide +kernel, rfl, by decide +kernel, by decide +kernel⟩
abbrev s_can_do : Stmt := topS 20
abbrev n_can_do : List Str := ["kinds", "text", "change", "name", "place", "letter", "_"]
theorem sc_can_do : FnScope n_can_do ["kinds", "text", "change"] (defScope s_can_do) := ⟨rfl, rfl, rfl, by decide +kernel, rfl, by decide +kernel, by decide +kernel⟩
abbrev s_text_behind : Stmt := topS 21
abbrev n_text_behind : List Str := ["kinds", "text", "change", "name", "place", "letter", "_", "width", "row", "put", "part"]
theorem sc_text_behind : FnScope n_text_behind ["kinds", "text", "change"] (defScope s_text_behind) := ⟨rfl, rfl, rfl, by decide +kernel, rfl, by decide +kernel, by decide +kernel⟩
abbrev s_check_text : Stmt := topS 22
abbrev n_check_text : List Str := ["text"]
theorem sc_check_text : FnScope n_check_text ["text"] (defScope s_check_text) := ⟨rfl, rfl, rfl, by decide +kernel, rfl, by decide +kernel, by decide +kernel⟩
abbrev s_check_changes : Stmt := topS 23
abbrev n_check_changes : List Str := ["kinds", "changes", "at", "change"]
theorem sc_check_changes : FnScope n_check_changes ["kinds", "changes"] (defScope s_check_changes) := ⟨rfl, rfl, rfl, by decide +kernel, rfl, by decide +kernel, by decide +kernel⟩
abbrev s_is_text : Stmt := topS 24
abbrev n_is_text : List Str := ["text", "letter"]
theorem sc_is_text : FnScope n_is_text ["text"] (defScope s_is_text) := ⟨rfl, rfl, rfl, by decide +kernel, rfl, by decide +kernel, by decide +kernel⟩
abbrev s_is_change : Stmt := topS 25
abbrev n_is_change : List Str := ["kinds", "change", "name", "place", "letter", "hand"]
theorem sc_is_change : FnScope n_is_change ["kinds", "change"] (defScope s_is_change) := ⟨rfl, rfl, rfl, by decide +kernel, rfl, by decide +kernel, by decide +kernel⟩
abbrev s_taken_back : Stmt := topS 27
abbrev n_taken_back : List Str := ["kinds", "text", "change"]
theorem sc_taken_back : FnScope n_taken_back ["kinds", "text", "change"] (defScope s_taken_back) := ⟨rfl, rfl, rfl, by decide +kernel, rfl, by decide +kernel, by decide +kernel⟩
abbrev s_kind_back : Stmt := topS 28
abbrev n_kind_back : List Str := ["kinds", "name"]
theorem sc_kind_back : FnScope n_kind_back ["kinds", "name"] (defScope s_kind_back) := ⟨rfl, rfl, rfl, by decide +kernel, rfl, by decide +kernel, by decide +kernel⟩
abbrev s_list_back : Stmt := topS 29
abbrev n_list_back : List Str := ["kinds", "text", "changes", "steps", "at", "change"]
theorem sc_list_back : FnScope n_list_back ["kinds", "text", "changes"] (defScope s_list_back) := ⟨rfl, rfl, rfl, by decide +kernel, rfl, by decide +kernel, by decide +kernel⟩
abbrev s_turned_kinds : Stmt := topS 30
abbrev n_turned_kinds : List Str := ["kinds", "name"]
theorem sc_turned_kinds : FnScope n_turned_kinds ["kinds"] (defScope s_turned_kinds) := ⟨rfl, rfl, rfl, by decide +kernel, rfl, by decide +kernel, by decide +kernel⟩
abbrev s_turned : Stmt := topS 31
abbrev n_turned : List Str := ["kinds", "text", "change", "name", "place", "letter", "hand"]
theorem sc_turned : FnScope n_turned ["kinds", "text", "change"] (defScope s_turned) := ⟨rfl, rfl, rfl, by decide +kernel, rfl, by decide +kernel, by decide +kernel⟩
abbrev s_check_one : Stmt := topS 32
abbrev n_check_one : List Str := ["kinds", "text", "change"]
theorem sc_check_one : FnScope n_check_one ["kinds", "text", "change"] (defScope s_check_one) := ⟨rfl, rfl, rfl, by decide +kernel, rfl, by decide +kernel, by decide +kernel⟩
abbrev s_change_back : Stmt := topS 33
abbrev n_change_back : List Str := ["kinds", "text", "change", "name", "place", "_", "hand", "back", "lost"]
theorem sc_change_back : FnScope n_change_back ["kinds", "text", "change"] (defScope s_change_back) := ⟨rfl, rfl, rfl, by decide +kernel, rfl, by decide +kernel, by decide +kernel⟩
abbrev s_name_back : Stmt := topS 34
abbrev n_name_back : List Str := ["kinds", "name", "back", "each"]
theorem sc_name_back : FnScope n_name_back ["kinds", "name"] (defScope s_name_back) := ⟨rfl, rfl, rfl, by decide +kernel, rfl, by decide +kernel, by decide +kernel⟩
abbrev s_turned_back : Stmt := topS 35
abbrev n_turned_back : List Str := ["kind", "width", "row", "number"]
theorem sc_turned_back : FnScope n_turned_back ["kind"] (defScope s_turned_back) := ⟨rfl, rfl, rfl, by decide +kernel, rfl, by decide +kernel, by decide +kernel⟩
abbrev s_lost_numbers : Stmt := topS 36
abbrev n_lost_numbers : List Str := ["kind", "width", "row", "number"]
theorem sc_lost_numbers : FnScope n_lost_numbers ["kind"] (defScope s_lost_numbers) := ⟨rfl, rfl, rfl, by decide +kernel, rfl, by decide +kernel, by decide +kernel⟩
abbrev s_turned_kind : Stmt := topS 37
abbrev n_turned_kind : List Str := ["kind", "width", "row", "part"]
theorem sc_turned_kind : FnScope n_turned_kind ["kind"] (defScope s_turned_kind) := ⟨rfl, rfl, rfl, by decide +kernel, rfl, by decide +kernel, by decide +kernel⟩
abbrev s__law_draw : Stmt := topS 39
abbrev n__law_draw : List Str := ["script", "at", "many", "row", "cell", "turn", "step", "mixed"]
theorem sc__law_draw : FnScope n__law_draw ["script", "at", "many"] (defScope s__law_draw) := ⟨rfl, rfl, rfl, by decide +kernel, rfl, by decide +kernel, by decide +kernel⟩
abbrev s__law_all_kinds : Stmt := topS 40
abbrev n__law_all_kinds : List Str := []
theorem sc__law_all_kinds : FnScope n__law_all_kinds [] (defScope s__law_all_kinds) := ⟨rfl, rfl, rfl, by decide +kernel, rfl, by decide +kernel, by decide +kernel⟩
abbrev s__law_some_kinds : Stmt := topS 41
abbrev n__law_some_kinds : List Str := ["script", "at", "most", "told", "names", "some", "turn", "name"]
theorem sc__law_some_kinds : FnScope n__law_some_kinds ["script", "at", "most"] (defScope s__law_some_kinds) := ⟨rfl, rfl, rfl, by decide +kernel, rfl, by decide +kernel, by decide +kernel⟩
abbrev s__law_behind : Stmt := topS 42
abbrev n__law_behind : List Str := ["told", "text", "change", "name", "place", "letter", "hand", "width", "row", "put", "part"]
theorem sc__law_behind : FnScope n__law_behind ["told", "text", "change"] (defScope s__law_behind) := ⟨rfl, rfl, rfl, by decide +kernel, rfl, by decide +kernel, by decide +kernel⟩
abbrev s__law_back : Stmt := topS 43
abbrev n__law_back : List Str := ["kind", "width", "row", "late", "part"]
theorem sc__law_back : FnScope n__law_back ["kind"] (defScope s__law_back) := ⟨rfl, rfl, rfl, by decide +kernel, rfl, by decide +kernel, by decide +kernel⟩
abbrev s_law : Stmt := topS 44
abbrev n_law : List Str := ["script", "told", "kinds", "name", "late", "other", "due", "text", "changes", "here", "whole", "turn", "names", "change", "back", "found", "width", "row", "part"]
theorem sc_law : FnScope n_law ["script"] (defScope s_law) := ⟨rfl, rfl, rfl, by decide +kernel, rfl, by decide +kernel, by decide +kernel⟩
/-- a def of the text, as the top leaves it -/
structure Df (K : PySem.W.Frag) (mg : Str → Option Value) (x : Str) (st : Stmt) (ps : List Str) where
  a : Addr
  d : FuncData
  m : mg x = some (.ref a)
  f : Fun K x x st a d
  b : Binds K d ps []
/-- a method -/
structure Mf (K : PySem.W.Frag) (C : Addr) (x qual : Str) (st : Stmt) (ps : List Str) where
  a : Addr
  d : FuncData
  i : PySem.W.findIn K (.ref C) x = some (some (.ref a))
  g : PySem.W.isFn K (.ref a) = true
  f : Fun K x qual st a d
  b : Binds K d ps []
/-- a class -/
structure Cf (K : PySem.W.Frag) (mg : Str → Option Value) (x : Str) where
  c : Addr
  m : mg x = some (.ref c)
  k : PySem.W.keepIn K (.ref c) = true
/-- an error's class, below the class at B -/
structure Ef (K : PySem.W.Frag) (C B : Addr) : Prop where
  e : ErrC K C
  t : PySem.W.typeIn K (.ref C) = some (.type "type")
  u : PySem.W.kitOne K (.ref C) (.ref B) = some true
/-- which of the errors is which -/
structure Xf (K : PySem.W.Frag) (C C1 C2 C3 C4 : Addr) (b1 b2 b3 b4 : Bool) : Prop where
  x1 : PySem.W.subIn K (.ref C) (.ref C1) = some b1
  x2 : PySem.W.subIn K (.ref C) (.ref C2) = some b2
  x3 : PySem.W.subIn K (.ref C) (.ref C3) = some b3
  x4 : PySem.W.subIn K (.ref C) (.ref C4) = some b4
/-- the class Kinds -/
structure Kf (K : PySem.W.Frag) (C fi fg : Addr) : Prop where
  cls : Cls K C
  told : NoAttr K C "told"
  mkK : Mk K C fi
  fn : PySem.W.fnIn K fg = true
  ne : PySem.W.findIn K (.ref C) "__ne__" = some (some (.builtin "object.__ne__"))
  mro : PySem.W.mroIn K C (.type "object") = some true
  dictK : PySem.W.subIn K (.type "dict") (.ref C) = some false
  qd : PySem.W.kitOne K (.type "dict") (.ref C) = some false
  qn : PySem.W.kitOne K (.type "NoneType") (.ref C) = some false
  ca : PySem.W.findIn K (.ref C) "__class__" = some (some (.builtin "object.__class__"))
  cg : PySem.W.specialIn K (.builtin "object.__class__") "__get__" = some (some (.builtin "getset_descriptor.__get__"))
  ct : PySem.W.takesIn K (.builtin "object.__class__") = some true
/-- built-in names that the text does not bind -/
structure Bf (mg : Str → Option Value) : Prop where
  isinstance_ : mg "isinstance" = none
  str_ : mg "str" = none
  int_ : mg "int" = none
  bool_ : mg "bool" = none
  tuple_ : mg "tuple" = none
  list_ : mg "list" = none
  dict_ : mg "dict" = none
  len_ : mg "len" = none
  all_ : mg "all" = none
  any_ : mg "any" = none
  set_ : mg "set" = none
  sorted_ : mg "sorted" = none
  enumerate_ : mg "enumerate" = none
  range_ : mg "range" = none
  abs_ : mg "abs" = none
  reversed_ : mg "reversed" = none
  TypeError_ : mg "TypeError" = none
  ValueError_ : mg "ValueError" = none
/-- what the top leaves of the text -/
structure Top (K : PySem.W.Frag) (mg : Str → Option Value) where
  _wall : Df K mg "_wall" s__wall ["k"]
  check_kinds : Df K mg "check_kinds" s_check_kinds ["kinds"]
  needs_letter : Df K mg "needs_letter" s_needs_letter ["kinds", "name"]
  is_whole : Df K mg "is_whole" s_is_whole ["number"]
  has_names : Df K mg "has_names" s_has_names ["told"]
  is_name : Df K mg "is_name" s_is_name ["name"]
  is_kind : Df K mg "is_kind" s_is_kind ["kind"]
  is_row : Df K mg "is_row" s_is_row ["width", "row"]
  is_part : Df K mg "is_part" s_is_part ["width", "part"]
  done : Df K mg "done" s_done ["kinds", "text", "change"]
  done_all : Df K mg "done_all" s_done_all ["kinds", "text", "changes"]
  can_do : Df K mg "can_do" s_can_do ["kinds", "text", "change"]
  text_behind : Df K mg "text_behind" s_text_behind ["kinds", "text", "change"]
  check_text : Df K mg "check_text" s_check_text ["text"]
  check_changes : Df K mg "check_changes" s_check_changes ["kinds", "changes"]
  is_text : Df K mg "is_text" s_is_text ["text"]
  is_change : Df K mg "is_change" s_is_change ["kinds", "change"]
  taken_back : Df K mg "taken_back" s_taken_back ["kinds", "text", "change"]
  kind_back : Df K mg "kind_back" s_kind_back ["kinds", "name"]
  list_back : Df K mg "list_back" s_list_back ["kinds", "text", "changes"]
  turned_kinds : Df K mg "turned_kinds" s_turned_kinds ["kinds"]
  turned : Df K mg "turned" s_turned ["kinds", "text", "change"]
  check_one : Df K mg "check_one" s_check_one ["kinds", "text", "change"]
  change_back : Df K mg "change_back" s_change_back ["kinds", "text", "change"]
  name_back : Df K mg "name_back" s_name_back ["kinds", "name"]
  turned_back : Df K mg "turned_back" s_turned_back ["kind"]
  lost_numbers : Df K mg "lost_numbers" s_lost_numbers ["kind"]
  turned_kind : Df K mg "turned_kind" s_turned_kind ["kind"]
  _law_draw : Df K mg "_law_draw" s__law_draw ["script", "at", "many"]
  _law_all_kinds : Df K mg "_law_all_kinds" s__law_all_kinds []
  _law_some_kinds : Df K mg "_law_some_kinds" s__law_some_kinds ["script", "at", "most"]
  _law_behind : Df K mg "_law_behind" s__law_behind ["told", "text", "change"]
  _law_back : Df K mg "_law_back" s__law_back ["kind"]
  law_ : Df K mg "law" s_law ["script"]
  cChangeError : Cf K mg "ChangeError"
  cBadKinds : Cf K mg "BadKinds"
  cBadChange : Cf K mg "BadChange"
  cBadText : Cf K mg "BadText"
  cCannotDo : Cf K mg "CannotDo"
  cKinds : Cf K mg "Kinds"
  BadKinds_init : Mf K cBadKinds.c "__init__" "BadKinds.__init__" s_BadKinds_init ["self", "name"]
  BadChange_init : Mf K cBadChange.c "__init__" "BadChange.__init__" s_BadChange_init ["self", "place"]
  CannotDo_init : Mf K cCannotDo.c "__init__" "CannotDo.__init__" s_CannotDo_init ["self", "place"]
  Kinds_init : Mf K cKinds.c "__init__" "Kinds.__init__" s_Kinds_init ["self", "told"]
  Kinds_getitem : Mf K cKinds.c "__getitem__" "Kinds.__getitem__" s_Kinds_getitem ["self", "at"]
  Kinds_contains : Mf K cKinds.c "__contains__" "Kinds.__contains__" s_Kinds_contains ["self", "x"]
  Kinds_len : Mf K cKinds.c "__len__" "Kinds.__len__" s_Kinds_len ["self"]
  Kinds_eq : Mf K cKinds.c "__eq__" "Kinds.__eq__" s_Kinds_eq ["self", "other"]
  Kinds_names : Mf K cKinds.c "names" "Kinds.names" s_Kinds_names ["self"]
  oBadKinds : OexC K cBadKinds.c
  oBadChange : OexC K cBadChange.c
  oCannotDo : OexC K cCannotDo.c
  eBadKinds : Ef K cBadKinds.c cChangeError.c
  eBadChange : Ef K cBadChange.c cChangeError.c
  eCannotDo : Ef K cCannotDo.c cChangeError.c
  eBadText : Ef K cBadText.c cChangeError.c
  xBadKinds : Xf K cBadKinds.c cBadKinds.c cBadChange.c cCannotDo.c cBadText.c true false false false
  xBadChange : Xf K cBadChange.c cBadKinds.c cBadChange.c cCannotDo.c cBadText.c false true false false
  xCannotDo : Xf K cCannotDo.c cBadKinds.c cBadChange.c cCannotDo.c cBadText.c false false true false
  xBadText : Xf K cBadText.c cBadKinds.c cBadChange.c cCannotDo.c cBadText.c false false false true
  yBadText : PySem.W.excIn K cBadText.c [.type "ValueError", .type "Exception", .type "BaseException", .type "object"] "ValueError.__new__" = true
  zBadKinds : PySem.W.findIn K (.ref cBadKinds.c) "name" = some none
  zBadChange : PySem.W.findIn K (.ref cBadChange.c) "place" = some none
  zCannotDo : PySem.W.findIn K (.ref cCannotDo.c) "place" = some none
  kf : Kf K cKinds.c Kinds_init.a Kinds_getitem.a
  bf : Bf mg
end K41

end

section
set_option Elab.async false
set_option linter.all false
set_option maxRecDepth 100000
/-! Data in the heap. -/
namespace K41
open PySem PySem.Spec PyProof.Rows L2 KX

theorem Same.ext {H H' : Hp} (s : Same H H') : Ext H H' := s
mutual
theorem dp_ext {K : PySem.W.Frag} {H H' : Hp} (e : Ext H H') : ∀ {d : PyData} {v : V}, Dp K H v d → Dp K H' v d
  | .none, _, .non => .non
  | .bool _, _, .bl b => .bl b
  | .int _, _, .int i => .int i
  | .str _, _, .str x => .str x
  | .list _, _, .lst h a => .lst (h.ext e) (dpAll_ext e a)
  | .tuple _, _, .tup h a => .tup (h.ext e) (dpAll_ext e a)
theorem dpAll_ext {K : PySem.W.Frag} {H H' : Hp} (e : Ext H H') : ∀ {ds : List PyData} {vs : List V}, DpAll K H vs ds → DpAll K H' vs ds
  | [], _, .nil => .nil
  | _ :: _, _, .cons h t => .cons (dp_ext e h) (dpAll_ext e t)
end
/-- a data's type -/
def tyD : PyData → String
  | .none => "NoneType"
  | .bool _ => "bool"
  | .int _ => "int"
  | .str _ => "str"
  | .list _ => "list"
  | .tuple _ => "tuple"
  | .dict _ => "dict"
theorem sqT_ty {K : PySem.W.Frag} {H : Hp} {a : Addr} {xs : List V} (h : SqT K H a xs) : TyX K H (.ref a) (.type "tuple") := by
  rcases h with (h | ⟨o, h⟩) | ⟨o, its, n, h, c, _⟩
  · exact .base (.tup h)
  · exact .fTuple h
  · exact .kTuple h c
theorem sqL_ty {K : PySem.W.Frag} {H : Hp} {a : Addr} {xs : List V} (h : SqL K H a xs) : TyX K H (.ref a) (.type "list") := by
  rcases h with (h | ⟨o, h⟩) | ⟨o, its, n, h, c, _⟩
  · exact .base (.lst h)
  · exact .base (.frz h)
  · exact .kList h c
theorem dp_ty {K : PySem.W.Frag} {H : Hp} {v : V} {d : PyData} (h : Dp K H v d) : TyX K H v (.type (tyD d)) := by
  cases h with
  | non => exact .base .non
  | bl b => exact .base (.bl b)
  | int i => exact .base (.int i)
  | str x => exact .base (.str x)
  | lst h a => exact sqL_ty h
  | tup h a => exact sqT_ty h
/-- isinstance of data and a built-in type -/
theorem isiD {K : PySem.W.Frag} {H : Hp} {Q : VK} {v : V} {d : PyData} {T : String} {b : Bool} (h : Dp K H v d) (e : kitB (tyD d) T = some b) (q : Q (.bl b) H) : rIsi K [v, .ty T] H Q :=
  ⟨v, .ty T, _, .type T, b, rfl, .ty T, dp_ty h, kit_ty e, q⟩
end K41
namespace K41
open PySem PySem.Spec PyProof.Rows L2 KX
theorem same_upd {H0 H : Hp} {D : Addr} {o : HO} (s : Same H0 H) (h : H0 D = none) : Same H0 (upd H D o) := fun b u e => by
  rw [upd_ne (ne_of_none e h)]
  exact s b u e
theorem sqT_same {K : PySem.W.Frag} {H H' : Hp} {a : Addr} {xs : List V} (s : Same H H') (h : SqT K H a xs) : SqT K H' a xs := h.ext s
theorem dp_same {K : PySem.W.Frag} {H H' : Hp} {v : V} {d : PyData} (s : Same H H') (h : Dp K H v d) : Dp K H' v d := dp_ext s h
theorem small {n : Nat} (h : n ≤ 1000) : n ≤ sizeLine := Nat.le_of_lt (small1000 h)
section
variable {K : PySem.W.Frag} {a : Addr} {xs : List V} {i : Nat} {te : TE} {σ : L2.St} {H0 H1 : Hp} {D : Addr} {Qd : Hp → Prop}
/-- a comprehension's list, item by item a value of the item alone -/
theorem lc_turn (r : V → V) (h0 : H0 D = none) (small : xs.length ≤ 1000) (hw : ∀ x, wipe ((wipe σ [i]).set i (some x)) [i] = wipe σ [i]) (hs : ∀ x ∈ xs, ∀ H, Same H0 H → ∀ Q : VK, (∀ H', Same H H' → Q (r x) H') → te ((wipe σ [i]).set i (some x)) H Q)
    (j : Nat) (x : V) (H : Hp) (hx : xs[j]? = some x) (p : Same H0 H ∧ H D = some (.lst ((xs.take j).map r))) :
    gName i x (wipe σ [i]) H fun σ2 H2 => wipe σ2 [i] = wipe σ [i] ∧ tYes σ2 H2 fun b H3 => if b = true then te σ2 H3 fun y H4 => ∃ acc, H4 D = some (.lst acc) ∧ acc.length < sizeLine ∧ (fun j H => Same H0 H ∧ H D = some (.lst ((xs.take j).map r))) (j + 1) (upd H4 D (.lst (acc ++ [y]))) else (fun j H => Same H0 H ∧ H D = some (.lst ((xs.take j).map r))) (j + 1) H3 := by
  obtain ⟨s, hD⟩ := p
  have hj : j < xs.length := (List.getElem?_eq_some_iff.mp hx).1
  refine ⟨hw x, ?_⟩
  simp only [tYes, if_true]
  refine hs x (List.mem_of_getElem? hx) H s _ fun H' s' => ⟨_, s' D _ hD, ?_, same_upd (s.trans s') h0, ?_⟩
  · rw [List.length_map, List.length_take]
    exact small1000 (by omega)
  · rw [upd_same, List.take_add_one, hx]
    simp
theorem lc_mapT (r : V → V) (s0 : Same H0 H1) (hq : SqT K H0 a xs) (h1 : H1 D = none) (small : xs.length ≤ 1000) (hw : ∀ x, wipe ((wipe σ [i]).set i (some x)) [i] = wipe σ [i])
    (hs : ∀ x ∈ xs, ∀ H, Same H0 H → ∀ Q : VK, (∀ H', Same H H' → Q (r x) H') → te ((wipe σ [i]).set i (some x)) H Q) (hd : ∀ H, Same H0 H → H D = some (.lst (xs.map r)) → Qd H) :
    ∃ W : Nat → Nat → Hp → Prop, (∃ m, W 0 m (upd H1 D (.lst []))) ∧ ∀ j m H, W j m H →
      ((Itt K a).stop j H ∧ Qd H) ∨ ((Itt K a).go j H ∧ ∃ Nx : Hp → Prop, (∀ H', Nx H' → ∃ m', m' < m ∧ W (j + 1) m' H') ∧ ∀ x H', (Itt K a).yld j H x H' → gName i x (wipe σ [i]) H' fun σ2 H2 => wipe σ2 [i] = wipe σ [i] ∧ tYes σ2 H2 fun b H3 =>
        if b = true then te σ2 H3 fun y H4 => ∃ acc, H4 D = some (.lst acc) ∧ acc.length < sizeLine ∧ Nx (upd H4 D (.lst (acc ++ [y]))) else Nx H3) :=
  lc_tup (xs := xs) (fun j H => Same H0 H ∧ H D = some (.lst ((xs.take j).map r))) ⟨same_upd s0 (s0.free h1), by rw [upd_same]; rfl⟩ (fun j H _ p => sqT_same p.1 hq)
    (fun j x H hx p => lc_turn r (s0.free h1) small hw hs j x H hx p) fun H p => hd H p.1 (by rw [p.2, List.take_length])
theorem lc_mapL (r : V → V) (s0 : Same H0 H1) (hq : SqL K H0 a xs) (h1 : H1 D = none) (small : xs.length ≤ 1000) (hw : ∀ x, wipe ((wipe σ [i]).set i (some x)) [i] = wipe σ [i])
    (hs : ∀ x ∈ xs, ∀ H, Same H0 H → ∀ Q : VK, (∀ H', Same H H' → Q (r x) H') → te ((wipe σ [i]).set i (some x)) H Q) (hd : ∀ H, Same H0 H → H D = some (.lst (xs.map r)) → Qd H) :
    ∃ W : Nat → Nat → Hp → Prop, (∃ m, W 0 m (upd H1 D (.lst []))) ∧ ∀ j m H, W j m H →
      ((Itl K a).stop j H ∧ Qd H) ∨ ((Itl K a).go j H ∧ ∃ Nx : Hp → Prop, (∀ H', Nx H' → ∃ m', m' < m ∧ W (j + 1) m' H') ∧ ∀ x H', (Itl K a).yld j H x H' → gName i x (wipe σ [i]) H' fun σ2 H2 => wipe σ2 [i] = wipe σ [i] ∧ tYes σ2 H2 fun b H3 =>
        if b = true then te σ2 H3 fun y H4 => ∃ acc, H4 D = some (.lst acc) ∧ acc.length < sizeLine ∧ Nx (upd H4 D (.lst (acc ++ [y]))) else Nx H3) :=
  lc_list (xs := xs) (fun j H => Same H0 H ∧ H D = some (.lst ((xs.take j).map r))) ⟨same_upd s0 (s0.free h1), by rw [upd_same]; rfl⟩ (fun j H _ p => p.1.seq hq)
    (fun j x H hx p => lc_turn r (s0.free h1) small hw hs j x H hx p) fun H p => hd H p.1 (by rw [p.2, List.take_length])
end
end K41

end

section
set_option Elab.async false
set_option linter.all false
set_option maxRecDepth 100000
set_option maxHeartbeats 1000000
/-! The program's small defs. -/
namespace K41
open PySem PySem.Spec PyProof.Rows L2 KX

theorem isi_int : ∀ d : PyData, kitB (tyD d) "int" = some (match d with | .int _ => true | .bool _ => true | _ => false)
  | .none => (by decide +kernel : kitB "NoneType" "int" = some false)
  | .bool _ => (by decide +kernel : kitB "bool" "int" = some true)
  | .int _ => (by decide +kernel : kitB "int" "int" = some true)
  | .str _ => (by decide +kernel : kitB "str" "int" = some false)
  | .list _ => (by decide +kernel : kitB "list" "int" = some false)
  | .tuple _ => (by decide +kernel : kitB "tuple" "int" = some false)
  | .dict _ => (by decide +kernel : kitB "dict" "int" = some false)
theorem isi_bool : ∀ d : PyData, kitB (tyD d) "bool" = some (match d with | .bool _ => true | _ => false)
  | .none => (by decide +kernel : kitB "NoneType" "bool" = some false)
  | .bool _ => (by decide +kernel : kitB "bool" "bool" = some true)
  | .int _ => (by decide +kernel : kitB "int" "bool" = some false)
  | .str _ => (by decide +kernel : kitB "str" "bool" = some false)
  | .list _ => (by decide +kernel : kitB "list" "bool" = some false)
  | .tuple _ => (by decide +kernel : kitB "tuple" "bool" = some false)
  | .dict _ => (by decide +kernel : kitB "dict" "bool" = some false)
theorem isi_str : ∀ d : PyData, kitB (tyD d) "str" = some (match d with | .str _ => true | _ => false)
  | .none => (by decide +kernel : kitB "NoneType" "str" = some false)
  | .bool _ => (by decide +kernel : kitB "bool" "str" = some false)
  | .int _ => (by decide +kernel : kitB "int" "str" = some false)
  | .str _ => (by decide +kernel : kitB "str" "str" = some true)
  | .list _ => (by decide +kernel : kitB "list" "str" = some false)
  | .tuple _ => (by decide +kernel : kitB "tuple" "str" = some false)
  | .dict _ => (by decide +kernel : kitB "dict" "str" = some false)
theorem isi_tuple : ∀ d : PyData, kitB (tyD d) "tuple" = some (match d with | .tuple _ => true | _ => false)
  | .none => (by decide +kernel : kitB "NoneType" "tuple" = some false)
  | .bool _ => (by decide +kernel : kitB "bool" "tuple" = some false)
  | .int _ => (by decide +kernel : kitB "int" "tuple" = some false)
  | .str _ => (by decide +kernel : kitB "str" "tuple" = some false)
  | .list _ => (by decide +kernel : kitB "list" "tuple" = some false)
  | .tuple _ => (by decide +kernel : kitB "tuple" "tuple" = some true)
  | .dict _ => (by decide +kernel : kitB "dict" "tuple" = some false)
theorem isi_list : ∀ d : PyData, kitB (tyD d) "list" = some (match d with | .list _ => true | _ => false)
  | .none => (by decide +kernel : kitB "NoneType" "list" = some false)
  | .bool _ => (by decide +kernel : kitB "bool" "list" = some false)
  | .int _ => (by decide +kernel : kitB "int" "list" = some false)
  | .str _ => (by decide +kernel : kitB "str" "list" = some false)
  | .list _ => (by decide +kernel : kitB "list" "list" = some true)
  | .tuple _ => (by decide +kernel : kitB "tuple" "list" = some false)
  | .dict _ => (by decide +kernel : kitB "dict" "list" = some false)
theorem isi_dict : ∀ d : PyData, kitB (tyD d) "dict" = some (match d with | .dict _ => true | _ => false)
  | .none => (by decide +kernel : kitB "NoneType" "dict" = some false)
  | .bool _ => (by decide +kernel : kitB "bool" "dict" = some false)
  | .int _ => (by decide +kernel : kitB "int" "dict" = some false)
  | .str _ => (by decide +kernel : kitB "str" "dict" = some false)
  | .list _ => (by decide +kernel : kitB "list" "dict" = some false)
  | .tuple _ => (by decide +kernel : kitB "tuple" "dict" = some false)
  | .dict _ => (by decide +kernel : kitB "dict" "dict" = some true)

section
variable {P : Program} {w : World} {K : PySem.W.Frag} {mg : Str → Option Value} {base : Heap}
/-- what a callee lets out leaves this def as it is -/
theorem pX {N : List Str} {qual : Str} {scope : Scope} {f : Addr} {cd : Value} {A : Around} {outer : List Env} {s : Shared} {H : Hp} {E : XK} : Passes (L2.CX P w) (cxOf (L2.CX P w) P w K mg base N qual scope f cd A outer s H E) E :=
  passes_call (takes_of rfl rfl rfl rfl) fun _ _ _ _ h => h
theorem pO {N : List Str} {qual : Str} {scope : Scope} {f : Addr} {cd : Value} {A : Around} {outer : List Env} {s : Shared} {H : Hp} {E : XK} : PassesOwn (model P w) (cxOf (L2.CX P w) P w K mg base N qual scope f cd A outer s H E).A (cxOf (L2.CX P w) P w K mg base N qual scope f cd A outer s H E).env (cxOf (L2.CX P w) P w K mg base N qual scope f cd A outer s H E).xe := passes_of rfl

/-- isinstance of data and a built-in type -/
theorem call_isD {X : Cx} : CallR X (.builtin "isinstance") (fun xs H Q => ∃ v T d b, xs = [v, .ty T] ∧ Dp X.K H v d ∧ kitB (tyD d) T = some b ∧ Q (.bl b) H) := by
  intro pins s σ H xs us Q I r h
  obtain ⟨v, T, d, b, rfl, hd, e, q⟩ := h
  exact call_isi pins s σ H _ us Q I r (isiD hd e q)

def isIntD : PyData → Bool
  | .int _ => true
  | _ => false
def spWhole (K : PySem.W.Frag) : Sp := fun vs H Q _ => ∃ v d, vs = [v] ∧ Dp K H v d ∧ Q (.bl (isIntD d)) H
theorem ok_is_whole (T : Top K mg) : FnOk P w K mg base (L2.CX P w) 1 T.is_whole.a T.is_whole.d ["number"] (spWhole K) := by
  refine T.is_whole.f.okX sc_is_whole (fun vs H Q E h => ?_) (fun cdv A outer s H vs Q E hr h => ?_)
  · obtain ⟨v, d, rfl, _⟩ := h
    rfl
  · obtain ⟨v, d, rfl, hd, k⟩ := h
    refine ⟨_, pss_one (ps_ret (pe_and (pe_callB call_isD (by rfl) T.bf.isinstance_ (by decide +kernel) (pa_cons (pv 0) (pa_cons (pe_bltn (v := .ty "int") (by rfl) T.bf.int_ (by decide +kernel) rfl) pa_nil)))
      (pe_one (pe_not (pe_callB call_isD (by rfl) T.bf.isinstance_ (by decide +kernel) (pa_cons (pv 0) (pa_cons (pe_bltn (v := .ty "bool") (by rfl) T.bf.bool_ (by decide +kernel) rfl) pa_nil))))))), ?_⟩
    refine ⟨v, rfl, v, _, d, _, rfl, hd, isi_int d, _, rfl, ?_⟩
    cases d <;> first
      | exact iteF k
      | exact iteT ⟨v, rfl, v, _, _, _, rfl, hd, isi_bool _, _, rfl, k⟩
end
end K41

end

section
set_option Elab.async false
set_option linter.all false
set_option maxRecDepth 100000
set_option maxHeartbeats 2000000
/-! What is a kind. -/
namespace K41
open PySem PySem.Spec PyProof.Rows L2 KX
section
variable {P : Program} {w : World} {K : PySem.W.Frag} {mg : Str → Option Value} {base : Heap}

theorem dec_str' {a b : Str} : decide (V.str a = V.str b) = decide (a = b) := by
  by_cases e : a = b
  · subst e
    simp
  · have h : ¬ V.str a = V.str b := fun z => e (V.str.inj z)
    rw [decide_eq_false h, decide_eq_false e]
theorem qb {Q : VK} {H : Hp} {b b' : Bool} (q : Q (.bl b') H) (e : b = b') : Q (.bl b) H := by
  rw [e]
  exact q
theorem qi {Q : VK} {H : Hp} {b b' : Int} (q : Q (.int b') H) (e : b = b') : Q (.int b) H := by
  rw [e]
  exact q
def isPartD (w : Int) : PyData → Bool
  | .str z => decide (z = "new")
  | .int i => decide (0 ≤ i) && decide (i < w)
  | _ => false
def spPart (K : PySem.W.Frag) : Sp := fun vs H Q _ => ∃ i v d, vs = [.int i, v] ∧ Dp K H v d ∧ Q (.bl (isPartD i d)) H
theorem ok_is_part (T : Top K mg) : FnOk P w K mg base (L2.CX P w) 2 T.is_part.a T.is_part.d ["width", "part"] (spPart K) := by
  refine T.is_part.f.okX sc_is_part (fun vs H Q E h => ?_) (fun cdv A outer s H vs Q E hr h => ?_)
  · obtain ⟨i, v, d, rfl, _⟩ := h
    rfl
  · obtain ⟨i, v, d, rfl, hd, k⟩ := h
    refine ⟨_, (pss_cons ((ps_if ((pt_val ((pe_callB call_isD (by rfl) T.bf.isinstance_ (by decide +kernel) (pa_cons (pv 1) (pa_cons (pe_bltn (v := .ty "str") (by rfl) T.bf.str_ (by decide +kernel) rfl) pa_nil)))))) ((pss_one ((ps_ret ((pe_cmpR (op_eq) (pv 1) (pe_str) (nomark _))))))) (pss_nil))) (pss_one ((ps_ret (pe_and (pe_call (ok_is_whole T) (hr.mono (by decide)) (by rfl) T.is_whole.m T.is_whole.f.kp T.is_whole.b .nil pX (pa_cons (pv 1) pa_nil)) (pe_one (pe_chain op_le op_lt pe_int (pv 1) (pv 0)))))))), ?_⟩
    refine ⟨v, rfl, v, _, d, _, rfl, hd, isi_str d, _, rfl, ?_⟩
    cases hd with
    | str z => exact iteT ⟨_, rfl, rfl, qb k dec_str'⟩
    | int n =>
      refine iteF ⟨_, rfl, _, .int n, rfl, .int n, _, rfl, iteT ⟨_, rfl, _, _, rfl, rfl, _, rfl, ?_⟩⟩
      refine ite2 (fun h0 => ?_) (fun h0 => ?_)
      · refine ⟨_, rfl, _, _, rfl, rfl, ?_⟩
        exact qb k (by simp [isPartD, of_decide_eq_true h0])
      · exact qb k (by
          have : ¬ 0 ≤ n := fun z => h0 (decide_eq_true z)
          simp [isPartD, this])
    | non => exact iteF ⟨_, rfl, _, _, rfl, .non, _, rfl, iteF k⟩
    | bl b => exact iteF ⟨_, rfl, _, _, rfl, .bl b, _, rfl, iteF k⟩
    | lst a b => exact iteF ⟨_, rfl, _, _, rfl, .lst a b, _, rfl, iteF k⟩
    | tup a b => exact iteF ⟨_, rfl, _, _, rfl, .tup a b, _, rfl, iteF k⟩
end
end K41

end

section
set_option Elab.async false
set_option linter.all false
set_option maxRecDepth 100000
set_option maxHeartbeats 2000000
/-! Rows. -/
namespace K41
open PySem PySem.Spec PyProof.Rows L2 KX
def partV (w : Int) : V → Bool
  | .str z => decide (z = "new")
  | .int i => decide (0 ≤ i) && decide (i < w)
  | _ => false
def keyD : PyData → Key
  | .str z => .inr z
  | .int i => .inl i
  | _ => .inl 0
def isNil {α : Type} : List α → Bool
  | [] => true
  | _ => false
/-- the row's ends: not the first letter ahead, not the last one behind -/
def endsD (w : Int) (ps : List PyData) : Bool := match ps with
  | [] => true
  | p :: r => !(decide (keyD p = .inl 0)) && !(decide (keyD ((p :: r).getLast (by simp)) = .inl (w - 1)))
def isRowD (w : Int) : PyData → Bool
  | .tuple ps => ps.all (isPartD w) && (decide (nDiff (ps.map keyD) (ps.map keyD).length = (ps.map keyD).length) && (if w = 0 then PyData.eqv (.tuple ps) (.tuple [.str "new"]) else endsD w ps))
  | _ => false
theorem row_part {w : Int} {ps : List PyData} (h : ps.all (isPartD w) = false) : isRowD w (.tuple ps) = false := by
  show (ps.all (isPartD w) && (decide (nDiff (ps.map keyD) (ps.map keyD).length = (ps.map keyD).length) && (if w = 0 then PyData.eqv (.tuple ps) (.tuple [.str "new"]) else endsD w ps))) = _
  rw [h, Bool.false_and]
theorem row_twice {w : Int} {ps : List PyData} (h : ¬ nDiff (ps.map keyD) (ps.map keyD).length = (ps.map keyD).length) : isRowD w (.tuple ps) = false := by
  show (ps.all (isPartD w) && (decide (nDiff (ps.map keyD) (ps.map keyD).length = (ps.map keyD).length) && (if w = 0 then PyData.eqv (.tuple ps) (.tuple [.str "new"]) else endsD w ps))) = _
  rw [decide_eq_false h, Bool.false_and, Bool.and_false]
theorem row_ok {w : Int} {ps : List PyData} (h1 : ps.all (isPartD w) = true) (h : nDiff (ps.map keyD) (ps.map keyD).length = (ps.map keyD).length) : isRowD w (.tuple ps) = if w = 0 then PyData.eqv (.tuple ps) (.tuple [.str "new"]) else endsD w ps := by
  show (ps.all (isPartD w) && (decide (nDiff (ps.map keyD) (ps.map keyD).length = (ps.map keyD).length) && (if w = 0 then PyData.eqv (.tuple ps) (.tuple [.str "new"]) else endsD w ps))) = _
  rw [h1, decide_eq_true h, Bool.true_and, Bool.true_and]
def lenD : PyData → Nat
  | .tuple ps => ps.length
  | .list ps => ps.length
  | _ => 0
section
variable {K : PySem.W.Frag} {H : Hp}
theorem part_eq {w : Int} {v : V} {d : PyData} (h : Dp K H v d) : partV w v = isPartD w d := by
  cases h <;> rfl
theorem all_get : ∀ {xs : List V} {ds : List PyData}, DpAll K H xs ds → ∀ x ∈ xs, ∃ d ∈ ds, Dp K H x d
  | _, _, .nil, x, h => by simp at h
  | _, _, .cons (v := v) (d := d) h t, x, hx => by
    rcases List.mem_cons.mp hx with e | e
    · exact ⟨d, List.mem_cons_self, e ▸ h⟩
    · obtain ⟨d', h1, h2⟩ := all_get t x e
      exact ⟨d', List.mem_cons_of_mem _ h1, h2⟩
theorem all_ix : ∀ {xs : List V} {ds : List PyData}, DpAll K H xs ds → ∀ (i : Nat) (d : PyData), ds[i]? = some d → ∃ x, xs[i]? = some x ∧ Dp K H x d
  | _, _, .nil, i, d, h => by simp at h
  | _, _, .cons h t, 0, d, hx => by
    simp at hx
    subst hx
    exact ⟨_, rfl, h⟩
  | _, _, .cons h t, i + 1, d, hx => by
    obtain ⟨x, h1, h2⟩ := all_ix t i d (by simpa using hx)
    exact ⟨x, by simpa using h1, h2⟩
theorem all_len : ∀ {xs : List V} {ds : List PyData}, DpAll K H xs ds → xs.length = ds.length
  | _, _, .nil => rfl
  | _, _, .cons _ t => by rw [List.length_cons, List.length_cons, all_len t]
theorem parts_eq {w : Int} : ∀ {xs : List V} {ds : List PyData}, DpAll K H xs ds → xs.map (partV w) = ds.map (isPartD w)
  | _, _, .nil => rfl
  | _, _, .cons h t => by rw [List.map_cons, List.map_cons, part_eq h, parts_eq t]
theorem at_last {xs : List V} {v : V} (h : xs[xs.length - 1]? = some v) : atI xs (-1) = some v := by
  have lt : xs.length - 1 < xs.length := (List.getElem?_eq_some_iff.mp h).1
  unfold atI ixN
  rw [if_neg (by omega), if_pos (by omega)]
  have e : (-1 + (xs.length : Int)).toNat = xs.length - 1 := by omega
  rw [Option.bind_some, e]
  exact h
theorem keys_eq {w : Int} : ∀ {xs : List V} {ds : List PyData}, DpAll K H xs ds → ds.all (isPartD w) = true → xs = (ds.map keyD).map kV
  | _, _, .nil, _ => rfl
  | _, _, .cons h t, e => by
    rw [List.all_cons, Bool.and_eq_true] at e
    rw [List.map_cons, List.map_cons, ← keys_eq t e.2]
    congr 1
    obtain ⟨e1, _⟩ := e
    cases h <;> first | rfl | (simp [isPartD] at e1)
end
section
variable {P : Program} {w : World} {K : PySem.W.Frag} {mg : Str → Option Value} {base : Heap}
def spRow (K : PySem.W.Frag) : Sp := fun vs H Q _ => ∃ i v d, vs = [.int i, v] ∧ Dp K H v d ∧ SeqAt.shaped d = true ∧ lenD d ≤ 100 ∧ ∀ H', Same H H' → Q (.bl (isRowD i d)) H'
theorem ok_is_row (T : Top K mg) : FnOk P w K mg base (L2.CX P w) 4 T.is_row.a T.is_row.d ["width", "row"] (spRow K) := by
  refine T.is_row.f.okX sc_is_row (fun vs H Q E h => ?_) (fun cdv A outer s H vs Q E hr h => ?_)
  · obtain ⟨i, v, d, rfl, _⟩ := h
    rfl
  · obtain ⟨i, v, d, rfl, hd, sh, small, k⟩ := h
    refine ⟨_, (pss_cons ((ps_if (pt_not (PW.pt (pw_and (pt_val ((pe_callB call_isD (by rfl) T.bf.isinstance_ (by decide +kernel) (pa_cons (pv 1) (pa_cons (pe_bltn (v := .ty "tuple") (by rfl) T.bf.tuple_ (by decide +kernel) rfl) pa_nil))))) (pw_and1 (pt_val ((pe_callB (cr_all rfl) (by rfl) T.bf.all_ (by decide +kernel) (pa_cons ((pe_lc (own := [("part", 2)]) (g := gName 2) (tt := tYes) rfl sc_is_row.nd (pi_tup (pv 1)) (blkOk_by (N := n_is_row) (sc := defScope s_is_row) (by decide +kernel)) (fun _ _ _ _ _ => pg_name (i := 2) sc_is_row.nd rfl (Or.inl rfl)) (fun _ _ _ _ _ => pts_nil) (fun _ _ _ _ _ => (pe_call (ok_is_part T) (hr.mono (by decide)) (by rfl) T.is_part.m T.is_part.f.kp T.is_part.b .nil passL (pa_cons (pv 0) (pa_cons (pv 2) pa_nil)))))) pa_nil)))))))) ((pss_one ((ps_ret (pe_bl))))) (pss_nil))) (pss_cons ((ps_if ((pt_cmpR (op_lt) ((pe_lenSetK (by rfl) T.bf.len_ (by rfl) T.bf.set_ (pv 1))) ((pe_callB call_len_seq (by rfl) T.bf.len_ PySem.boot_len (pa_cons (pv 1) pa_nil))) (nomark _))) ((pss_one ((ps_ret (pe_bl))))) (pss_nil))) (pss_cons ((ps_if ((pt_cmpR (op_eq) (pv 0) (pe_int) (nomark _))) ((pss_one ((ps_ret ((pe_cmpR (op_eqD hr.units) (pv 1) ((pe_tup (pa_cons (pe_str) pa_nil))) (nomark _))))))) (pss_nil))) (pss_one ((ps_ret (pe_or (pe_cmpR (op_eqD hr.units) (pv 1) ((pe_tup pa_nil)) (nomark _)) (pe_one (pe_and (pe_cmpR (op_ne) ((pe_ix (ix_tup) (pv 1) (pe_int) (fun _ _ => rfl))) (pe_int) (nomark _)) (pe_one (pe_cmpR (op_ne) ((pe_ix (ix_tup) (pv 1) (pe_un un_neg pe_int) (fun _ _ => rfl))) ((pe_op (op_sub) (pv 0) (pe_int))) (nomark _)))))))))))), ?_⟩
    refine ⟨v, rfl, v, _, d, _, rfl, hd, isi_tuple d, _, rfl, ?_⟩
    cases hd with
    | non => exact iteF (iteT (k H (Same.refl H)))
    | bl b => exact iteF (iteT (k H (Same.refl H)))
    | int n => exact iteF (iteT (k H (Same.refl H)))
    | str z => exact iteF (iteT (k H (Same.refl H)))
    | lst a b => exact iteF (iteT (k H (Same.refl H)))
    | @tup a xs ps hs ha =>
      have hl := all_len ha
      have small : ps.length ≤ 100 := small
      refine iteT ⟨_, rfl, a, rfl, ⟨_, hs⟩, fun D hD => lc_mapT (xs := xs) (i := 2) (fun x => .bl (partV i x)) (Same.refl H) hs hD (by omega) (fun _ => rfl) (fun x hx H1 s1 Q1 q1 => ?_) fun H1 s1 hD1 => ?_⟩
      · obtain ⟨dx, _, hdx⟩ := all_get ha x hx
        refine ⟨_, rfl, _, rfl, i, x, dx, rfl, dp_same s1 hdx, ?_⟩
        rw [← part_eq hdx]
        exact q1 H1 (Same.refl H1)
      · refine ⟨D, ps.map (isPartD i), rfl, SqL.of (by rw [hD1, ← parts_eq ha, List.map_map]; rfl), _, rfl, ?_⟩
        have hs1 := sqT_same s1 hs
        by_cases hall : ps.all (isPartD i) = true
        · have eall : (ps.map (isPartD i)).all id = true := by
            rw [List.all_map]
            exact hall
          rw [eall]
          have ek := keys_eq ha hall
          refine iteF ⟨_, rfl, a, ps.map keyD, rfl, by rw [← ek]; exact hs1, by rw [List.length_map]; omega, _, rfl, a, xs, rfl, .inr hs1, _, _, rfl, rfl, _, rfl, ?_⟩
          have le := nDiff_le (ps.map keyD) (ps.map keyD).length
          have hk : (ps.map keyD).length = xs.length := by rw [List.length_map, hl]
          refine ite2 (fun c => ?_) (fun c => ?_)
          · have c := of_decide_eq_true c
            exact qb (k H1 s1) (row_twice (by omega)).symm
          · have c : ¬ (((nDiff (ps.map keyD) (ps.map keyD).length : Nat) : Int) < (xs.length : Nat)) := fun z => c (decide_eq_true z)
            have nd : nDiff (ps.map keyD) (ps.map keyD).length = (ps.map keyD).length := by omega
            refine ⟨_, rfl, rfl, _, rfl, ?_⟩
            refine ite2 (fun c0 => ?_) (fun c0 => ?_)
            · have c0 : i = 0 := by simpa using c0
              refine ⟨_, rfl, by show 1 ≤ sizeLine; decide, fun p hp => ?_⟩
              have s2 : Same H1 (upd H1 p (.tup [.str "new"])) := same_upd (Same.refl H1) hp
              refine ⟨.tuple ps, .tuple [.str "new"], .tup (sqT_same s2 hs1) (dpAll_ext (Same.trans s1 s2) ha), .tup (SqT.of upd_same) (.cons (.str _) .nil), sh, by decide +kernel, ?_⟩
              exact qb (k _ (s1.trans s2)) (by rw [row_ok hall nd, if_pos c0])
            · have c0 : ¬ i = 0 := fun z => c0 (by simp [z])
              refine ⟨_, rfl, by show 0 ≤ sizeLine; decide, fun p hp => ?_⟩
              have s2 : Same H1 (upd H1 p (.tup [])) := same_upd (Same.refl H1) hp
              refine ⟨.tuple ps, .tuple [], .tup (sqT_same s2 hs1) (dpAll_ext (Same.trans s1 s2) ha), .tup (SqT.of upd_same) .nil, sh, by decide +kernel, _, rfl, ?_⟩
              cases ps with
              | nil => exact iteT (qb (k _ (s1.trans s2)) (by rw [row_ok hall nd, if_neg c0]; rfl))
              | cons p0 pr =>
                have hs2 := sqT_same s2 hs1
                obtain ⟨x0, hx0, hd0⟩ := all_ix ha 0 p0 rfl
                have hlast : (p0 :: pr)[(p0 :: pr).length - 1]? = some ((p0 :: pr).getLast (by simp)) := by
                  rw [← List.getLast?_eq_getElem?, List.getLast?_eq_some_getLast (by simp)]
                obtain ⟨x9, hx9, hd9⟩ := all_ix ha _ _ hlast
                have part : ∀ {x : V} {d : PyData}, d ∈ p0 :: pr → Dp K H x d → x = kV (keyD d) := fun {x d} hm hd => by
                  have e := List.all_eq_true.mp hall d hm
                  cases hd <;> first | rfl | (simp [isPartD] at e)
                have e0 := part List.mem_cons_self hd0
                have e9 := part (List.getLast_mem (by simp)) hd9
                subst e0 e9
                have scal : ∀ (k : Key) (n : Int), scal (kV k) (.int n) = true := fun k n => by cases k <;> rfl
                have dec : ∀ (k : Key) (n : Int), decide (kV k = V.int n) = decide (k = .inl n) := fun k n => by
                  cases k with
                  | inl m => simp [kV]
                  | inr z => simp [kV]
                refine iteF ⟨_, rfl, a, xs, 0, _, rfl, rfl, hs2, atI_nat hx0, scal _ _, _, rfl, ?_⟩
                have fin : isRowD i (.tuple (p0 :: pr)) = (!(decide (keyD p0 = .inl 0)) && !(decide (keyD ((p0 :: pr).getLast (by simp)) = .inl (i - 1)))) := by
                  rw [row_ok hall nd, if_neg c0]
                  rfl
                refine ite2 (fun t => ?_) (fun t => ?_)
                · refine ⟨_, rfl, _, rfl, a, xs, -1, _, rfl, rfl, hs2, at_last (by rw [hl]; exact hx9), _, rfl, _, _, rfl, rfl, scal _ _, ?_⟩
                  refine qb (k _ (s1.trans s2)) ?_
                  rw [fin, ← dec, t, ← dec, Bool.true_and]
                · refine qb (k _ (s1.trans s2)) ?_
                  have t : (!decide (kV (keyD p0) = V.int 0)) = false := by simpa using t
                  rw [fin, ← dec, t, Bool.false_and]
        · have hall : ps.all (isPartD i) = false := by simpa using hall
          have eall : (ps.map (isPartD i)).all id = false := by
            rw [List.all_map]
            exact hall
          rw [eall]
          exact iteT (qb (k H1 s1) (row_part hall).symm)
end
end K41

end

section
set_option Elab.async false
set_option linter.all false
set_option maxRecDepth 100000
set_option maxHeartbeats 2000000
/-! Kinds and names. -/
namespace K41
open PySem PySem.Spec PyProof.Rows L2 KX
def isKindD : PyData → Bool
  | .tuple [.int w, r] => decide (0 ≤ w) && (decide (w ≤ 2) && isRowD w r)
  | _ => false
theorem kind_len {ps : List PyData} (h : ps.length ≠ 2) : isKindD (.tuple ps) = false := by
  unfold isKindD
  split
  · rename_i e
    cases e
    exact absurd rfl h
  · rfl
def smallD : PyData → Prop
  | .tuple [_, b] => lenD b ≤ 100
  | _ => True
theorem shaped_2 {a b : PyData} (h : SeqAt.shaped (.tuple [a, b]) = true) : SeqAt.shaped b = true := by
  have h1 := SeqAt.canLay_of_shaped h
  have h2 := SeqAt.depth_of_shaped h
  unfold SeqAt.shaped
  simp only [PyData.canLay0, PyData.canLayAll0, Bool.and_true, Bool.and_eq_true] at h1
  simp only [PyData.depth, PyData.depthAll] at h2
  rw [h1.2, Bool.true_and]
  exact decide_eq_true (by omega)
section
variable {P : Program} {w : World} {K : PySem.W.Frag} {mg : Str → Option Value} {base : Heap}
def spKind (K : PySem.W.Frag) : Sp := fun vs H Q _ => ∃ v d, vs = [v] ∧ Dp K H v d ∧ SeqAt.shaped d = true ∧ smallD d ∧ ∀ H', Same H H' → Q (.bl (isKindD d)) H'
theorem ok_is_kind (T : Top K mg) : FnOk P w K mg base (L2.CX P w) 5 T.is_kind.a T.is_kind.d ["kind"] (spKind K) := by
  refine T.is_kind.f.okX sc_is_kind (fun vs H Q E h => ?_) (fun cdv A outer s H vs Q E hr h => ?_)
  · obtain ⟨v, d, rfl, _⟩ := h
    rfl
  · obtain ⟨v, d, rfl, hd, sh, small, k⟩ := h
    refine ⟨_, (pss_cons ((ps_if (pt_not (PW.pt (pw_and (pt_val ((pe_callB call_isD (by rfl) T.bf.isinstance_ (by decide +kernel) (pa_cons (pv 0) (pa_cons (pe_bltn (v := .ty "tuple") (by rfl) T.bf.tuple_ (by decide +kernel) rfl) pa_nil))))) (pw_and1 (pt_cmpR (op_eq) ((pe_callB call_len_seq (by rfl) T.bf.len_ PySem.boot_len (pa_cons (pv 0) pa_nil))) (pe_int) (nomark _)))))) ((pss_one ((ps_ret (pe_bl))))) (pss_nil))) (pss_cons ((ps_asg (pv 0) (pg_tup rfl (pgs_cons (pg_name (i := 1) sc_is_kind.nd rfl (Or.inl rfl)) (pgs_cons (pg_name (i := 2) sc_is_kind.nd rfl (Or.inl rfl)) pgs_nil))))) (pss_one ((ps_ret (pe_and (pe_call (ok_is_whole T) (hr.mono (by decide)) (by rfl) T.is_whole.m T.is_whole.f.kp T.is_whole.b .nil pX (pa_cons (pv 1) pa_nil)) (pe_and (pe_chain op_le op_le pe_int (pv 1) pe_int) (pe_one (pe_call (ok_is_row T) (hr.mono (by decide)) (by rfl) T.is_row.m T.is_row.f.kp T.is_row.b .nil pX (pa_cons (pv 1) (pa_cons (pv 2) pa_nil))))))))))), ?_⟩
    refine ⟨v, rfl, v, _, d, _, rfl, hd, isi_tuple d, _, rfl, ?_⟩
    cases hd with
    | non => exact iteF (iteT (k H (Same.refl H)))
    | bl b => exact iteF (iteT (k H (Same.refl H)))
    | int n => exact iteF (iteT (k H (Same.refl H)))
    | str z => exact iteF (iteT (k H (Same.refl H)))
    | lst a b => exact iteF (iteT (k H (Same.refl H)))
    | @tup a xs ps hs ha =>
      refine iteT ⟨_, rfl, a, xs, rfl, .inr hs, rfl, _, rfl, ?_⟩
      have hl := all_len ha
      match ps, ha, sh, small, k, hl with
      | [], .nil, sh, small, k, hl => exact iteT (k H (Same.refl H))
      | [_], .cons _ .nil, sh, small, k, hl => exact iteT (qb (k H (Same.refl H)) (kind_len (by simp)).symm)
      | _ :: _ :: _ :: _, .cons _ (.cons _ (.cons _ _)), sh, small, k, hl =>
        refine ite2 (fun _ => qb (k H (Same.refl H)) (kind_len (by simp)).symm) fun c => ?_
        refine absurd ?_ c
        simp only [List.length_cons]
        simp
        omega
      | [p0, p1], .cons (v := x0) h0 (.cons (v := x1) h1 .nil), sh, small, k, hl =>
        refine iteF ⟨_, rfl, a, _, rfl, hs, rfl, _, _, rfl, _, _, rfl, rfl, ?_⟩
        refine ⟨_, rfl, x0, p0, rfl, h0, _, rfl, ?_⟩
        cases h0 with
        | non => exact iteF (k H (Same.refl H))
        | bl b => exact iteF (k H (Same.refl H))
        | str z => exact iteF (k H (Same.refl H))
        | lst a b => exact iteF (k H (Same.refl H))
        | tup a b => exact iteF (k H (Same.refl H))
        | int n =>
          refine iteT ⟨_, rfl, _, _, rfl, rfl, _, rfl, ?_⟩
          refine ite2 (fun c1 => ?_) (fun c1 => ?_)
          · refine ⟨_, _, rfl, rfl, _, rfl, ?_⟩
            refine ite2 (fun c2 => ?_) (fun c2 => ?_)
            · refine ⟨_, rfl, _, rfl, n, x1, p1, rfl, h1, shaped_2 sh, small, fun H' s' => ?_⟩
              refine qb (k H' s') ?_
              show _ = (decide (0 ≤ n) && (decide (n ≤ 2) && isRowD n p1))
              rw [c1, c2, Bool.true_and, Bool.true_and]
            · refine qb (k H (Same.refl H)) ?_
              have c2 : decide (n ≤ 2) = false := by simpa using c2
              show _ = (decide (0 ≤ n) && (decide (n ≤ 2) && isRowD n p1))
              rw [c2, Bool.false_and, Bool.and_false]
          · have c1 : decide (0 ≤ n) = false := by simpa using c1
            refine ⟨_, rfl, iteF (qb (k H (Same.refl H)) ?_)⟩
            show _ = (decide (0 ≤ n) && (decide (n ≤ 2) && isRowD n p1))
            rw [c1, Bool.false_and]
end
end K41

end

section
set_option Elab.async false
set_option linter.all false
set_option maxRecDepth 100000
set_option maxHeartbeats 2000000
/-! Names. -/
namespace K41
open PySem PySem.Spec PyProof.Rows L2 KX
section
variable {P : Program} {w : World} {K : PySem.W.Frag} {mg : Str → Option Value} {base : Heap}
def isNameS (s : Str) : Bool := decide (1 ≤ (s.length : Int)) && (decide ((s.length : Int) ≤ 8) && (Txt.isascii s && (Txt.isalpha s && Txt.islower s)))
def isNameK : Key → Bool
  | .inr s => isNameS s
  | _ => false
def keyOk : Key → Prop
  | .inr s => s.length ≤ 1000
  | _ => True
def spName : Sp := fun vs H Q _ => ∃ k, vs = [kV k] ∧ keyOk k ∧ Q (.bl (isNameK k)) H
theorem ok_is_name (T : Top K mg) : FnOk P w K mg base (L2.CX P w) 1 T.is_name.a T.is_name.d ["name"] spName := by
  refine T.is_name.f.okX sc_is_name (fun vs H Q E h => ?_) (fun cdv A outer s H vs Q E hr h => ?_)
  · obtain ⟨k, rfl, _⟩ := h
    rfl
  · obtain ⟨k, rfl, ko, q⟩ := h
    refine ⟨_, pss_one (ps_ret (pe_and (pe_callB call_isD (by rfl) T.bf.isinstance_ (by decide +kernel) (pa_cons (pv 0) (pa_cons (pe_bltn (v := .ty "str") (by rfl) T.bf.str_ (by decide +kernel) rfl) pa_nil))) (pe_and (pe_chain op_le op_le pe_int (pe_callB call_len_str (by rfl) T.bf.len_ PySem.boot_len (pa_cons (pv 0) pa_nil)) pe_int)
      (pe_and (pe_bm0 PySem.F.plainAttrs_str PySem.F.slot_str_isascii PySem.F.type_str_isascii mt_isascii (pv 0))
      (pe_and (pe_bm0 PySem.F.plainAttrs_str PySem.F.slot_str_isalpha PySem.F.type_str_isalpha mt_isalpha (pv 0))
      (pe_one (pe_bm0 PySem.F.plainAttrs_str PySem.F.slot_str_islower PySem.F.type_str_islower mt_islower (pv 0)))))))), ?_⟩
    cases k with
    | inl n => exact ⟨_, rfl, _, _, .int n, _, rfl, .int n, isi_str _, _, rfl, iteF q⟩
    | inr z =>
      refine ⟨_, rfl, _, _, .str z, _, rfl, .str z, isi_str _, _, rfl, iteT ?_⟩
      refine ⟨_, rfl, z, rfl, small ko, _, _, rfl, rfl, _, rfl, ?_⟩
      have fin : isNameK (.inr z) = (decide (1 ≤ (z.length : Int)) && (decide ((z.length : Int) ≤ 8) && (Txt.isascii z && (Txt.isalpha z && Txt.islower z)))) := rfl
      refine ite2 (fun c1 => ?_) (fun c1 => ?_)
      · refine ⟨_, _, rfl, rfl, _, rfl, ?_⟩
        refine ite2 (fun c2 => ?_) (fun c2 => ?_)
        · refine ⟨_, rfl, rfl, z, rfl, rfl, trivial, _, rfl, ?_⟩
          refine ite2 (fun c3 => ?_) (fun c3 => ?_)
          · refine ⟨_, rfl, rfl, z, rfl, rfl, trivial, _, rfl, ?_⟩
            refine ite2 (fun c4 => ?_) (fun c4 => ?_)
            · refine ⟨_, rfl, rfl, z, rfl, rfl, trivial, ?_⟩
              exact qb q (by rw [fin, c1, c2, c3, c4]; simp)
            · exact qb q (by rw [fin]; simp [c4])
          · exact qb q (by rw [fin]; simp [c3])
        · have c2 : decide ((z.length : Int) ≤ 8) = false := by simpa using c2
          exact qb q (by rw [fin, c2]; simp)
      · have c1 : decide (1 ≤ (z.length : Int)) = false := by simpa using c1
        exact ⟨_, rfl, iteF (qb q (by rw [fin, c1]; simp))⟩
end
end K41

end

section
set_option Elab.async false
set_option linter.all false
set_option maxRecDepth 100000
set_option maxHeartbeats 2000000
/-! A dict of names. -/
namespace K41
open PySem PySem.Spec PyProof.Rows L2 KX
theorem same_unlock {H H' : Hp} {d : Addr} {u f : HO} (h : H d = some u) (s : Same (upd H d f) H') : Same H (upd H' d u) := fun b v e => by
  by_cases z : b = d
  · subst z
    rw [upd_same, ← e, h]
  · rw [upd_ne z]
    exact s b v (by rw [upd_ne z]; exact e)
section
variable {K : PySem.W.Frag} {d : Addr} {o : Obj} {kvs : List (Key × V)} {i : Nat} {te : TE} {σ : L2.St} {H0 : Hp} {D : Addr} {Qd : Hp → Prop}
theorem lc_keys (r : Key → V) (hl : H0 d = some (.frz o (.dK kvs))) (h1 : H0 D = none) (small : kvs.length ≤ 1000) (hw : ∀ x, wipe ((wipe σ [i]).set i (some x)) [i] = wipe σ [i])
    (hs : ∀ k v, (k, v) ∈ kvs → ∀ H, Same H0 H → ∀ Q : VK, Q (r k) H → te ((wipe σ [i]).set i (some (kV k))) H Q) (hd : ∀ H, Same H0 H → H D = some (.lst (kvs.map fun p => r p.1)) → Qd H) :
    ∃ W : Nat → Nat → Hp → Prop, (∃ m, W 0 m (upd H0 D (.lst []))) ∧ ∀ j m H, W j m H →
      ((Itk d o kvs).stop j H ∧ Qd H) ∨ ((Itk d o kvs).go j H ∧ ∃ Nx : Hp → Prop, (∀ H', Nx H' → ∃ m', m' < m ∧ W (j + 1) m' H') ∧ ∀ x H', (Itk d o kvs).yld j H x H' → gName i x (wipe σ [i]) H' fun σ2 H2 => wipe σ2 [i] = wipe σ [i] ∧ tYes σ2 H2 fun b H3 =>
        if b = true then te σ2 H3 fun y H4 => ∃ acc, H4 D = some (.lst acc) ∧ acc.length < sizeLine ∧ Nx (upd H4 D (.lst (acc ++ [y]))) else Nx H3) := by
  refine lc_it (walk_keys (kvs := kvs)) (fun j H => Same H0 H ∧ H D = some (.lst ((kvs.take j).map fun p => r p.1))) ⟨same_upd (Same.refl H0) h1, by rw [upd_same]; rfl⟩ (fun j H _ p => p.1 d _ hl) ?_ (fun H p => hd H p.1 (by rw [p.2, List.take_length]))
  rintro j x H H' hj ⟨s, hD⟩ ⟨rfl, k, v, hk, rfl⟩
  refine ⟨hw _, ?_⟩
  simp only [tYes, if_true]
  refine hs k v (List.mem_of_getElem? hk) H' s _ ⟨_, hD, ?_, same_upd s h1, ?_⟩
  · rw [List.length_map, List.length_take]
    exact small1000 (by omega)
  · rw [upd_same, List.take_add_one, hk]
    simp
end
section
variable {P : Program} {w : World} {K : PySem.W.Frag} {mg : Str → Option Value} {base : Heap}
def hasNamesK (kvs : List (Key × V)) : Bool := decide (1 ≤ kvs.length) && (decide (kvs.length ≤ 4) && kvs.all fun p => isNameK p.1)
def noDict : PyData → Bool
  | .dict _ => false
  | _ => true
/-- what is given for kinds: data that is no dict, or a dict -/
def Given (K : PySem.W.Frag) (H : Hp) (v : V) (d : PyData) : Prop := Dp K H v d ∧ noDict d = true
theorem isi_dict0 {d : PyData} (h : noDict d = true) : kitB (tyD d) "dict" = some false := by
  rw [isi_dict d]
  cases d <;> first | rfl | (simp [noDict] at h)
def spHas (K : PySem.W.Frag) : Sp := fun vs H Q _ => ∃ v, vs = [v] ∧ ((∃ d, Dp K H v d ∧ noDict d = true ∧ Q (.bl false) H) ∨ ∃ a kvs, v = .ref a ∧ H a = some (.dK kvs) ∧ kvs.length ≤ 100 ∧ (∀ p ∈ kvs, keyOk p.1) ∧ ∀ H', Same H H' → Q (.bl (hasNamesK kvs)) H')
theorem ok_has_names (T : Top K mg) : FnOk P w K mg base (L2.CX P w) 2 T.has_names.a T.has_names.d ["told"] (spHas K) := by
  refine T.has_names.f.okX sc_has_names (fun vs H Q E h => ?_) (fun cdv A outer s H vs Q E hr h => ?_)
  · obtain ⟨v, rfl, _⟩ := h
    rfl
  · obtain ⟨v, rfl, h⟩ := h
    refine ⟨_, pss_one (ps_ret (pe_and (pe_callB call_isi (by rfl) T.bf.isinstance_ (by decide +kernel) (pa_cons (pv 0) (pa_cons (pe_bltn (v := .ty "dict") (by rfl) T.bf.dict_ (by decide +kernel) rfl) pa_nil)))
      (pe_and (pe_chain op_le op_le pe_int (pe_callB call_lenD (by rfl) T.bf.len_ PySem.boot_len (pa_cons (pv 0) pa_nil)) pe_int)
      (pe_one (pe_callB (cr_all rfl) (by rfl) T.bf.all_ (by decide +kernel) (pa_cons ((pe_lock (pe_lc (own := [("name", 1)]) (g := gName 1) (tt := tYes) rfl sc_has_names.nd (pi_keys (pv 0)) (blkOk_by (N := n_has_names) (sc := defScope s_has_names) (by decide +kernel)) (fun _ _ _ _ _ => pg_name (i := 1) sc_has_names.nd rfl (Or.inl rfl)) (fun _ _ _ _ _ => pts_nil) (fun _ _ _ _ _ => (pe_call (ok_is_name T) (hr.mono (by decide)) (by rfl) T.is_name.m T.is_name.f.kp T.is_name.b .nil passL (pa_cons (pv 1) pa_nil)))))) pa_nil)))))), ?_⟩
    refine ⟨v, rfl, ?_⟩
    rcases h with ⟨d, hd, nd, q⟩ | ⟨a, kvs, rfl, ha, hl, ko, q⟩
    · exact ⟨v, .ty "dict", _, .type _, false, rfl, .ty _, dp_ty hd, kit_ty (isi_dict0 nd), _, rfl, iteF q⟩
    · refine ⟨_, .ty "dict", _, .type "dict", true, rfl, .ty "dict", .base (.dK ha), kit_ty (by decide +kernel : kitB "dict" "dict" = some true), _, rfl, iteT ?_⟩
      refine ⟨_, rfl, a, kvs, rfl, ha, _, _, rfl, rfl, _, rfl, ?_⟩
      have fin : hasNamesK kvs = (decide (1 ≤ kvs.length) && (decide (kvs.length ≤ 4) && kvs.all fun p => isNameK p.1)) := rfl
      refine ite2 (fun c1 => ?_) (fun c1 => ?_)
      · have c1 : 1 ≤ kvs.length := by have := of_decide_eq_true c1; omega
        refine ⟨_, _, rfl, rfl, _, rfl, ?_⟩
        refine ite2 (fun c2 => ?_) (fun c2 => ?_)
        · have c2 : kvs.length ≤ 4 := by have := of_decide_eq_true c2; omega
          refine ⟨a, _, ha, trivial, fun od => ⟨_, rfl, a, od, rfl, .inl ⟨kvs, upd_same, fun D hD => ?_⟩⟩⟩
          refine lc_keys (fun k => .bl (isNameK k)) upd_same hD (by omega) (fun _ => rfl) (fun k v hm H1 s1 Q1 q1 => ?_) fun H1 s1 hD1 => ?_
          · exact ⟨_, rfl, k, rfl, ko _ hm, q1⟩
          · have hne : D ≠ a := fun e => by
              subst e
              rw [upd_same] at hD
              cases hD
            have sf := same_unlock ha s1
            refine ⟨s1 _ _ upd_same, D, kvs.map fun p => isNameK p.1, rfl, SqL.of (by rw [upd_ne hne, hD1, List.map_map]; rfl), ?_⟩
            refine qb (q _ sf) ?_
            rw [fin, decide_eq_true c1, decide_eq_true c2, List.all_map]
            rfl
        · have c2 : ¬ kvs.length ≤ 4 := fun z => c2 (decide_eq_true (by omega))
          exact qb (q H (Same.refl H)) (by rw [fin, decide_eq_false c2]; simp)
      · have c1 : ¬ 1 ≤ kvs.length := fun z => c1 (decide_eq_true (by omega))
        exact ⟨_, rfl, iteF (qb (q H (Same.refl H)) (by rw [fin, decide_eq_false c1]; simp))⟩
end
end K41

end

section
set_option Elab.async false
set_option linter.all false
set_option maxRecDepth 100000
set_option maxHeartbeats 2000000
/-! The errors with a field. -/
namespace K41
open PySem PySem.Spec PyProof.Rows L2 KX
theorem pF {P : Program} {w : World} {K : PySem.W.Frag} {mg : Str → Option Value} {base : Heap} {N : List Str} {qual : Str} {scope : Scope} {f : Addr} {cd : Value} {A : Around} {outer : List Env} {s : Shared} {H : Hp} {E : XK} : Passes (L2.CX P w) (cxOf (L2.CX P w) P w K mg base N qual scope f cd A outer s H E) (fun _ _ _ => False) :=
  passes_call (takes_of rfl rfl rfl rfl) fun _ _ _ _ h => h.elim
theorem fnTy {K : PySem.W.Frag} {v : Value} (h : PySem.W.isFn K v = true) : PySem.W.typeIn K v = some (.type "function") := by
  simpa [PySem.W.isFn] using h
theorem kit_self {K : PySem.W.Frag} {C : Addr} : PySem.W.kitOne K (.ref C) (.ref C) = some true := by
  unfold PySem.W.kitOne
  rw [if_pos (by simp)]
theorem ins_ty {K : PySem.W.Frag} {mg : Str → Option Value} (T : Top K mg) {H : Hp} {a dx : Addr} {fs : List (Str × V)} (h : H a = some (.ins T.cKinds.c dx fs)) : TyX K H (.ref a) (.ref T.cKinds.c) :=
  .base (.ins h T.kf.cls T.kf.ca T.kf.cg T.kf.ct T.kf.mro)
/-- an error's making, its dict still empty -/
def spOex (C : Addr) (f : Str) : Sp := fun vs H Q _ => ∃ a v, vs = [.ref a, v] ∧ H a = some (exo a C none) ∧ ∀ dx, H dx = none → dx ≠ a → Q .non (upd (upd H dx (exd dx [(f, v)])) a (exo a C (some dx)))
theorem mk_low {C : Addr} {f : Str} {v : V} {H : Hp} {Q : XK} (q : ∀ d H', Same H H' → H d = none → H' d = some (.xd [(f, v)]) → Q (.ref C) (some d) H') :
    [v].length ≤ 1000 ∧ ∀ a, H a = none → spOex C f (.ref a :: ([v] ++ [])) (upd H a (exo a C none)) (fun v H2 => v = .non ∧ ∃ (d : Addr) (fs : List (Str × V)), H2 a = some (exo a C (some d)) ∧ H2 d = some (exd d fs) ∧ H d = none ∧ Q (.ref C) (some d) (upd (del H2 a) d (.xd fs))) (fun _ _ _ => False) := by
  refine ⟨by show 1 ≤ 1000; omega, fun a ha => ⟨a, v, rfl, upd_same, fun dx hx ne => ⟨rfl, dx, [(f, v)], upd_same, ?_, ?_, ?_⟩⟩⟩
  · rw [upd_ne ne, upd_same]
  · rw [upd_ne ne] at hx
    exact hx
  · rw [upd_ne ne] at hx
    refine q dx _ (fun b u e => ?_) hx upd_same
    have h1 : b ≠ dx := ne_of_none e hx
    have h2 : b ≠ a := ne_of_none e ha
    rw [upd_ne h1, del_ne h2, upd_ne h2, upd_ne h1, upd_ne h2]
    exact e
section
variable {P : Program} {w : World} {K : PySem.W.Frag} {mg : Str → Option Value} {base : Heap}
theorem ok_BadKinds_init (T : Top K mg) : FnOk P w K mg base (L2.CX P w) 1 T.BadKinds_init.a T.BadKinds_init.d ["self", "name"] (spOex T.cBadKinds.c "name") := by
  refine T.BadKinds_init.f.okX sc_BadKinds_init (fun vs H Q E h => ?_) (fun cdv A outer s H vs Q E hr h => ?_)
  · obtain ⟨a, v, rfl, _⟩ := h
    rfl
  · obtain ⟨a, v, rfl, ha, q⟩ := h
    refine ⟨_, pss_one (ps_ost (pv 0) (pv 1)), ?_⟩
    exact ⟨_, rfl, _, rfl, a, _, rfl, T.oBadKinds, T.zBadKinds, .inl ⟨ha, fun dx h1 h2 => q dx h1 h2⟩⟩
theorem ok_BadChange_init (T : Top K mg) : FnOk P w K mg base (L2.CX P w) 1 T.BadChange_init.a T.BadChange_init.d ["self", "place"] (spOex T.cBadChange.c "place") := by
  refine T.BadChange_init.f.okX sc_BadChange_init (fun vs H Q E h => ?_) (fun cdv A outer s H vs Q E hr h => ?_)
  · obtain ⟨a, v, rfl, _⟩ := h
    rfl
  · obtain ⟨a, v, rfl, ha, q⟩ := h
    refine ⟨_, pss_one (ps_ost (pv 0) (pv 1)), ?_⟩
    exact ⟨_, rfl, _, rfl, a, _, rfl, T.oBadChange, T.zBadChange, .inl ⟨ha, fun dx h1 h2 => q dx h1 h2⟩⟩
theorem ok_CannotDo_init (T : Top K mg) : FnOk P w K mg base (L2.CX P w) 1 T.CannotDo_init.a T.CannotDo_init.d ["self", "place"] (spOex T.cCannotDo.c "place") := by
  refine T.CannotDo_init.f.okX sc_CannotDo_init (fun vs H Q E h => ?_) (fun cdv A outer s H vs Q E hr h => ?_)
  · obtain ⟨a, v, rfl, _⟩ := h
    rfl
  · obtain ⟨a, v, rfl, ha, q⟩ := h
    refine ⟨_, pss_one (ps_ost (pv 0) (pv 1)), ?_⟩
    exact ⟨_, rfl, _, rfl, a, _, rfl, T.oCannotDo, T.zCannotDo, .inl ⟨ha, fun dx h1 h2 => q dx h1 h2⟩⟩
/-- a Kinds instance, as it is told -/
def spCheckKinds (K : PySem.W.Frag) (C B : Addr) : Sp := fun vs H Q E => ∃ v, vs = [v] ∧ ((∃ a dx fs, v = .ref a ∧ H a = some (.ins C dx fs) ∧ Q .non H) ∨
  ((∃ a kvs, v = .ref a ∧ H a = some (.dK kvs)) ∨ v = .non) ∧ ∀ d H', Same H H' → H d = none → H' d = some (.xd [("name", .non)]) → E (.ref B) (some d) H')
theorem ok_check_kinds (T : Top K mg) : FnOk P w K mg base (L2.CX P w) 3 T.check_kinds.a T.check_kinds.d ["kinds"] (spCheckKinds K T.cKinds.c T.cBadKinds.c) := by
  refine T.check_kinds.f.okX sc_check_kinds (fun vs H Q E h => ?_) (fun cdv A outer s H vs Q E hr h => ?_)
  · obtain ⟨v, rfl, _⟩ := h
    rfl
  · obtain ⟨v, rfl, h⟩ := h
    refine ⟨_, pss_one (ps_if (pt_not (pt_val (pe_callB call_isi (by rfl) T.bf.isinstance_ (by decide +kernel) (pa_cons (pv 0) (pa_cons (pe_glob (x := "Kinds") (v := .ref T.cKinds.c) (by rfl) T.cKinds.m rfl) pa_nil)))))
      (pss_one (ps_raise rfl (takes_of rfl rfl rfl rfl) (pmk_oex T.oBadKinds T.BadKinds_init.i (fnTy T.BadKinds_init.g) (ok_BadKinds_init T) (hr.mono (by decide)) T.BadKinds_init.b .nil pF (by rfl) T.cBadKinds.m (pa_cons pe_non pa_nil)))) pss_nil), ?_⟩
    refine ⟨v, rfl, ?_⟩
    rcases h with ⟨a, dx, fs, rfl, ha, q⟩ | ⟨h, q⟩
    · exact ⟨_, .ref _, _, _, true, rfl, .own _, ins_ty T ha, kit_self, _, rfl, iteF q⟩
    · rcases h with ⟨a, kvs, rfl, ha⟩ | rfl
      · refine ⟨_, .ref _, .type "dict", _, false, rfl, .own _, .base (.dK ha), T.kf.qd, _, rfl, iteT (mk_low q)⟩
      · refine ⟨_, .ref _, .type "NoneType", _, false, rfl, .own _, .base .non, T.kf.qn, _, rfl, iteT (mk_low q)⟩
end
end K41

end

section
set_option Elab.async false
set_option linter.all false
set_option maxRecDepth 100000
set_option maxHeartbeats 2000000
/-! What kinds are told from. -/
namespace K41
open PySem PySem.Spec PyProof.Rows L2 KX
abbrev Ent := Str × V × PyData
def kvsT (L : List Ent) : List (Key × V) := L.map fun e => (Sum.inr e.1, e.2.1)
structure Ents (K : PySem.W.Frag) (H : Hp) (L : List Ent) : Prop where
  dp : ∀ e ∈ L, Dp K H e.2.1 e.2.2
  sh : ∀ e ∈ L, SeqAt.shaped (.list [e.2.2]) = true
  sm : ∀ e ∈ L, smallD e.2.2
  ko : ∀ e ∈ L, e.1.length ≤ 1000
  nd : (L.map (·.1)).Nodup
  few : L.length ≤ 10
structure Told (K : PySem.W.Frag) (H : Hp) (a : Addr) (L : List Ent) : Prop where
  at_ : H a = some (.dK (kvsT L))
  ok : Ents K H L
theorem Ents.same {K : PySem.W.Frag} {H H' : Hp} {L : List Ent} (h : Ents K H L) (s : Same H H') : Ents K H' L := ⟨fun e m => dp_same s (h.dp e m), h.sh, h.sm, h.ko, h.nd, h.few⟩
theorem Ents.perm {K : PySem.W.Frag} {H : Hp} {L M : List Ent} (h : Ents K H L) (p : M.Perm L) : Ents K H M :=
  ⟨fun e m => h.dp e (p.mem_iff.mp m), fun e m => h.sh e (p.mem_iff.mp m), fun e m => h.sm e (p.mem_iff.mp m), fun e m => h.ko e (p.mem_iff.mp m), (p.map _).nodup_iff.mpr h.nd, by rw [p.length_eq]; exact h.few⟩
theorem Told.same {K : PySem.W.Frag} {H H' : Hp} {a : Addr} {L : List Ent} (h : Told K H a L) (s : Same H H') : Told K H' a L := ⟨s a _ h.at_, h.ok.same s⟩
theorem perm_back {α β : Type} (f : α → β) : ∀ {ys zs : List β}, ys.Perm zs → ∀ L : List α, zs = L.map f → ∃ M : List α, M.Perm L ∧ M.map f = ys := fun {ys zs} h => by
  induction h with
  | nil => intro L e; cases L with
    | nil => exact ⟨[], .nil, rfl⟩
    | cons x r => simp at e
  | cons x p ih => intro L e; cases L with
    | nil => simp at e
    | cons y r =>
      rw [List.map_cons, List.cons.injEq] at e
      obtain ⟨M, h1, h2⟩ := ih r e.2
      exact ⟨y :: M, h1.cons y, by rw [List.map_cons, h2, e.1]⟩
  | swap x y l => intro L e; match L, e with
    | [], e => simp at e
    | [_], e => simp at e
    | a :: b :: r, e =>
      rw [List.map_cons, List.map_cons, List.cons.injEq, List.cons.injEq] at e
      exact ⟨b :: a :: r, .swap a b r, by rw [List.map_cons, List.map_cons, e.1, e.2.1, e.2.2]⟩
  | trans p q ihp ihq => intro L e; exact (by
      obtain ⟨M2, h1, h2⟩ := ihq L e
      obtain ⟨M, h3, h4⟩ := ihp M2 h2.symm
      exact ⟨M, h3.trans h1, h4⟩)
theorem val_of : ∀ {L : List Ent} {e : Ent}, (L.map (·.1)).Nodup → e ∈ L → valV (kvsT L) (Sum.inr e.1) = some e.2.1
  | [], e, _, m => by simp at m
  | x :: r, e, nd, m => by
    rw [List.map_cons, List.nodup_cons] at nd
    show ((List.find? (fun kv => decide (kv.1 = (Sum.inr e.1 : Key))) ((Sum.inr x.1, x.2.1) :: kvsT r)).map (·.2)) = _
    rcases List.mem_cons.mp m with z | z
    · subst z
      rw [List.find?_cons_of_pos (by simp)]
      rfl
    · have ne : ¬ (Sum.inr x.1 : Key) = Sum.inr e.1 := fun z' => by
        have z' : x.1 = e.1 := Sum.inr.inj z'
        exact nd.1 (z' ▸ List.mem_map_of_mem z)
      rw [List.find?_cons_of_neg (by simpa using ne)]
      exact val_of nd.2 z
theorem kvs_len {L : List Ent} : (kvsT L).length = L.length := List.length_map _
theorem kvs_fst {L : List Ent} : (kvsT L).map (·.1) = (L.map (·.1)).map Sum.inr := by
  unfold kvsT
  rw [List.map_map, List.map_map]
  rfl
theorem shaped_el {d : PyData} (h : SeqAt.shaped (.list [d]) = true) : SeqAt.shaped d = true := by
  have h1 := SeqAt.canLay_of_shaped h
  have h2 := SeqAt.depth_of_shaped h
  unfold SeqAt.shaped
  simp only [PyData.canLay0, PyData.canLayAll0, Bool.and_true] at h1
  simp only [PyData.depth, PyData.depthAll] at h2
  rw [h1, Bool.true_and]
  exact decide_eq_true (by omega)
theorem shaped_all : ∀ {ds : List PyData}, (∀ d ∈ ds, SeqAt.shaped (.list [d]) = true) → SeqAt.shaped (.list ds) = true := fun {ds} h => by
  have h1 : PyData.canLayAll0 ds = true := by
    induction ds with
    | nil => rfl
    | cons d r ih =>
      have z := SeqAt.canLay_of_shaped (h d List.mem_cons_self)
      simp only [PyData.canLay0, PyData.canLayAll0, Bool.and_true] at z
      simp only [PyData.canLayAll0, z, Bool.true_and]
      exact ih fun d' m => h d' (List.mem_cons_of_mem _ m)
  have h2 : PyData.depthAll ds ≤ 63 := by
    clear h1
    induction ds with
    | nil => exact Nat.zero_le _
    | cons d r ih =>
      have z := SeqAt.depth_of_shaped (h d List.mem_cons_self)
      simp only [PyData.depth, PyData.depthAll] at z
      have z2 := ih fun d' m => h d' (List.mem_cons_of_mem _ m)
      simp only [PyData.depthAll]
      omega
  unfold SeqAt.shaped
  simp only [PyData.canLay0, h1, Bool.true_and, PyData.depth]
  exact decide_eq_true (by omega)
/-- the first name whose kind is none, or one that stood ahead -/
def firstBad : List PyData → List Ent → Option Str
  | _, [] => none
  | seen, e :: r => if (isKindD e.2.2 && !(seen.any fun z => PyData.eqv z e.2.2)) = true then firstBad (seen ++ [e.2.2]) r else some e.1
theorem bad_here {seen : List PyData} {e : Ent} {r : List Ent} (h : (isKindD e.2.2 && !(seen.any fun z => PyData.eqv z e.2.2)) = false) : firstBad seen (e :: r) = some e.1 := by
  show (if _ then _ else _) = _
  rw [h]
  rfl
theorem bad_next {seen : List PyData} {e : Ent} {r : List Ent} (h : (isKindD e.2.2 && !(seen.any fun z => PyData.eqv z e.2.2)) = true) : firstBad seen (e :: r) = firstBad (seen ++ [e.2.2]) r := by
  show (if _ then _ else _) = _
  rw [if_pos h]
theorem hu65 {k : Nat} {A : Around} (r : Room (k + 1) A) : A.units + 65 < cLine := by have := r.un; omega
/-- an error of the class at C, its field f telling v -/
def Raises1 (H : Hp) (E : XK) (C : Addr) (f : Str) (v : V) : Prop := ∀ d H', Same H H' → H d = none → H' d = some (.xd [(f, v)]) → E (.ref C) (some d) H'
theorem Raises1.same {H H1 : Hp} {E : XK} {C : Addr} {f : Str} {v : V} (h : Raises1 H E C f v) (s : Same H H1) : Raises1 H1 E C f v := fun d H' s' n e => h d H' (s.trans s') (by
  cases z : H d with
  | none => rfl
  | some u =>
    have := s d u z
    rw [n] at this
    cases this) e
end K41

end

section
set_option Elab.async false
set_option linter.all false
set_option maxRecDepth 100000
set_option maxHeartbeats 4000000
/-! Kinds are made. -/
namespace K41
open PySem PySem.Spec PyProof.Rows L2 KX
section
variable {J : It} {n : Nat} {G : Hp → Prop} {Y : Nat → Hp → V → Hp → Prop}
theorem dc_it (w : Walk J n G Y) {g : TG} {tt : TT} {tk tv : TE} {vs : List Nat} {σ : L2.St} {H1 : Hp} {D : Addr} {Qd : Hp → Prop} (Pv : Nat → Hp → Prop) (h0 : Pv 0 (upd H1 D (.dK []))) (hG : ∀ i H, i ≤ n → Pv i H → G H)
    (hs : ∀ i x H H', i < n → Pv i H → Y i H x H' → g x (wipe σ vs) H' fun σ2 H2 => wipe σ2 vs = wipe σ vs ∧ tt σ2 H2 fun b H3 =>
      if b = true then tk σ2 H3 fun y H4 => tv σ2 H4 fun z H5 => ∃ kvs k, y = kV k ∧ H5 D = some (.dK kvs) ∧ kvs.length < sizeLine ∧ Pv (i + 1) (upd H5 D (.dK (putK kvs k z))) else Pv (i + 1) H3) (hd : ∀ H, Pv n H → Qd H) :
    ∃ W : Nat → Nat → Hp → Prop, (∃ m, W 0 m (upd H1 D (.dK []))) ∧ ∀ i m H, W i m H →
      (J.stop i H ∧ Qd H) ∨ (J.go i H ∧ ∃ Nx : Hp → Prop, (∀ H', Nx H' → ∃ m', m' < m ∧ W (i + 1) m' H') ∧ ∀ x H', J.yld i H x H' → g x (wipe σ vs) H' fun σ2 H2 => wipe σ2 vs = wipe σ vs ∧ tt σ2 H2 fun b H3 =>
        if b = true then tk σ2 H3 fun y H4 => tv σ2 H4 fun z H5 => ∃ kvs k, y = kV k ∧ H5 D = some (.dK kvs) ∧ kvs.length < sizeLine ∧ Nx (upd H5 D (.dK (putK kvs k z))) else Nx H3) := by
  refine ⟨fun i m H => m = n - i ∧ i ≤ n ∧ Pv i H, ⟨n, by simp, Nat.zero_le _, h0⟩, ?_⟩
  rintro i m H ⟨rfl, hi, p⟩
  have q := hG i H hi p
  by_cases hlt : i < n
  · refine .inr ⟨w.goes i H hlt q, Pv (i + 1), fun H' p' => ⟨n - (i + 1), by omega, rfl, hlt, p'⟩, fun x H' y => hs i x H H' hlt p (w.yields i H x H' hlt q y)⟩
  · have e : i = n := by omega
    subst e
    exact .inl ⟨w.stops H q, hd H p⟩
end
theorem putK_new {L : List Ent} {n : Str} {v : V} (h : ∀ e ∈ L, e.1 ≠ n) : putK (kvsT L) (Sum.inr n) v = kvsT L ++ [(Sum.inr n, v)] := by
  unfold putK
  rw [if_neg]
  intro z
  obtain ⟨kv, m, e⟩ := List.any_eq_true.mp z
  obtain ⟨x, hx, rfl⟩ := List.mem_map.mp m
  exact h x hx (Sum.inr.inj (of_decide_eq_true e))
theorem nd_take {L : List Ent} (nd : (L.map (·.1)).Nodup) {j : Nat} {e : Ent} (h : L[j]? = some e) : ∀ x ∈ L.take j, x.1 ≠ e.1 := fun x m z => by
  obtain ⟨i, hi⟩ := List.mem_iff_getElem?.mp m
  have hj := (List.getElem?_eq_some_iff.mp h).1
  rw [List.getElem?_take] at hi
  split at hi
  · rename_i lt
    have h1 : (L.map (·.1))[i]? = some x.1 := by rw [List.getElem?_map, hi]; rfl
    have h2 : (L.map (·.1))[j]? = some e.1 := by rw [List.getElem?_map, h]; rfl
    have := (List.getElem?_inj (by rw [List.length_map]; omega) nd).mp (h1.trans (by rw [z, ← h2]))
    omega
  · cases hi
theorem idx_map {M : List Ent} {i : Nat} {v : V} (h : (M.map fun e => V.str e.1)[i]? = some v) : ∃ e, M[i]? = some e ∧ v = .str e.1 := by
  rw [List.getElem?_map] at h
  obtain ⟨e, h1, h2⟩ := Option.map_eq_some_iff.mp h
  exact ⟨e, h1, h2.symm⟩
theorem dpAll_of {K : PySem.W.Frag} {H : Hp} : ∀ {l : List Ent}, (∀ e ∈ l, Dp K H e.2.1 e.2.2) → DpAll K H (l.map (·.2.1)) (l.map (·.2.2))
  | [], _ => .nil
  | e :: r, h => .cons (h e List.mem_cons_self) (dpAll_of fun x m => h x (List.mem_cons_of_mem _ m))
theorem cut_take {xs : List V} {i : Nat} (h : i ≤ xs.length) : cutV xs none (some (i : Nat)) = xs.take i := by
  unfold cutV
  rw [HT.sIx_none, HT.sIx_nat, Nat.min_eq_left h]
  simp
def valR (L : List Ent) : V → V
  | .str n => (valV (kvsT L) (Sum.inr n)).getD .non
  | _ => .non
theorem valR_of {L : List Ent} {e : Ent} (nd : (L.map (·.1)).Nodup) (m : e ∈ L) : valR L (.str e.1) = e.2.1 := by
  show (valV (kvsT L) (Sum.inr e.1)).getD .non = _
  rw [val_of nd m]
  rfl
theorem Told.get {K : PySem.W.Frag} {H : Hp} {a : Addr} {L : List Ent} {e : Ent} (h : Told K H a L) (m : e ∈ L) : DGet H a (.str e.1) (some e.2.1) := by
  have := DGet.k (k := Sum.inr e.1) h.at_
  rw [val_of h.ok.nd m] at this
  exact this
section
variable {P : Program} {w : World} {K : PySem.W.Frag} {mg : Str → Option Value} {base : Heap}
def NoNames (K : PySem.W.Frag) (H : Hp) (v : V) : Prop := (∃ d, Dp K H v d ∧ noDict d = true) ∨ ∃ a kvs, v = .ref a ∧ H a = some (.dK kvs) ∧ kvs.length ≤ 100 ∧ (∀ p ∈ kvs, keyOk p.1) ∧ hasNamesK kvs = false
def MadeOf (H : Hp) (E : XK) (B : Addr) (L : List Ent) (Q : Hp → Addr → List Ent → Prop) : Prop := ∀ M : List Ent, M.Perm L → sortedS (M.map (·.1)) = true →
  match firstBad [] M with
  | some n => Raises1 H E B "name" (.str n)
  | none => ∀ H' D, Same H H' → H D = none → H' D = some (.dK (kvsT M)) → Q H' D M
def spInit (K : PySem.W.Frag) (C B : Addr) : Sp := fun vs H Q E => ∃ p dx v, vs = [.ref p, v] ∧ H p = some (.ins C dx []) ∧
  ((NoNames K H v ∧ Raises1 H E B "name" .non) ∨ ∃ a L, v = .ref a ∧ Told K H a L ∧ hasNamesK (kvsT L) = true ∧ MadeOf H E B L fun H' D _ => Q .non (upd H' p (.ins C dx [("told", .ref D)])))
theorem ok_Kinds_init (T : Top K mg) : FnOk P w K mg base (L2.CX P w) 6 T.Kinds_init.a T.Kinds_init.d ["self", "told"] (spInit K T.cKinds.c T.cBadKinds.c) := by
  refine T.Kinds_init.f.okX sc_Kinds_init (fun vs H Q E h => ?_) (fun cdv A outer s H vs Q E hr h => ?_)
  · obtain ⟨p, dx, v, rfl, _⟩ := h
    rfl
  · obtain ⟨p, dx, v, rfl, hp, h⟩ := h
    refine ⟨_, (pss_cons ((ps_if (pt_not (pt_val ((pe_call (ok_has_names T) (hr.mono (by decide)) (by rfl) T.has_names.m T.has_names.f.kp T.has_names.b .nil pX (pa_cons (pv 1) pa_nil))))) ((pss_one (ps_raise rfl (takes_of rfl rfl rfl rfl) (pmk_oex T.oBadKinds T.BadKinds_init.i (fnTy T.BadKinds_init.g) (ok_BadKinds_init T) (hr.mono (by decide)) T.BadKinds_init.b .nil pF (by rfl) T.cBadKinds.m (pa_cons pe_non pa_nil))))) (pss_nil))) (pss_cons ((ps_set (i := 2) sc_Kinds_init.nd rfl (Or.inl rfl) ((pe_callB (call_sortedD rfl) (by rfl) T.bf.sorted_ (by decide +kernel) (pa_cons (pv 1) pa_nil))))) (pss_cons ((ps_for pO rfl (pi_enum (by rfl) T.bf.enumerate_ (pa_cons (pv 2) pa_nil)) (pg_tup rfl (pgs_cons (pg_name (i := 3) sc_Kinds_init.nd rfl (Or.inl rfl)) (pgs_cons (pg_name (i := 4) sc_Kinds_init.nd rfl (Or.inl rfl)) pgs_nil))) ((pss_one ((ps_if (PW.pt (pw_or (pt_not (pt_val ((pe_call (ok_is_kind T) (hr.mono (by decide)) (by rfl) T.is_kind.m T.is_kind.f.kp T.is_kind.b .nil pX (pa_cons (pe_dget (hu_of hr) (pv 1) (pv 4) (fun _ _ => rfl)) pa_nil))))) (pw_or1 (pt_cmpR (op_inD (hu65 hr)) (pe_dget (hu_of hr) (pv 1) (pv 4) (fun _ _ => rfl)) (pe_lc (own := [("early", 5)]) (g := gName 5) (tt := tYes) rfl sc_Kinds_init.nd (pi_list (pe_slice sl_list (pv 2) po_none (po_some (pv 3)))) (blkOk_by (N := n_Kinds_init) (sc := defScope s_Kinds_init) (by decide +kernel)) (fun _ _ _ _ _ => pg_name (i := 5) sc_Kinds_init.nd rfl (Or.inl rfl)) (fun _ _ _ _ _ => pts_nil) (fun _ _ _ _ _ => pe_dget (hu_of hr) (pv 1) (pv 5) (fun _ _ => rfl))) (by rfl))))) ((pss_one (ps_raise rfl (takes_of rfl rfl rfl rfl) (pmk_oex T.oBadKinds T.BadKinds_init.i (fnTy T.BadKinds_init.g) (ok_BadKinds_init T) (hr.mono (by decide)) T.BadKinds_init.b .nil pF (by rfl) T.cBadKinds.m (pa_cons (pv 4) pa_nil))))) (pss_nil))))))) (pss_one (ps_fld (pv 0) (pe_dc (own := [("name", 4)]) (g := gName 4) (tt := tYes) rfl sc_Kinds_init.nd (pi_list (pv 2)) (blkOk_by (N := n_Kinds_init) (sc := defScope s_Kinds_init) (by decide +kernel)) (fun _ _ _ _ _ => pg_name (i := 4) sc_Kinds_init.nd rfl (Or.inl rfl)) (fun _ _ _ _ _ => pts_nil)
        (fun _ _ _ _ _ => pv 4) (fun _ _ _ _ _ => pe_dget (hu_of hr) (pv 1) (pv 4) (fun _ _ => rfl))) rfl))))), ?_⟩
    rcases h with ⟨hn, hR⟩ | ⟨a, L, rfl, hL, hn, hM⟩
    · rcases hn with ⟨d, hd, nd⟩ | ⟨a, kvs, rfl, ha, hl, ko, hk⟩
      · exact ⟨v, rfl, _, rfl, .inl ⟨d, hd, nd, _, rfl, iteT (mk_low hR)⟩⟩
      · refine ⟨_, rfl, _, rfl, .inr ⟨a, kvs, rfl, ha, hl, ko, fun H1 s1 => ?_⟩⟩
        rw [hk]
        exact ⟨_, rfl, iteT (mk_low (hR.same s1))⟩
    · have hfew := hL.ok.few
      refine ⟨_, rfl, _, rfl, .inr ⟨a, kvsT L, rfl, hL.at_, by rw [kvs_len]; omega, fun q m => ?_, fun H1 s1 => ?_⟩⟩
      · obtain ⟨e, he, rfl⟩ := List.mem_map.mp m
        exact hL.ok.ko e he
      rw [hn]
      refine ⟨_, rfl, iteF ?_⟩
      have hL1 := hL.same s1
      refine ⟨_, rfl, a, kvsT L, L.map (·.1), rfl, .inl hL1.at_, kvs_fst, by rw [List.length_map]; omega, fun ys nm pm so hnm => ?_⟩
      obtain ⟨M, hMp, rfl⟩ := perm_back (·.1) pm L rfl
      have hM := hM M hMp so
      have eM := hL.ok.perm hMp
      have mfew := eM.few
      have s2 : Same H1 (upd H1 nm (.lst ((M.map (·.1)).map V.str))) := same_upd (Same.refl H1) hnm
      have enm : ((M.map (·.1)).map V.str) = M.map fun e => V.str e.1 := by rw [List.map_map]; rfl
      rw [enm] at s2 ⊢
      generalize hH2 : upd H1 nm (.lst (M.map fun e => V.str e.1)) = H2 at s2 ⊢
      have hnm2 : H2 nm = some (.lst (M.map fun e => V.str e.1)) := by rw [← hH2, upd_same]
      have s02 := s1.trans s2
      have hlen : (M.map fun e => V.str e.1).length = M.length := List.length_map _
      refine ⟨_, rfl, nm, _, rfl, SqL.of hnm2, for_it (walk_enum (xs := M.map fun e => V.str e.1)) (fun i σ H3 => (∃ x3 x4, σ = [some (.ref p), some (.ref a), some (.ref nm), x3, x4, none]) ∧ Same H2 H3 ∧ firstBad [] M = firstBad ((M.take i).map (·.2.2)) (M.drop i))
        ⟨⟨_, _, rfl⟩, Same.refl H2, rfl⟩ (fun i σ H3 _ p => SqL.of (p.2.1 _ _ hnm2)) ?turn ?after⟩
      case turn =>
        rintro i x σ H3 H3' hi ⟨⟨x3, x4, rfl⟩, s3, hf⟩ ⟨Tp, y0, y1, rfl, hT, rfl, e0, e1⟩
        cases e0
        obtain ⟨e, he, rfl⟩ := idx_map e1
        have s4 : Same H3 (upd H3 Tp (.tup [.int (i : Nat), .str e.1])) := same_upd (Same.refl H3) hT
        refine ⟨Tp, _, rfl, SqT.of upd_same, rfl, _, _, rfl, _, _, rfl, rfl, ?_⟩
        generalize upd H3 Tp (.tup [.int (i : Nat), .str e.1]) = H4 at s4 ⊢
        have s24 := s3.trans s4
        have em : e ∈ M := List.mem_of_getElem? he
        have s04 := s02.trans s24
        have hL4 := hL.same s04
        have eM4 := eM.same s04
        have hd4 : DGet H4 a (.str e.1) (some e.2.1) := by
          have := DGet.k (k := Sum.inr e.1) hL4.at_
          rw [val_of hL.ok.nd (hMp.mem_iff.mp em)] at this
          exact this
        have hcons : M.drop i = e :: M.drop (i + 1) := by
          rw [List.drop_eq_getElem_cons (by omega)]
          congr 1
          have := List.getElem?_eq_getElem (l := M) (i := i) (by omega)
          rw [he] at this
          exact (Option.some.inj this).symm
        refine ⟨_, rfl, _, rfl, a, _, rfl, hd4, _, e.2.2, rfl, eM4.dp e em, shaped_el (eM.sh e em), eM.sm e em, fun H5 s5 => ?_⟩
        have s45 := s24.trans s5
        have s05 := s04.trans s5
        have hL5 := hL4.same s5
        have eM5 := eM4.same s5
        have hd5 : DGet H5 a (.str e.1) (some e.2.1) := by
          have := DGet.k (k := Sum.inr e.1) hL5.at_
          rw [val_of hL.ok.nd (hMp.mem_iff.mp em)] at this
          exact this
        have hf' := hf
        rw [hcons] at hf'
        have isome : ∀ {b : Bool}, (isKindD e.2.2 && !(((M.take i).map (·.2.2)).any fun z => PyData.eqv z e.2.2)) = false → b = true → firstBad [] M = some e.1 := fun h _ => hf'.trans (bad_here h)
        refine ⟨_, rfl, ?_⟩
        by_cases hk : isKindD e.2.2 = true
        · rw [hk]
          refine iteF ?_
          refine ⟨_, rfl, _, rfl, a, _, rfl, hd5, ?_⟩
          have hi' : i ≤ (M.map fun e => V.str e.1).length := by omega
          refine ⟨_, rfl, _, rfl, _, rfl, nm, _, rfl, SqL.of (s45 _ _ hnm2), fun pA hpA => ⟨pA, rfl, ⟨_, SqL.of upd_same⟩, fun D hD => ?_⟩⟩
          rw [cut_take hi'] at hD ⊢
          have sA : Same H5 (upd H5 pA (.lst ((M.map fun e => V.str e.1).take i))) := same_upd (Same.refl H5) hpA
          have s0A := s05.trans sA
          generalize hHA : upd H5 pA (.lst ((M.map fun e => V.str e.1).take i)) = HA at hD sA s0A ⊢
          have hpA' : HA pA = some (.lst ((M.map fun e => V.str e.1).take i)) := by rw [← hHA, upd_same]
          have mem : ∀ x ∈ (M.map fun e => V.str e.1).take i, ∃ e', e' ∈ M ∧ x = .str e'.1 := fun x hx => by
            obtain ⟨e', h1, h2⟩ := List.mem_map.mp (List.mem_of_mem_take hx)
            exact ⟨e', h1, h2.symm⟩
          refine lc_mapL (xs := (M.map fun e => V.str e.1).take i) (i := 5) (valR L) (Same.refl HA) (SqL.of hpA') hD (by rw [List.length_take]; omega) (fun _ => rfl) (fun x hx H6 s6 Q6 q6 => ?_) fun H6 s6 hD6 => ?_
          · obtain ⟨e', hm', rfl⟩ := mem x hx
            have hm'' := hMp.mem_iff.mp hm'
            refine ⟨_, rfl, _, rfl, a, _, rfl, (hL.same (s0A.trans s6)).get hm'', ?_⟩
            rw [← valR_of hL.ok.nd hm'']
            exact q6 H6 (Same.refl H6)
          · have eM6 := eM.same (s0A.trans s6)
            have el : ((M.map fun e => V.str e.1).take i).map (valR L) = (M.take i).map (·.2.1) := by
              rw [← List.map_take, List.map_map]
              refine List.map_congr_left fun e' m' => ?_
              exact valR_of hL.ok.nd (hMp.mem_iff.mp (List.mem_of_mem_take m'))
            rw [el] at hD6
            refine ⟨e.2.2, (M.take i).map (fun e : Ent => e.2.2), eM6.dp e em, .lst (SqL.of hD6) (dpAll_of fun e' m' => eM6.dp e' (List.mem_of_mem_take m')), shaped_el (eM.sh e em), shaped_all fun d m => ?_, _, rfl, ?_⟩
            · obtain ⟨e', m', rfl⟩ := List.mem_map.mp m
              exact eM.sh e' (List.mem_of_mem_take m')
            · refine ite2 (fun t => ?_) (fun t => ?_)
              · have fb := isome (b := true) (by rw [hk, t]; rfl) rfl
                rw [fb] at hM
                exact ⟨_, rfl, mk_low (hM.same (s0A.trans s6))⟩
              · have t : (((M.take i).map (·.2.2)).any fun z => PyData.eqv z e.2.2) = false := by simpa using t
                refine ⟨⟨_, _, rfl⟩, (s45.trans sA).trans s6, ?_⟩
                rw [hf', bad_next (by rw [hk, t]; rfl), List.take_add_one, he]
                simp
        · have hk : isKindD e.2.2 = false := by simpa using hk
          rw [hk]
          refine iteT ?_
          have fb := isome (b := true) (by rw [hk]; rfl) rfl
          rw [fb] at hM
          exact ⟨_, rfl, mk_low (hM.same s05)⟩
      case after =>
        rintro σ H3 ⟨⟨x3, x4, rfl⟩, s3, hf⟩
        have fb : firstBad [] M = none := by
          rw [hf, hlen, List.drop_length]
          rfl
        rw [fb] at hM
        have s03 := s02.trans s3
        have hnm3 := s3 _ _ hnm2
        refine ⟨_, rfl, nm, rfl, ⟨_, SqL.of hnm3⟩, fun D hD => dc_it (walk_list (xs := M.map fun e => V.str e.1)) (fun j H6 => Same H3 H6 ∧ H6 D = some (.dK (kvsT (M.take j))))
          ⟨same_upd (Same.refl H3) hD, by rw [upd_same]; rfl⟩ (fun j H6 _ p6 => SqL.of (p6.1 _ _ hnm3)) ?_ ?_⟩
        · rintro j x H6 H6' hj ⟨s6, hD6⟩ ⟨rfl, hx⟩
          obtain ⟨e, he, rfl⟩ := idx_map hx
          have em : e ∈ M := List.mem_of_getElem? he
          refine ⟨rfl, ?_⟩
          simp only [tYes, if_true]
          refine ⟨_, rfl, _, rfl, _, rfl, a, _, rfl, (hL.same (s03.trans s6)).get (hMp.mem_iff.mp em), kvsT (M.take j), Sum.inr e.1, rfl, hD6, ?_, same_upd s6 hD, ?_⟩
          · rw [kvs_len, List.length_take]
            exact small1000 (by omega)
          · rw [upd_same, putK_new (nd_take eM.nd he), List.take_add_one, he]
            simp [kvsT]
        · rintro H6 ⟨s6, hD6⟩
          rw [hlen, List.take_length] at hD6
          have s06 := s03.trans s6
          refine ⟨_, rfl, p, _, dx, [], rfl, s06 _ _ hp, T.kf.cls, T.kf.told, by show 0 < 1000; omega, ?_⟩
          have hD0 : H D = none := by
            cases z : H D with
            | none => rfl
            | some u =>
              have := s03 _ _ z
              rw [hD] at this
              cases this
          exact hM H6 D s06 hD0 hD6
end
end K41

end

section
set_option Elab.async false
set_option linter.all false
set_option maxRecDepth 100000
set_option maxHeartbeats 4000000
/-! What kinds answer. -/
namespace K41
open PySem PySem.Spec PyProof.Rows L2 KX
/-- at p: kinds of the entries M -/
def KindsAt (K : PySem.W.Frag) (C : Addr) (H : Hp) (p : Addr) (M : List Ent) : Prop := ∃ dx D, H p = some (.ins C dx [("told", .ref D)]) ∧ Told K H D M ∧ ∀ e ∈ M, isKindD e.2.2 = true
theorem KindsAt.same {K : PySem.W.Frag} {C : Addr} {H H' : Hp} {p : Addr} {M : List Ent} (h : KindsAt K C H p M) (s : Same H H') : KindsAt K C H' p M := by
  obtain ⟨dx, D, h1, h2, h3⟩ := h
  exact ⟨dx, D, s _ _ h1, h2.same s, h3⟩
def findE (M : List Ent) : PyData → Option V
  | .str n => valV (kvsT M) (Sum.inr n)
  | _ => none
section
variable {P : Program} {w : World} {K : PySem.W.Frag} {mg : Str → Option Value} {base : Heap}
def spHasK (K : PySem.W.Frag) (C : Addr) : Sp := fun vs H Q _ => ∃ p v d M, vs = [.ref p, v] ∧ KindsAt K C H p M ∧ Dp K H v d ∧ Q (.bl (findE M d).isSome) H
theorem ok_Kinds_contains (T : Top K mg) : FnOk P w K mg base (L2.CX P w) 1 T.Kinds_contains.a T.Kinds_contains.d ["self", "x"] (spHasK K T.cKinds.c) := by
  refine T.Kinds_contains.f.okX sc_Kinds_contains (fun vs H Q E h => ?_) (fun cdv A outer s H vs Q E hr h => ?_)
  · obtain ⟨p, v, d, M, rfl, _⟩ := h
    rfl
  · obtain ⟨p, v, d, M, rfl, ⟨dx, D, hp, hD, hg⟩, hd, q⟩ := h
    refine ⟨_, (pss_one ((ps_ret (pe_and (pe_callB call_isD (by rfl) T.bf.isinstance_ (by decide +kernel) (pa_cons (pv 1) (pa_cons (pe_bltn (v := .ty "str") (by rfl) T.bf.str_ (by decide +kernel) rfl) pa_nil))) (pe_one (pe_cmp (pc_din (hu_of hr) (pv 1) (pe_fld (pv 0) rfl)))))))), ?_⟩
    refine ⟨v, rfl, v, _, d, _, rfl, hd, isi_str d, _, rfl, ?_⟩
    cases hd with
    | str z => exact iteT ⟨_, rfl, _, rfl, p, _, dx, _, _, rfl, hp, T.kf.cls, T.kf.told, rfl, D, _, rfl, DGet.k (k := Sum.inr z) hD.at_, q⟩
    | non => exact iteF q
    | bl b => exact iteF q
    | int n => exact iteF q
    | lst a b => exact iteF q
    | tup a b => exact iteF q
def spGet (K : PySem.W.Frag) (C B : Addr) : Sp := fun vs H Q E => ∃ p v d M, vs = [.ref p, v] ∧ KindsAt K C H p M ∧ Dp K H v d ∧ (∀ x, findE M d = some x → Q x H) ∧ (findE M d = none → Raises1 H E B "name" v)
theorem ok_Kinds_getitem (T : Top K mg) : FnOk P w K mg base (L2.CX P w) 3 T.Kinds_getitem.a T.Kinds_getitem.d ["self", "at"] (spGet K T.cKinds.c T.cBadKinds.c) := by
  refine T.Kinds_getitem.f.okX sc_Kinds_getitem (fun vs H Q E h => ?_) (fun cdv A outer s H vs Q E hr h => ?_)
  · obtain ⟨p, v, d, M, rfl, _⟩ := h
    rfl
  · obtain ⟨p, v, d, M, rfl, hk, hd, q, r⟩ := h
    obtain ⟨dx, D, hp, hD, hg⟩ := hk
    refine ⟨_, (pss_cons ((ps_if ((pt_cmpR (op_ownNotIn (ok_Kinds_contains T) (hr.mono (by decide)) T.Kinds_contains.b pX T.Kinds_contains.i T.Kinds_contains.g) (pv 1) (pv 0) (by rfl))) ((pss_one ((ps_raise rfl (takes_of rfl rfl rfl rfl) (pmk_oex T.oBadKinds T.BadKinds_init.i (fnTy T.BadKinds_init.g) (ok_BadKinds_init T) (hr.mono (by decide)) T.BadKinds_init.b .nil pF (by rfl) T.cBadKinds.m (pa_cons (pv 1) pa_nil)))))) (pss_nil))) (pss_one ((ps_ret ((pe_dget (hu_of hr) (pe_fld (pv 0) rfl) (pv 1) (fun _ _ => rfl))))))), ?_⟩
    refine ⟨_, rfl, _, rfl, p, dx, _, rfl, hp, ⟨p, v, d, M, rfl, ⟨dx, D, hp, hD, hg⟩, hd, _, rfl, _, rfl, ?_⟩⟩
    cases e : findE M d with
    | none => exact iteT ⟨_, rfl, mk_low (r e)⟩
    | some x =>
      refine iteF ⟨_, rfl, p, _, dx, _, _, rfl, hp, T.kf.cls, T.kf.told, rfl, _, rfl, D, x, rfl, ?_, q x e⟩
      cases hd with
      | str z =>
        have := DGet.k (k := Sum.inr z) hD.at_
        have e : valV (kvsT M) (Sum.inr z) = some x := e
        rw [e] at this
        exact this
      | non => cases e
      | bl b => cases e
      | int n => cases e
      | lst a b => cases e
      | tup a b => cases e
def spLen (K : PySem.W.Frag) (C : Addr) : Sp := fun vs H Q _ => ∃ p M, vs = [.ref p] ∧ KindsAt K C H p M ∧ Q (.int M.length) H
theorem ok_Kinds_len (T : Top K mg) : FnOk P w K mg base (L2.CX P w) 1 T.Kinds_len.a T.Kinds_len.d ["self"] (spLen K T.cKinds.c) := by
  refine T.Kinds_len.f.okX sc_Kinds_len (fun vs H Q E h => ?_) (fun cdv A outer s H vs Q E hr h => ?_)
  · obtain ⟨p, M, rfl, _⟩ := h
    rfl
  · obtain ⟨p, M, rfl, ⟨dx, D, hp, hD, hg⟩, q⟩ := h
    refine ⟨_, (pss_one ((ps_ret ((pe_callB call_lenD (by rfl) T.bf.len_ PySem.boot_len (pa_cons (pe_fld (pv 0) rfl) pa_nil)))))), ?_⟩
    refine ⟨_, rfl, p, _, dx, _, _, rfl, hp, T.kf.cls, T.kf.told, rfl, D, _, rfl, hD.at_, ?_⟩
    rw [kvs_len]
    exact q
def spNames (K : PySem.W.Frag) (C : Addr) : Sp := fun vs H Q _ => ∃ p M, vs = [.ref p] ∧ KindsAt K C H p M ∧ ∀ l H', Same H H' → H' l = some (.lst (M.map fun e => .str e.1)) → Q (.ref l) H'
theorem kvs_keys {M : List Ent} : (kvsT M).map (fun kv => kV kv.1) = M.map fun e => V.str e.1 := by
  unfold kvsT
  rw [List.map_map]
  rfl
theorem ok_Kinds_names (T : Top K mg) : FnOk P w K mg base (L2.CX P w) 1 T.Kinds_names.a T.Kinds_names.d ["self"] (spNames K T.cKinds.c) := by
  refine T.Kinds_names.f.okX sc_Kinds_names (fun vs H Q E h => ?_) (fun cdv A outer s H vs Q E hr h => ?_)
  · obtain ⟨p, M, rfl, _⟩ := h
    rfl
  · obtain ⟨p, M, rfl, ⟨dx, D, hp, hD, hg⟩, q⟩ := h
    refine ⟨_, (pss_one ((ps_ret ((pe_callTy (call_listD rfl) (by rfl) T.bf.list_ (by decide +kernel) (pa_cons (pe_fld (pv 0) rfl) pa_nil)))))), ?_⟩
    refine ⟨_, rfl, p, _, dx, _, _, rfl, hp, T.kf.cls, T.kf.told, rfl, D, _, rfl, .inl hD.at_, fun l hl => ?_⟩
    rw [kvs_keys]
    exact q l _ (same_upd (Same.refl H) hl) upd_same
/-- another thing: kinds of the same values, or no kinds -/
def spEq (K : PySem.W.Frag) (C : Addr) : Sp := fun vs H Q _ => ∃ p v M, vs = [.ref p, v] ∧ KindsAt K C H p M ∧ ((∃ p2, v = .ref p2 ∧ KindsAt K C H p2 M ∧ Q (.bl true) H) ∨ ∃ a kvs, v = .ref a ∧ H a = some (.dK kvs) ∧ Q (.bl false) H)
theorem kind_ref {K : PySem.W.Frag} {H : Hp} {v : V} {d : PyData} (h : Dp K H v d) (k : isKindD d = true) : isRef v = true := by
  cases h <;> first | rfl | (simp [isKindD] at k)
theorem very {K : PySem.W.Frag} {H : Hp} {M : List Ent} (h : Ents K H M) (g : ∀ e ∈ M, isKindD e.2.2 = true) : ∀ p ∈ kvsT M, valV (kvsT M) p.1 = some p.2 ∧ isRef p.2 = true := fun p hp => by
  obtain ⟨e, he, rfl⟩ := List.mem_map.mp hp
  exact ⟨val_of h.nd he, kind_ref (h.dp e he) (g e he)⟩
theorem ok_Kinds_eq (T : Top K mg) : FnOk P w K mg base (L2.CX P w) 1 T.Kinds_eq.a T.Kinds_eq.d ["self", "other"] (spEq K T.cKinds.c) := by
  refine T.Kinds_eq.f.okX sc_Kinds_eq (fun vs H Q E h => ?_) (fun cdv A outer s H vs Q E hr h => ?_)
  · obtain ⟨p, v, M, rfl, _⟩ := h
    rfl
  · obtain ⟨p, v, M, rfl, ⟨dx, D, hp, hD, hg⟩, h⟩ := h
    refine ⟨_, (pss_one ((ps_ret (pe_and (pe_callB call_isi (by rfl) T.bf.isinstance_ (by decide +kernel) (pa_cons (pv 1) (pa_cons (pe_glob (x := "Kinds") (v := .ref T.cKinds.c) (by rfl) T.cKinds.m rfl) pa_nil))) (pe_one (pe_cmpR (op_eqVery hr.units0) (pe_fld (pv 0) rfl) (pe_fld (pv 1) rfl) (by rfl))))))), ?_⟩
    rcases h with ⟨p2, rfl, ⟨dx2, D2, hp2, hD2, hg2⟩, q⟩ | ⟨a, kvs, rfl, ha, q⟩
    · refine ⟨_, rfl, _, .ref _, _, _, true, rfl, .own _, ins_ty T hp2, kit_self, _, rfl, iteT ?_⟩
      exact ⟨_, rfl, p, _, dx, _, _, rfl, hp, T.kf.cls, T.kf.told, rfl, _, rfl, p2, _, dx2, _, _, rfl, hp2, T.kf.cls, T.kf.told, rfl, D, D2, _, _, rfl, rfl, hD.at_, hD2.at_, rfl, very hD.ok hg, q⟩
    · exact ⟨_, rfl, _, .ref _, .type "dict", _, false, rfl, .own _, .base (.dK ha), T.kf.qd, _, rfl, iteF q⟩
end
end K41

end

section
set_option Elab.async false
set_option linter.all false
set_option maxRecDepth 100000
set_option maxHeartbeats 4000000
/-! Growth; whether a letter is brought. -/
namespace K41
open PySem PySem.Spec PyProof.Rows L2 KX
theorem findE_some {M : List Ent} {d : PyData} {x : V} (h : findE M d = some x) : ∃ e ∈ M, d = .str e.1 ∧ x = e.2.1 := by
  cases d with
  | str n =>
    have h : valV (kvsT M) (Sum.inr n) = some x := h
    unfold valV at h
    obtain ⟨kv, h1, h2⟩ := Option.map_eq_some_iff.mp h
    obtain ⟨e, he, hk⟩ := List.mem_map.mp (List.mem_of_find?_eq_some h1)
    have h3 := List.find?_some h1
    subst hk
    have h3 : (Sum.inr e.1 : Key) = Sum.inr n := of_decide_eq_true h3
    exact ⟨e, he, by rw [Sum.inr.inj h3], h2.symm⟩
  | _ => cases h
theorem findE_of {M : List Ent} {e : Ent} (nd : (M.map (·.1)).Nodup) (m : e ∈ M) : findE M (.str e.1) = some e.2.1 := val_of nd m
theorem kind_form {d : PyData} (h : isKindD d = true) : ∃ w ps, d = .tuple [.int w, .tuple ps] ∧ 0 ≤ w ∧ w ≤ 2 ∧ isRowD w (.tuple ps) = true := by
  unfold isKindD at h
  split at h
  · rename_i w r
    rw [Bool.and_eq_true, Bool.and_eq_true] at h
    cases r with
    | tuple ps => exact ⟨w, ps, rfl, of_decide_eq_true h.1, of_decide_eq_true h.2.1, h.2.2⟩
    | _ => exact absurd h.2.2 (by simp [isRowD])
  · cases h
theorem kind_val {K : PySem.W.Frag} {H : Hp} {x : V} {w : Int} {ps : List PyData} (h : Dp K H x (.tuple [.int w, .tuple ps])) : ∃ a b xs, x = .ref a ∧ SqT K H a [.int w, .ref b] ∧ SqT K H b xs ∧ DpAll K H xs ps := by
  cases h with
  | tup hs ha =>
    cases ha with
    | cons h1 t =>
      cases h1
      cases t with
      | cons h2 t2 =>
        cases t2
        cases h2 with
        | tup hs2 ha2 => exact ⟨_, _, _, rfl, hs, hs2, ha2⟩
def newD : PyData → Bool
  | .str z => decide (z = "new")
  | _ => false
def hasNewD (ps : List PyData) : Bool := ps.any newD
theorem row_parts {w : Int} {ps : List PyData} (h : isRowD w (.tuple ps) = true) : ps.all (isPartD w) = true := by
  cases e : ps.all (isPartD w) with
  | true => rfl
  | false => rw [row_part e] at h; cases h
theorem hasNew_cons {d : PyData} {r : List PyData} : hasNewD (d :: r) = (newD d || hasNewD r) := List.any_cons
theorem str_new (x : Str) : eqV (.str x) (.str "new") = newD (.str x) := by
  show (x == ("new" : Str)) = decide (x = "new")
  by_cases e : x = "new"
  · subst e
    rfl
  · rw [decide_eq_false e]
    exact beq_eq_false_iff_ne.mpr e
theorem new_in {K : PySem.W.Frag} {H : Hp} {w : Int} : ∀ {xs : List V} {ps : List PyData}, DpAll K H xs ps → ps.all (isPartD w) = true → xs.all flatV = true ∧ inV (.str "new") xs = hasNewD ps
  | _, _, .nil, _ => ⟨rfl, rfl⟩
  | _, _, .cons h t, e => by
    rw [List.all_cons, Bool.and_eq_true] at e
    obtain ⟨i1, i2⟩ := new_in t e.2
    obtain ⟨e1, _⟩ := e
    unfold inV at i2 ⊢
    cases h <;> first
      | (simp [isPartD] at e1; done)
      | exact ⟨by rw [List.all_cons, i1]; rfl, by rw [List.any_cons, i2, hasNew_cons]; first | rfl | rw [str_new]⟩
section
variable {P : Program} {w : World} {K : PySem.W.Frag} {mg : Str → Option Value} {base : Heap}
def spNeeds (K : PySem.W.Frag) (C : Addr) : Sp := fun vs H Q _ => ∃ p M e, vs = [.ref p, .str e.1] ∧ KindsAt K C H p M ∧ e ∈ M ∧ ∀ w ps, e.2.2 = .tuple [.int w, .tuple ps] → Q (.bl (hasNewD ps)) H
theorem ok_needs_letter (T : Top K mg) : FnOk P w K mg base (L2.CX P w) 5 T.needs_letter.a T.needs_letter.d ["kinds", "name"] (spNeeds K T.cKinds.c) := by
  refine T.needs_letter.f.okX sc_needs_letter (fun vs H Q E h => ?_) (fun cdv A outer s H vs Q E hr h => ?_)
  · obtain ⟨p, M, e, rfl, _⟩ := h
    rfl
  · obtain ⟨p, M, e, rfl, hk, em, q⟩ := h
    refine ⟨_, (pss_one ((ps_ret ((pe_cmpR (op_in_seq) (pe_str) ((pe_ix (ix_tup) ((pe_ownIx (ok_Kinds_getitem T) (hr.mono (by decide)) T.Kinds_getitem.b pX T.Kinds_getitem.i T.Kinds_getitem.g T.kf.fn (pv 0) (pv 1) (fun _ _ => rfl))) (pe_int) (fun _ _ => rfl))) (by rfl)))))), ?_⟩
    obtain ⟨dx, D, hp, hD, hg⟩ := id hk
    have fe := findE_of hD.ok.nd em
    obtain ⟨wd, ps, ed, _, _, hrow⟩ := kind_form (hg e em)
    have dp := hD.ok.dp e em
    rw [ed] at dp
    obtain ⟨a, b, xs, rx, h1, h2, h3⟩ := kind_val dp
    obtain ⟨f1, f2⟩ := new_in h3 (row_parts hrow)
    refine ⟨_, rfl, _, rfl, p, dx, _, rfl, hp, p, _, .str e.1, M, rfl, hk, .str _, fun x ex => ?_, fun z => by rw [fe] at z; cases z⟩
    rw [fe] at ex
    cases ex
    rw [rx]
    refine ⟨a, _, 1, _, rfl, rfl, h1, rfl, b, xs, rfl, .inr h2, rfl, f1, ?_⟩
    exact qb (q wd ps ed) f2
end
end K41

end

section
set_option Elab.async false
set_option linter.all false
set_option maxRecDepth 100000
set_option maxHeartbeats 4000000
/-! Texts and changes: what they are. -/
namespace K41
open PySem PySem.Spec PyProof.Rows L2 KX
def isTextD : PyData → Bool
  | .tuple ds => ds.all isIntD && decide (nDiff (ds.map keyD) (ds.map keyD).length = ds.length)
  | _ => false
def intV : V → Bool
  | .int _ => true
  | _ => false
theorem int_eq {K : PySem.W.Frag} {H : Hp} {v : V} {d : PyData} (h : Dp K H v d) : intV v = isIntD d := by
  cases h <;> rfl
theorem ints_eq {K : PySem.W.Frag} {H : Hp} : ∀ {xs : List V} {ds : List PyData}, DpAll K H xs ds → xs.map intV = ds.map isIntD
  | _, _, .nil => rfl
  | _, _, .cons h t => by rw [List.map_cons, List.map_cons, int_eq h, ints_eq t]
theorem keys_int {K : PySem.W.Frag} {H : Hp} : ∀ {xs : List V} {ds : List PyData}, DpAll K H xs ds → ds.all isIntD = true → xs = (ds.map keyD).map kV
  | _, _, .nil, _ => rfl
  | _, _, .cons h t, e => by
    rw [List.all_cons, Bool.and_eq_true] at e
    rw [List.map_cons, List.map_cons, ← keys_int t e.2]
    congr 1
    obtain ⟨e1, _⟩ := e
    cases h <;> first | rfl | (simp [isIntD] at e1)
def noneD : PyData → Bool
  | .none => true
  | _ => false
def nonnegD : PyData → Bool
  | .int n => decide (0 ≤ n)
  | _ => false
def entD (M : List Ent) (z : Str) : PyData := match M.find? fun e => decide (e.1 = z) with
  | some e => e.2.2
  | none => .none
def rowD (M : List Ent) (z : Str) : List PyData := match entD M z with
  | .tuple [_, .tuple ps] => ps
  | _ => []
def widthD (M : List Ent) (z : Str) : Int := match entD M z with
  | .tuple [.int w, _] => w
  | _ => 0
theorem entD_of : ∀ {M : List Ent} {e : Ent}, (M.map (·.1)).Nodup → e ∈ M → entD M e.1 = e.2.2
  | [], e, _, m => by simp at m
  | x :: r, e, nd, m => by
    rw [List.map_cons, List.nodup_cons] at nd
    unfold entD
    rcases List.mem_cons.mp m with z | z
    · subst z
      rw [List.find?_cons_of_pos (by simp)]
    · have ne : ¬ x.1 = e.1 := fun z' => nd.1 (z' ▸ List.mem_map_of_mem z)
      rw [List.find?_cons_of_neg (by simpa using ne)]
      exact entD_of nd.2 z
theorem rowD_of {M : List Ent} {e : Ent} {w : Int} {ps : List PyData} (nd : (M.map (·.1)).Nodup) (m : e ∈ M) (h : e.2.2 = .tuple [.int w, .tuple ps]) : rowD M e.1 = ps ∧ widthD M e.1 = w := by
  unfold rowD widthD
  rw [entD_of nd m, h]
  exact ⟨rfl, rfl⟩
def needsD (M : List Ent) : PyData → Bool
  | .str z => hasNewD (rowD M z)
  | _ => false
def isChangeD (M : List Ent) : PyData → Bool
  | .tuple [n, p, l, h] => (findE M n).isSome && (isIntD p && (isIntD h && (nonnegD h && (if needsD M n = true then isIntD l else noneD l))))
  | _ => false
theorem change_len {M : List Ent} {ps : List PyData} (h : ps.length ≠ 4) : isChangeD M (.tuple ps) = false := by
  unfold isChangeD
  split
  · rename_i e
    cases e
    exact absurd rfl h
  · rfl
section
variable {P : Program} {w : World} {K : PySem.W.Frag} {mg : Str → Option Value} {base : Heap}
def spText (K : PySem.W.Frag) : Sp := fun vs H Q _ => ∃ v d, vs = [v] ∧ Dp K H v d ∧ lenD d ≤ 100 ∧ ∀ H', Same H H' → Q (.bl (isTextD d)) H'
theorem ok_is_text (T : Top K mg) : FnOk P w K mg base (L2.CX P w) 2 T.is_text.a T.is_text.d ["text"] (spText K) := by
  refine T.is_text.f.okX sc_is_text (fun vs H Q E h => ?_) (fun cdv A outer s H vs Q E hr h => ?_)
  · obtain ⟨v, d, rfl, _⟩ := h
    rfl
  · obtain ⟨v, d, rfl, hd, sm, q⟩ := h
    refine ⟨_, (pss_one ((ps_ret (pe_and (pe_callB call_isD (by rfl) T.bf.isinstance_ (by decide +kernel) (pa_cons (pv 0) (pa_cons (pe_bltn (v := .ty "tuple") (by rfl) T.bf.tuple_ (by decide +kernel) rfl) pa_nil))) (pe_and (pe_callB (cr_all rfl) (by rfl) T.bf.all_ (by decide +kernel) (pa_cons ((pe_lc (own := [("letter", 1)]) (g := gName 1) (tt := tYes) rfl sc_is_text.nd (pi_tup (pv 0)) (blkOk_by (N := n_is_text) (sc := defScope s_is_text) (by decide +kernel)) (fun _ _ _ _ _ => pg_name (i := 1) sc_is_text.nd rfl (Or.inl rfl)) (fun _ _ _ _ _ => pts_nil) (fun _ _ _ _ _ => (pe_call (ok_is_whole T) (hr.mono (by decide)) (by rfl) T.is_whole.m T.is_whole.f.kp T.is_whole.b .nil passL (pa_cons (pv 1) pa_nil))))) pa_nil)) (pe_one (pe_cmpR (op_eq) ((pe_lenSetK (by rfl) T.bf.len_ (by rfl) T.bf.set_ (pv 0))) ((pe_callB call_len_seq (by rfl) T.bf.len_ PySem.boot_len (pa_cons (pv 0) pa_nil))) (nomark _)))))))), ?_⟩
    refine ⟨v, rfl, v, _, d, _, rfl, hd, isi_tuple d, _, rfl, ?_⟩
    cases hd with
    | non => exact iteF (q H (Same.refl H))
    | bl b => exact iteF (q H (Same.refl H))
    | int n => exact iteF (q H (Same.refl H))
    | str z => exact iteF (q H (Same.refl H))
    | lst a b => exact iteF (q H (Same.refl H))
    | @tup a xs ps hs ha =>
      have hl := all_len ha
      have sm : ps.length ≤ 100 := sm
      refine iteT ⟨_, rfl, a, rfl, ⟨_, hs⟩, fun D hD => lc_mapT (xs := xs) (i := 1) (fun x => .bl (intV x)) (Same.refl H) hs hD (by omega) (fun _ => rfl) (fun x hx H1 s1 Q1 q1 => ?_) fun H1 s1 hD1 => ?_⟩
      · obtain ⟨dx, _, hdx⟩ := all_get ha x hx
        refine ⟨_, rfl, x, dx, rfl, dp_same s1 hdx, ?_⟩
        rw [← int_eq hdx]
        exact q1 H1 (Same.refl H1)
      · refine ⟨D, ps.map isIntD, rfl, SqL.of (by rw [hD1, ← ints_eq ha, List.map_map]; rfl), _, rfl, ?_⟩
        have hs1 := sqT_same s1 hs
        have eall : (ps.map isIntD).all id = ps.all isIntD := by
          rw [List.all_map]
          rfl
        rw [eall]
        have fin : isTextD (.tuple ps) = (ps.all isIntD && decide (nDiff (ps.map keyD) (ps.map keyD).length = ps.length)) := rfl
        refine ite2 (fun c => ?_) (fun c => ?_)
        · have ek := keys_int ha c
          refine ⟨_, rfl, a, ps.map keyD, rfl, by rw [← ek]; exact hs1, by rw [List.length_map]; omega, _, rfl, a, xs, rfl, .inr hs1, rfl, ?_⟩
          refine qb (q H1 s1) ?_
          rw [fin, c, Bool.true_and, hl]
          by_cases z : nDiff (ps.map keyD) (ps.map keyD).length = ps.length
          · rw [z]
            simp
          · rw [decide_eq_false z]
            refine decide_eq_false fun z' => z ?_
            simp only [List.length_map] at z' ⊢
            simp at z'
            omega
        · have c : ps.all isIntD = false := by simpa using c
          exact qb (q H1 s1) (by rw [fin, c, Bool.false_and])
def spCheckText (K : PySem.W.Frag) (C : Addr) : Sp := fun vs H Q E => ∃ v d, vs = [v] ∧ Dp K H v d ∧ lenD d ≤ 100 ∧ ∀ H', Same H H' → if isTextD d = true then Q .non H' else E (.ref C) none H'
theorem ok_check_text (T : Top K mg) : FnOk P w K mg base (L2.CX P w) 3 T.check_text.a T.check_text.d ["text"] (spCheckText K T.cBadText.c) := by
  refine T.check_text.f.okX sc_check_text (fun vs H Q E h => ?_) (fun cdv A outer s H vs Q E hr h => ?_)
  · obtain ⟨v, d, rfl, _⟩ := h
    rfl
  · obtain ⟨v, d, rfl, hd, sm, q⟩ := h
    refine ⟨_, (pss_one ((ps_if (pt_not (pt_val ((pe_call (ok_is_text T) (hr.mono (by decide)) (by rfl) T.is_text.m T.is_text.f.kp T.is_text.b .nil pX (pa_cons (pv 0) pa_nil))))) ((pss_one (ps_raise rfl (takes_of rfl rfl rfl rfl) (pmk_own PySem.F.excBase_ValueError T.yBadText T.cBadText.m T.cBadText.k (raises_own T.eBadText.e.ex T.eBadText.t) rfl)))) (pss_nil)))), ?_⟩
    refine ⟨_, rfl, v, d, rfl, hd, sm, fun H1 s1 => ⟨_, rfl, ?_⟩⟩
    have q1 := q H1 s1
    cases e : isTextD d with
    | true =>
      rw [e, if_pos rfl] at q1
      exact iteF q1
    | false =>
      rw [e, if_neg (by simp)] at q1
      exact iteT q1
def spChange (K : PySem.W.Frag) (C : Addr) : Sp := fun vs H Q _ => ∃ p v d M, vs = [.ref p, v] ∧ KindsAt K C H p M ∧ Dp K H v d ∧ Q (.bl (isChangeD M d)) H
theorem ok_is_change (T : Top K mg) : FnOk P w K mg base (L2.CX P w) 6 T.is_change.a T.is_change.d ["kinds", "change"] (spChange K T.cKinds.c) := by
  refine T.is_change.f.okX sc_is_change (fun vs H Q E h => ?_) (fun cdv A outer s H vs Q E hr h => ?_)
  · obtain ⟨p, v, d, M, rfl, _⟩ := h
    rfl
  · obtain ⟨p, v, d, M, rfl, hk, hd, q⟩ := h
    refine ⟨_, (pss_cons ((ps_if (pt_not (PW.pt (pw_and (pt_val ((pe_callB call_isD (by rfl) T.bf.isinstance_ (by decide +kernel) (pa_cons (pv 1) (pa_cons (pe_bltn (v := .ty "tuple") (by rfl) T.bf.tuple_ (by decide +kernel) rfl) pa_nil))))) (pw_and1 (pt_cmpR (op_eq) ((pe_callB call_len_seq (by rfl) T.bf.len_ PySem.boot_len (pa_cons (pv 1) pa_nil))) (pe_int) (nomark _)))))) ((pss_one ((ps_ret (pe_bl))))) (pss_nil))) (pss_cons ((ps_asg (pv 1) (pg_tup rfl (pgs_cons (pg_name (i := 2) sc_is_change.nd rfl (Or.inl rfl)) (pgs_cons (pg_name (i := 3) sc_is_change.nd rfl (Or.inl rfl)) (pgs_cons (pg_name (i := 4) sc_is_change.nd rfl (Or.inl rfl)) (pgs_cons (pg_name (i := 5) sc_is_change.nd rfl (Or.inl rfl)) pgs_nil))))))) (pss_cons ((ps_if (pt_not (PW.pt (pw_and (pt_cmpR (op_ownIn (ok_Kinds_contains T) (hr.mono (by decide)) T.Kinds_contains.b pX T.Kinds_contains.i T.Kinds_contains.g) (pv 2) (pv 0) (by rfl)) (pw_and (pt_val ((pe_call (ok_is_whole T) (hr.mono (by decide)) (by rfl) T.is_whole.m T.is_whole.f.kp T.is_whole.b .nil pX (pa_cons (pv 3) pa_nil)))) (pw_and (pt_val ((pe_call (ok_is_whole T) (hr.mono (by decide)) (by rfl) T.is_whole.m T.is_whole.f.kp T.is_whole.b .nil pX (pa_cons (pv 5) pa_nil)))) (pw_and1 (pt_cmpR (op_ge) (pv 5) (pe_int) (nomark _)))))))) ((pss_one ((ps_ret (pe_bl))))) (pss_nil))) (pss_cons ((ps_if ((pt_val ((pe_call (ok_needs_letter T) (hr.mono (by decide)) (by rfl) T.needs_letter.m T.needs_letter.f.kp T.needs_letter.b .nil pX (pa_cons (pv 0) (pa_cons (pv 2) pa_nil)))))) ((pss_one ((ps_ret ((pe_call (ok_is_whole T) (hr.mono (by decide)) (by rfl) T.is_whole.m T.is_whole.f.kp T.is_whole.b .nil pX (pa_cons (pv 4) pa_nil))))))) (pss_nil))) (pss_one ((ps_ret ((pe_cmpR (op_isN) (pv 4) (pe_non) (nomark _)))))))))), ?_⟩
    refine ⟨v, rfl, v, _, d, _, rfl, hd, isi_tuple d, _, rfl, ?_⟩
    cases hd with
    | non => exact iteF (iteT q)
    | bl b => exact iteF (iteT q)
    | int n => exact iteF (iteT q)
    | str z => exact iteF (iteT q)
    | lst a b => exact iteF (iteT q)
    | @tup a xs ps hs ha =>
      refine iteT ⟨_, rfl, a, xs, rfl, .inr hs, rfl, _, rfl, ?_⟩
      have hl := all_len ha
      match ps, ha, q, hl with
      | [], .nil, q, hl => exact iteT (qb q (change_len (by simp)).symm)
      | [_], .cons _ .nil, q, hl => exact iteT (qb q (change_len (by simp)).symm)
      | [_, _], .cons _ (.cons _ .nil), q, hl => exact iteT (qb q (change_len (by simp)).symm)
      | [_, _, _], .cons _ (.cons _ (.cons _ .nil)), q, hl => exact iteT (qb q (change_len (by simp)).symm)
      | _ :: _ :: _ :: _ :: _ :: _, .cons _ (.cons _ (.cons _ (.cons _ (.cons _ _)))), q, hl =>
        refine ite2 (fun _ => qb q (change_len (by simp)).symm) fun c => ?_
        refine absurd ?_ c
        simp only [List.length_cons]
        simp
        omega
      | [n, p', l, h'], .cons (v := xn) hn (.cons (v := xp) hp' (.cons (v := xl) hl' (.cons (v := xh) hh .nil))), q, hl =>
        obtain ⟨dx, D, hp, hD, hg⟩ := id hk
        refine iteF ⟨_, rfl, a, _, rfl, hs, rfl, _, _, rfl, _, _, rfl, _, _, rfl, _, _, rfl, rfl, ?_⟩
        have fin : isChangeD M (.tuple [n, p', l, h']) = ((findE M n).isSome && (isIntD p' && (isIntD h' && (nonnegD h' && (if needsD M n = true then isIntD l else noneD l))))) := rfl
        refine ⟨_, rfl, _, rfl, p, dx, _, rfl, hp, p, xn, n, M, rfl, hk, hn, _, rfl, _, rfl, ?_⟩
        refine ite2 (fun c1 => ?_) (fun c1 => ?_)
        · have c1 : (findE M n).isSome = true := by simpa using c1
          refine ⟨_, rfl, xp, p', rfl, hp', _, rfl, ?_⟩
          refine ite2 (fun c2 => ?_) (fun c2 => ?_)
          · refine ⟨_, rfl, xh, h', rfl, hh, _, rfl, ?_⟩
            refine ite2 (fun c3 => ?_) (fun c3 => ?_)
            · cases hh with
              | int m =>
                refine ⟨_, rfl, _, _, rfl, rfl, _, rfl, ?_⟩
                refine ite2 (fun c4 => ?_) (fun c4 => ?_)
                · have hm : decide (0 ≤ m) = false := by simpa using c4
                  refine qb q ?_
                  have : nonnegD (.int m) = false := hm
                  rw [fin, this]
                  simp
                · have hm : 0 ≤ m := by simpa using c4
                  obtain ⟨x, hx⟩ := Option.isSome_iff_exists.mp c1
                  obtain ⟨e, em, rfl, rfl⟩ := findE_some hx
                  cases hn
                  obtain ⟨wd, ps, ed, _, _, _⟩ := kind_form (hg e em)
                  have hrow := (rowD_of hD.ok.nd em ed).1
                  have nn : needsD M (.str e.1) = hasNewD ps := by
                    show hasNewD (rowD M e.1) = _
                    rw [hrow]
                  refine ⟨_, rfl, _, rfl, p, M, e, rfl, hk, em, fun w' ps' ed' => ?_⟩
                  rw [ed] at ed'
                  cases ed'
                  refine ⟨_, rfl, ?_⟩
                  have fin2 : isChangeD M (.tuple [.str e.1, p', l, .int m]) = (if hasNewD ps = true then isIntD l else noneD l) := by
                    rw [fin, c1, c2, nn]
                    have : nonnegD (.int m) = true := decide_eq_true hm
                    rw [this]
                    rfl
                  refine ite2 (fun c5 => ?_) (fun c5 => ?_)
                  · refine ⟨_, rfl, xl, l, rfl, hl', qb q ?_⟩
                    rw [fin2, if_pos c5]
                  · refine ⟨_, rfl, rfl, qb q ?_⟩
                    rw [fin2, if_neg c5]
                    cases hl' <;> rfl
              | non => exact absurd c3 (by simp [isIntD])
              | bl b => exact absurd c3 (by simp [isIntD])
              | str z => exact absurd c3 (by simp [isIntD])
              | lst a b => exact absurd c3 (by simp [isIntD])
              | tup a b => exact absurd c3 (by simp [isIntD])
            · have c3 : isIntD h' = false := by simpa using c3
              exact iteT (qb q (by rw [fin, c3]; simp))
          · have c2 : isIntD p' = false := by simpa using c2
            exact iteT (qb q (by rw [fin, c2]; simp))
        · have c1 : (findE M n).isSome = false := by simpa using c1
          exact iteT (qb q (by rw [fin, c1]; simp))
end
end K41

end

section
set_option Elab.async false
set_option linter.all false
set_option maxRecDepth 100000
set_option maxHeartbeats 4000000
/-! Lists of changes. -/
namespace K41
open PySem PySem.Spec PyProof.Rows L2 KX
theorem seq_val {K : PySem.W.Frag} {H : Hp} {v : V} {d : PyData} {ds : List PyData} (h : Dp K H v d) (e : d = .list ds ∨ d = .tuple ds) : ∃ a xs, v = .ref a ∧ (SqL K H a xs ∨ SqT K H a xs) ∧ DpAll K H xs ds := by
  rcases e with rfl | rfl
  · cases h with
    | lst h a => exact ⟨_, _, rfl, .inl h, a⟩
  · cases h with
    | tup h a => exact ⟨_, _, rfl, .inr h, a⟩
def okC (M : List Ent) (d : PyData) : Bool := noneD d || isChangeD M d
def badC (M : List Ent) : Nat → List PyData → Option Nat
  | _, [] => none
  | i, d :: r => if okC M d = true then badC M (i + 1) r else some i
theorem badC_ok {M : List Ent} {i : Nat} {d : PyData} {r : List PyData} (h : okC M d = true) : badC M i (d :: r) = badC M (i + 1) r := by
  show (if _ then _ else _) = _
  rw [if_pos h]
theorem badC_no {M : List Ent} {i : Nat} {d : PyData} {r : List PyData} (h : okC M d = false) : badC M i (d :: r) = some i := by
  show (if _ then _ else _) = _
  rw [h]
  rfl
theorem drop_ix {α : Type} {l : List α} {i : Nat} {x : α} (h : l[i]? = some x) : l.drop i = x :: l.drop (i + 1) := by
  have hi := (List.getElem?_eq_some_iff.mp h).1
  rw [List.drop_eq_getElem_cons hi]
  congr 1
  exact (List.getElem?_eq_some_iff.mp h).2
theorem any_seq {K : PySem.W.Frag} {t : String} {b1 b2 : Bool} (h1 : kitB t "list" = some b1) (h2 : kitB t "tuple" = some b2) : PySem.W.kitAny K (.type t) [.type "list", .type "tuple"] = some (b1 || b2) := by
  show (match PySem.W.kitOne K (.type t) (.type "list") with | some true => some true | some false => PySem.W.kitAny K (.type t) [.type "tuple"] | none => none) = _
  rw [kit_ty h1]
  cases b1 with
  | true => rfl
  | false =>
    show (match PySem.W.kitOne K (.type t) (.type "tuple") with | some true => some true | some false => PySem.W.kitAny K (.type t) [] | none => none) = _
    rw [kit_ty h2]
    cases b2 <;> rfl
section
variable {P : Program} {w : World} {K : PySem.W.Frag} {mg : Str → Option Value} {base : Heap}
def NoSeq (H : Hp) (v : V) : Prop := (∃ n, v = .int n) ∨ ∃ a kvs, v = .ref a ∧ H a = some (.dK kvs)
theorem NoSeq.ty {K : PySem.W.Frag} {H : Hp} {v : V} (h : NoSeq H v) : ∃ t, TyX K H v (.type t) ∧ PySem.W.kitAny K (.type t) [.type "list", .type "tuple"] = some false := by
  rcases h with ⟨n, rfl⟩ | ⟨a, kvs, rfl, ha⟩
  · exact ⟨_, .base (.int n), any_seq (b1 := false) (b2 := false) (by decide +kernel) (by decide +kernel)⟩
  · exact ⟨_, .base (.dK ha), any_seq (b1 := false) (b2 := false) (by decide +kernel) (by decide +kernel)⟩
theorem NoSeq.same {H H' : Hp} {v : V} (h : NoSeq H v) (s : Same H H') : NoSeq H' v := by
  rcases h with h | ⟨a, kvs, h1, h2⟩
  · exact .inl h
  · exact .inr ⟨a, kvs, h1, s _ _ h2⟩
theorem seq_ty {K : PySem.W.Frag} {H : Hp} {a : Addr} {xs : List V} (h : SqL K H a xs ∨ SqT K H a xs) : ∃ t, TyX K H (.ref a) (.type t) ∧ PySem.W.kitAny K (.type t) [.type "list", .type "tuple"] = some true := by
  rcases h with h | h
  · exact ⟨_, sqL_ty h, any_seq (b1 := true) (b2 := false) (by decide +kernel) (by decide +kernel)⟩
  · exact ⟨_, sqT_ty h, any_seq (b1 := false) (b2 := true) (by decide +kernel) (by decide +kernel)⟩
theorem seq_same {K : PySem.W.Frag} {H H' : Hp} {a : Addr} {xs : List V} (s : Same H H') (h : SqL K H a xs ∨ SqT K H a xs) : SqL K H' a xs ∨ SqT K H' a xs := h.elim (fun h => .inl (s.seq h)) fun h => .inr (sqT_same s h)
theorem dpAll_same {K : PySem.W.Frag} {H H' : Hp} {xs : List V} {ds : List PyData} (s : Same H H') (h : DpAll K H xs ds) : DpAll K H' xs ds := dpAll_ext s h
theorem all_at : ∀ {K : PySem.W.Frag} {H : Hp} {xs : List V} {ds : List PyData}, DpAll K H xs ds → ∀ (i : Nat) (x : V), xs[i]? = some x → ∃ d, ds[i]? = some d ∧ Dp K H x d
  | _, _, _, _, .nil, i, x, h => by simp at h
  | _, _, _, _, .cons h t, 0, x, hx => by
    simp at hx
    subst hx
    exact ⟨_, rfl, h⟩
  | _, _, _, _, .cons h t, i + 1, x, hx => by
    obtain ⟨d, h1, h2⟩ := all_at t i x (by simpa using hx)
    exact ⟨d, by simpa using h1, h2⟩
theorem none_eq {K : PySem.W.Frag} {H : Hp} {v : V} {d : PyData} (h : Dp K H v d) : decide (v = V.non) = noneD d := by
  cases h <;> rfl
def SeqD (K : PySem.W.Frag) (H : Hp) (v : V) (ds : List PyData) : Prop := ∃ d, Dp K H v d ∧ (d = .list ds ∨ d = .tuple ds)
theorem SeqD.same {H H' : Hp} {v : V} {ds : List PyData} (h : SeqD K H v ds) (s : Same H H') : SeqD K H' v ds := let ⟨d, h1, h2⟩ := h; ⟨d, dp_same s h1, h2⟩
def spCheckChanges (K : PySem.W.Frag) (C B : Addr) : Sp := fun vs H Q E => ∃ p v M, vs = [.ref p, v] ∧ KindsAt K C H p M ∧ ((NoSeq H v ∧ Raises1 H E B "place" .non) ∨
  ∃ ds, SeqD K H v ds ∧ match badC M 0 ds with
    | some i => Raises1 H E B "place" (.int (i : Nat))
    | none => ∀ H', Same H H' → Q .non H')
theorem ok_check_changes (T : Top K mg) : FnOk P w K mg base (L2.CX P w) 7 T.check_changes.a T.check_changes.d ["kinds", "changes"] (spCheckChanges K T.cKinds.c T.cBadChange.c) := by
  refine T.check_changes.f.okX sc_check_changes (fun vs H Q E h => ?_) (fun cdv A outer s H vs Q E hr h => ?_)
  · obtain ⟨p, v, M, rfl, _⟩ := h
    rfl
  · obtain ⟨p, v, M, rfl, hk, h⟩ := h
    refine ⟨_, (pss_cons ((ps_if (pt_not (pt_val ((pe_callB call_isiT (by rfl) T.bf.isinstance_ (by decide +kernel) (pa_cons (pv 1) (pa_cons (pe_tup (pa_cons (pe_bltn (v := .ty "list") (by rfl) T.bf.list_ (by decide +kernel) rfl) (pa_cons (pe_bltn (v := .ty "tuple") (by rfl) T.bf.tuple_ (by decide +kernel) rfl) pa_nil))) pa_nil)))))) ((pss_one ((ps_raise rfl (takes_of rfl rfl rfl rfl) (pmk_oex T.oBadChange T.BadChange_init.i (fnTy T.BadChange_init.g) (ok_BadChange_init T) (hr.mono (by decide)) T.BadChange_init.b .nil pF (by rfl) T.cBadChange.m (pa_cons (pe_non) pa_nil)))))) (pss_nil))) (pss_one ((ps_for pO rfl (pi_enumT (by rfl) T.bf.enumerate_ (pa_cons (pv 1) pa_nil)) (pg_tup rfl (pgs_cons (pg_name (i := 2) sc_check_changes.nd rfl (Or.inl rfl)) (pgs_cons (pg_name (i := 3) sc_check_changes.nd rfl (Or.inl rfl)) pgs_nil))) ((pss_one ((ps_if (PW.pt (pw_and (pt_cmpR (op_notN) (pv 3) (pe_non) (nomark _)) (pw_and1 (pt_not (pt_val ((pe_call (ok_is_change T) (hr.mono (by decide)) (by rfl) T.is_change.m T.is_change.f.kp T.is_change.b .nil pX (pa_cons (pv 0) (pa_cons (pv 3) pa_nil))))))))) ((pss_one ((ps_raise rfl (takes_of rfl rfl rfl rfl) (pmk_oex T.oBadChange T.BadChange_init.i (fnTy T.BadChange_init.g) (ok_BadChange_init T) (hr.mono (by decide)) T.BadChange_init.b .nil pF (by rfl) T.cBadChange.m (pa_cons (pv 2) pa_nil)))))) (pss_nil))))))))), ?_⟩
    have cls : Paired ClsV [V.ty "list", .ty "tuple"] [Value.type "list", .type "tuple"] := .cons (.ty _) (.cons (.ty _) .nil)
    refine ⟨_, rfl, by show 2 ≤ sizeLine; decide, fun tp htp => ?_⟩
    have s1 : Same H (upd H tp (.tup [.ty "list", .ty "tuple"])) := same_upd (Same.refl H) htp
    rcases h with ⟨hno, hR⟩ | ⟨ds, hs, hm⟩
    · obtain ⟨t, ht, kb⟩ := (hno.same s1).ty (K := K)
      exact ⟨v, tp, _, _, _, false, rfl, upd_same, cls, ht, kb, _, rfl, iteT (mk_low (hR.same s1))⟩
    · obtain ⟨d, hd, ed⟩ := hs.same s1
      obtain ⟨a, xs, rfl, hsq, ha⟩ := seq_val hd ed
      have hl := all_len ha
      obtain ⟨t, ht, kb⟩ := seq_ty hsq
      generalize hH2 : upd H tp (.tup [.ty "list", .ty "tuple"]) = H2 at s1 hd hsq ha ht
      have htp2 : H2 tp = some (.tup [.ty "list", .ty "tuple"]) := by rw [← hH2, upd_same]
      refine ⟨_, tp, _, _, _, true, rfl, htp2, cls, ht, kb, _, rfl, iteF ?_⟩
      refine ⟨_, rfl, a, xs, rfl, hsq, fun J G wk hG => for_it wk (fun i σ H3 => (∃ x2 x3, σ = [some (.ref p), some (.ref a), x2, x3]) ∧ Same H2 H3 ∧ badC M 0 ds = badC M i (ds.drop i)) ⟨⟨_, _, rfl⟩, Same.refl H2, rfl⟩
        (fun i σ H3 _ q => hG H3 q.2.1) ?turn ?after⟩
      case turn =>
        rintro i x σ H3 H3' hi ⟨⟨x2, x3, rfl⟩, s3, hf⟩ ⟨Tp, y0, y1, rfl, hT, rfl, e0, e1⟩
        cases e0
        have s4 : Same H3 (upd H3 Tp (.tup [.int (i : Nat), y1])) := same_upd (Same.refl H3) hT
        refine ⟨Tp, _, rfl, SqT.of upd_same, rfl, _, _, rfl, _, _, rfl, rfl, ?_⟩
        generalize upd H3 Tp (.tup [.int (i : Nat), y1]) = H4 at s4 ⊢
        have s24 := s3.trans s4
        have s04 := s1.trans s24
        obtain ⟨di, hdi, hy⟩ := all_at (dpAll_same s24 ha) i y1 e1
        have hcons := drop_ix hdi
        rw [hcons] at hf
        have ne := none_eq hy
        refine ⟨_, rfl, rfl, _, rfl, ?_⟩
        rw [ne]
        have bad : okC M di = false → Raises1 H4 E T.cBadChange.c "place" (.int (i : Nat)) := fun h => by
          have fb := hf.trans (badC_no h)
          rw [fb] at hm
          exact hm.same s04
        have good : okC M di = true → badC M 0 ds = badC M (i + 1) (ds.drop (i + 1)) := fun h => hf.trans (badC_ok h)
        cases e : noneD di with
        | true => exact iteF ⟨⟨_, _, rfl⟩, s24, good (by unfold okC; rw [e]; rfl)⟩
        | false =>
          refine iteT ⟨_, rfl, _, rfl, p, y1, di, M, rfl, hk.same s04, hy, _, rfl, ?_⟩
          cases e2 : isChangeD M di with
          | true => exact iteF ⟨⟨_, _, rfl⟩, s24, good (by unfold okC; rw [e, e2]; rfl)⟩
          | false => exact iteT ⟨_, rfl, mk_low (bad (by unfold okC; rw [e, e2]; rfl))⟩
      case after =>
        rintro σ H3 ⟨⟨x2, x3, rfl⟩, s3, hf⟩
        have fb : badC M 0 ds = none := by
          rw [hf, hl, List.drop_length]
          rfl
        rw [fb] at hm
        exact hm H3 (s1.trans s3)
end
end K41

end

section
set_option Elab.async false
set_option linter.all false
set_option maxRecDepth 100000
set_option maxHeartbeats 4000000
/-! A change is done. -/
namespace K41
open PySem PySem.Spec PyProof.Rows L2 KX
/-- a text of whole numbers -/
def TextAt (K : PySem.W.Frag) (H : Hp) (v : V) (t : List Int) : Prop := ∃ a, v = .ref a ∧ SqT K H a (t.map V.int)
theorem TextAt.same {K : PySem.W.Frag} {H H' : Hp} {v : V} {t : List Int} (h : TextAt K H v t) (s : Same H H') : TextAt K H' v t := let ⟨a, h1, h2⟩ := h; ⟨a, h1, sqT_same s h2⟩
theorem ints_all {K : PySem.W.Frag} {H : Hp} : ∀ t : List Int, DpAll K H (t.map V.int) (t.map PyData.int)
  | [] => .nil
  | n :: r => .cons (.int n) (ints_all r)
theorem TextAt.dp {K : PySem.W.Frag} {H : Hp} {v : V} {t : List Int} (h : TextAt K H v t) : Dp K H v (.tuple (t.map .int)) := by
  obtain ⟨a, rfl, h⟩ := h
  exact .tup h (ints_all t)
def memD : PyData → List Int → Bool
  | .int n, t => decide (n ∈ t)
  | _, _ => false
def canD (w : Int) (t : List Int) (p : Int) (l : PyData) : Bool := decide (0 ≤ p) && (decide (p ≤ (t.length : Int) - w) && !memD l t)
def partVal (t : List Int) (p : Int) (l : PyData) : PyData → Int
  | .str _ => match l with
    | .int n => n
    | _ => 0
  | .int k => (t[(p + k).toNat]?).getD 0
  | _ => 0
def behindD (t : List Int) (ps : List PyData) (w p : Int) (l : PyData) : List Int := t.take p.toNat ++ (ps.map (partVal t p l) ++ t.drop (p + w).toNat)
theorem in_text : ∀ {x : V} {l : PyData} (t : List Int), (x = .non ∧ l = .none ∨ ∃ n, x = .int n ∧ l = .int n) → inV x (t.map V.int) = memD l t := fun {x l} t h => by
  unfold inV
  rcases h with ⟨rfl, rfl⟩ | ⟨n, rfl, rfl⟩
  · show _ = false
    rw [List.any_map]
    exact List.any_eq_false.mpr fun y _ => by simp [eqV]
  · show _ = decide (n ∈ t)
    rw [List.any_map]
    by_cases e : n ∈ t
    · rw [decide_eq_true e]
      exact List.any_eq_true.mpr ⟨n, e, by simp [eqV]⟩
    · rw [decide_eq_false e]
      exact List.any_eq_false.mpr fun y hy => by
        intro z
        have z : (y == n) = true := z
        rw [beq_iff_eq] at z
        exact e (z ▸ hy)
theorem flat_ints : ∀ t : List Int, (t.map V.int).all flatV = true
  | [] => rfl
  | n :: r => by rw [List.map_cons, List.all_cons, flat_ints r]; rfl
section
variable {P : Program} {w : World} {K : PySem.W.Frag} {mg : Str → Option Value} {base : Heap}
/-- a change of the entry e, done or not -/
structure ChangeAt (K : PySem.W.Frag) (H : Hp) (v : V) (z : Str) (p : Int) (l : PyData) (h : V) : Prop where
  here : ∃ a x, v = .ref a ∧ SqT K H a [.str z, .int p, x, h] ∧ (x = .non ∧ l = .none ∨ ∃ n, x = .int n ∧ l = .int n)
theorem ChangeAt.same {H H' : Hp} {v : V} {z : Str} {p : Int} {l : PyData} {h : V} (c : ChangeAt K H v z p l h) (s : Same H H') : ChangeAt K H' v z p l h := let ⟨a, x, h1, h2, h3⟩ := c.here; ⟨a, x, h1, sqT_same s h2, h3⟩
def spCan (K : PySem.W.Frag) (C : Addr) : Sp := fun vs H Q _ => ∃ p v vc M t e pl l h wd ps, vs = [.ref p, v, vc] ∧ KindsAt K C H p M ∧ TextAt K H v t ∧ e ∈ M ∧ e.2.2 = .tuple [.int wd, .tuple ps] ∧ ChangeAt K H vc e.1 pl l h ∧ Q (.bl (canD wd t pl l)) H
theorem ok_can_do (T : Top K mg) : FnOk P w K mg base (L2.CX P w) 5 T.can_do.a T.can_do.d ["kinds", "text", "change"] (spCan K T.cKinds.c) := by
  refine T.can_do.f.okX sc_can_do (fun vs H Q E h => ?_) (fun cdv A outer s H vs Q E hr h => ?_)
  · obtain ⟨p, v, vc, _, _, _, _, _, _, _, _, rfl, _⟩ := h
    rfl
  · obtain ⟨p, v, vc, M, t, e, pl, l, h, wd, ps, rfl, hk, ⟨b, rfl, hb⟩, em, ed, ⟨a, x, rfl, hc, hx⟩, q⟩ := h
    refine ⟨_, (pss_cons ((ps_asg (pv 2) (pg_tup rfl (pgs_cons (pg_name (i := 3) sc_can_do.nd rfl (Or.inl rfl)) (pgs_cons (pg_name (i := 4) sc_can_do.nd rfl (Or.inl rfl)) (pgs_cons (pg_name (i := 5) sc_can_do.nd rfl (Or.inl rfl)) (pgs_cons (pg_name (i := 6) sc_can_do.nd rfl (Or.inl rfl)) pgs_nil))))))) (pss_one ((ps_ret (pe_and (pe_chain op_le op_le pe_int (pv 4) (pe_op (op_sub) ((pe_callB call_len_seq (by rfl) T.bf.len_ PySem.boot_len (pa_cons (pv 1) pa_nil))) ((pe_ix (ix_tup) ((pe_ownIx (ok_Kinds_getitem T) (hr.mono (by decide)) T.Kinds_getitem.b pX T.Kinds_getitem.i T.Kinds_getitem.g T.kf.fn (pv 0) (pv 3) (fun _ _ => rfl))) (pe_int) (fun _ _ => rfl))))) (pe_one (pe_cmpR (op_notIn_seq) (pv 5) (pv 1) (by rfl)))))))), ?_⟩
    obtain ⟨dx, D, hp, hD, hg⟩ := id hk
    have fe := findE_of hD.ok.nd em
    have dp := hD.ok.dp e em
    rw [ed] at dp
    obtain ⟨ka, kb, xs, rx, h1, h2, h3⟩ := kind_val dp
    refine ⟨_, rfl, a, _, rfl, hc, rfl, _, _, rfl, _, _, rfl, _, _, rfl, _, _, rfl, rfl, ?_⟩
    refine ⟨_, rfl, _, _, rfl, rfl, _, rfl, ?_⟩
    have fin : canD wd t pl l = (decide (0 ≤ pl) && (decide (pl ≤ (t.length : Int) - wd) && !memD l t)) := rfl
    refine ite2 (fun c1 => ?_) (fun c1 => ?_)
    · refine ⟨_, rfl, b, _, rfl, .inr hb, ?_⟩
      refine ⟨_, rfl, _, rfl, p, dx, _, rfl, hp, p, _, .str e.1, M, rfl, hk, .str _, fun y ey => ?_, fun z => by rw [fe] at z; cases z⟩
      rw [fe] at ey
      cases ey
      rw [rx]
      refine ⟨ka, _, 0, _, rfl, rfl, h1, rfl, _, _, rfl, rfl, _, _, rfl, rfl, _, rfl, ?_⟩
      rw [List.length_map]
      refine ite2 (fun c2 => ?_) (fun c2 => ?_)
      · have fx : flatV x = true := by
          rcases hx with ⟨rfl, _⟩ | ⟨n, rfl, _⟩ <;> rfl
        refine ⟨_, rfl, _, rfl, b, _, rfl, .inr hb, fx, flat_ints t, ?_⟩
        refine qb q ?_
        rw [fin, c1, c2, if_pos rfl, in_text t hx]
        rfl
      · have c2 : decide (pl ≤ (t.length : Int) - wd) = false := by simpa using c2
        exact qb q (by rw [fin, c2]; simp)
    · have c1 : decide (0 ≤ pl) = false := by simpa using c1
      exact ⟨_, rfl, iteF (qb q (by rw [fin, c1]; simp))⟩
end
end K41

end

section
set_option Elab.async false
set_option linter.all false
set_option maxRecDepth 100000
set_option maxHeartbeats 4000000
/-! The text behind a change. -/
namespace K41
open PySem PySem.Spec PyProof.Rows L2 KX
theorem slA_of {K : PySem.W.Frag} {H : Hp} {a : Addr} {xs : List V} {lo hi : Option Int} {Q : VK} (h : SqT K H a xs) (q : ∀ b H', Same H H' → SqT K H' b (cutV xs lo hi) → Q (.ref b) H') : rSlA K (.ref a) lo hi H Q := by
  refine ⟨a, xs, rfl, h, fun ⟨h1, h2⟩ => q a H (Same.refl H) ?_, fun _ p hp => q p _ (same_upd (Same.refl H) hp) (SqT.of upd_same)⟩
  have e : cutV xs lo hi = xs := by
    unfold cutV
    rw [h1, h2]
    simp
  rw [e]
  exact h
theorem cut_drop {xs : List V} {i : Nat} : cutV xs (some (i : Nat)) none = xs.drop i := by
  unfold cutV
  rw [HT.sIx_none, HT.sIx_nat]
  by_cases h : i ≤ xs.length
  · rw [Nat.min_eq_left h, List.take_of_length_le (by rw [List.length_drop]; omega)]
  · rw [Nat.min_eq_right (by omega), List.drop_length, List.drop_eq_nil_of_le (by omega)]
    simp
def putV (t : List Int) (pl : Int) (x : V) : V → V
  | .str _ => x
  | .int k => .int ((t[(pl + k).toNat]?).getD 0)
  | _ => .non
theorem put_eq {K : PySem.W.Frag} {H : Hp} {wd pl : Int} {t : List Int} {x : V} {l : PyData} : ∀ {xs : List V} {ps : List PyData}, DpAll K H xs ps → ps.all (isPartD wd) = true → (hasNewD ps = true → ∃ n, x = .int n ∧ l = .int n) → xs.map (putV t pl x) = (ps.map (partVal t pl l)).map V.int
  | _, _, .nil, _, _ => rfl
  | _, _, .cons h tl, e, g => by
    rw [List.all_cons, Bool.and_eq_true] at e
    have ih := put_eq (t := t) (pl := pl) tl e.2 fun z => g (by rw [hasNew_cons, z, Bool.or_true])
    rw [List.map_cons, List.map_cons, List.map_cons, ih]
    congr 1
    obtain ⟨e1, _⟩ := e
    cases h with
    | str z =>
      have en : newD (.str z) = true := e1
      obtain ⟨n, rfl, rfl⟩ := g (by rw [hasNew_cons, en]; rfl)
      rfl
    | int k => rfl
    | non => simp [isPartD] at e1
    | bl b => simp [isPartD] at e1
    | lst a b => simp [isPartD] at e1
    | tup a b => simp [isPartD] at e1
section
variable {P : Program} {w : World} {K : PySem.W.Frag} {mg : Str → Option Value} {base : Heap}
def spBehind (K : PySem.W.Frag) (C : Addr) : Sp := fun vs H Q _ => ∃ p v vc M t e pl l h wd ps, vs = [.ref p, v, vc] ∧ KindsAt K C H p M ∧ TextAt K H v t ∧ e ∈ M ∧ e.2.2 = .tuple [.int wd, .tuple ps] ∧ ChangeAt K H vc e.1 pl l h ∧ t.length ≤ 700 ∧ 0 ≤ pl ∧ pl ≤ (t.length : Int) - wd ∧
  (hasNewD ps = true → isIntD l = true) ∧ ∀ b H', Same H H' → TextAt K H' (.ref b) (behindD t ps wd pl l) → Q (.ref b) H'
theorem ok_text_behind (T : Top K mg) : FnOk P w K mg base (L2.CX P w) 5 T.text_behind.a T.text_behind.d ["kinds", "text", "change"] (spBehind K T.cKinds.c) := by
  refine T.text_behind.f.okX sc_text_behind (fun vs H Q E h => ?_) (fun cdv A outer s H vs Q E hr h => ?_)
  · obtain ⟨p, v, vc, _, _, _, _, _, _, _, _, rfl, _⟩ := h
    rfl
  · obtain ⟨p, v, vc, M, t, e, pl, l, h, wd, ps, rfl, hk, ⟨b, rfl, hb⟩, em, ed, ⟨a, x, rfl, hc, hx⟩, sm, p0, p1, hn, q⟩ := h
    refine ⟨_, (pss_cons ((ps_asg (pv 2) (pg_tup rfl (pgs_cons (pg_name (i := 3) sc_text_behind.nd rfl (Or.inl rfl)) (pgs_cons (pg_name (i := 4) sc_text_behind.nd rfl (Or.inr rfl)) (pgs_cons (pg_name (i := 5) sc_text_behind.nd rfl (Or.inr rfl)) (pgs_cons (pg_name (i := 6) sc_text_behind.nd rfl (Or.inl rfl)) pgs_nil))))))) (pss_cons ((ps_asg ((pe_ownIx (ok_Kinds_getitem T) (hr.mono (by decide)) T.Kinds_getitem.b pX T.Kinds_getitem.i T.Kinds_getitem.g T.kf.fn (pv 0) (pv 3) (fun _ _ => rfl))) (pg_tup rfl (pgs_cons (pg_name (i := 7) sc_text_behind.nd rfl (Or.inl rfl)) (pgs_cons (pg_name (i := 8) sc_text_behind.nd rfl (Or.inl rfl)) pgs_nil))))) (pss_cons ((ps_setLc (i := 9) (own := [("part", 10)]) (g := gName 10) (tt := tYes) (by rfl) sc_text_behind.nd rfl rfl (sw_true rfl rfl rfl (by decide +kernel)) (pi_tup (pv 8)) (blkOk_by (N := n_text_behind) (sc := defScope s_text_behind) (by decide +kernel)) (fun _ _ _ _ _ => pg_name (i := 10) sc_text_behind.nd rfl (Or.inl rfl)) (fun _ _ _ _ _ => pts_nil) (fun _ _ _ _ _ => pe_ifExp (pt_cmpR (op_eq) (pv 10) (pe_str) (nomark _)) (pv 5) (pe_ix ((show IxR _ (rIxT K) from ix_tup)) (pv 1) ((pe_op (op_add) (pv 4) (pv 10))) (fun _ _ => rfl))))) (pss_one ((ps_ret (pe_tup (StX.pa_star (pe_slice sl_tupA (pv 1) po_none (po_some (pv 4))) (StX.pa_star (pv 9) (StX.pa_star (pe_slice sl_tupA (pv 1) (po_some (pe_op (op_add) (pv 4) (pv 7))) po_none) pa_nil)))))))))), ?_⟩
    obtain ⟨dx, D, hp, hD, hg⟩ := id hk
    have fe := findE_of hD.ok.nd em
    have dp := hD.ok.dp e em
    have sml := hD.ok.sm e em
    obtain ⟨wd', ps', ed', hw0, hw2, hrow⟩ := kind_form (hg e em)
    rw [ed] at ed'
    cases ed'
    rw [ed] at dp sml
    have sml : ps.length ≤ 100 := sml
    obtain ⟨ka, kb, xs, rx, h1, h2, h3⟩ := kind_val dp
    have hl := all_len h3
    refine ⟨_, rfl, a, _, rfl, hc, rfl, _, _, rfl, _, _, rfl, _, _, rfl, _, _, rfl, rfl, ?_⟩
    refine ⟨_, rfl, _, rfl, p, dx, _, rfl, hp, p, _, .str e.1, M, rfl, hk, .str _, fun y ey => ?_, fun z => by rw [fe] at z; cases z⟩
    rw [fe] at ey
    cases ey
    rw [rx]
    refine ⟨ka, _, rfl, h1, rfl, _, _, rfl, _, _, rfl, rfl, ?_⟩
    have hln : hasNewD ps = true → ∃ n, x = .int n ∧ l = .int n := fun z => by
      rcases hx with ⟨_, rfl⟩ | hx
      · exact absurd (hn z) (by simp [isIntD])
      · exact hx
    obtain ⟨pn, rfl⟩ := Int.eq_ofNat_of_zero_le p0
    obtain ⟨wn, rfl⟩ := Int.eq_ofNat_of_zero_le hw0
    refine ⟨_, rfl, kb, rfl, ⟨_, h2⟩, fun D2 hD2 => lc_mapT (xs := xs) (i := 10) (putV t (pn : Nat) x) (Same.refl H) h2 hD2 (by omega) (fun _ => rfl) (fun y hy H1 s1 Q1 q1 => ?_) fun H1 s1 hD1 => ?_⟩
    · obtain ⟨dy, hdm, hdy⟩ := all_get h3 y hy
      have hpart := List.all_eq_true.mp (row_parts hrow) dy hdm
      cases hdy with
      | str z =>
        refine ⟨_, rfl, rfl, _, rfl, ?_⟩
        have en : z = "new" := of_decide_eq_true hpart
        subst en
        refine iteT ⟨_, rfl, q1 H1 (Same.refl H1)⟩
      | int k =>
        have hk2 : 0 ≤ k ∧ k < (wn : Int) := by
          have hpart : (decide (0 ≤ k) && decide (k < (wn : Int))) = true := hpart
          simpa using hpart
        obtain ⟨kn, rfl⟩ := Int.eq_ofNat_of_zero_le hk2.1
        have hlt : pn + kn < t.length := by omega
        have e1 : ((pn : Int) + (kn : Int)) = ((pn + kn : Nat) : Int) := by omega
        refine ⟨_, rfl, rfl, _, rfl, iteF ?_⟩
        refine ⟨_, rfl, _, rfl, _, rfl, _, _, rfl, rfl, b, _, _, V.int t[pn + kn], rfl, rfl, sqT_same s1 hb, ?_, ?_⟩
        · rw [e1]
          refine atI_nat ?_
          rw [List.getElem?_map, List.getElem?_eq_getElem hlt]
          rfl
        · have := q1 H1 (Same.refl H1)
          show Q1 _ H1
          have e2 : putV t (pn : Nat) x (.int (kn : Nat)) = V.int t[pn + kn] := by
            show V.int _ = _
            rw [e1, Int.toNat_natCast, List.getElem?_eq_getElem hlt]
            rfl
          rw [← e2]
          exact this
      | non => simp [isPartD] at hpart
      | bl b => simp [isPartD] at hpart
      | lst a b => simp [isPartD] at hpart
      | tup a b => simp [isPartD] at hpart
    · rw [put_eq (t := t) (pl := (pn : Nat)) h3 (row_parts hrow) hln] at hD1
      have sb1 := sqT_same s1 hb
      have hlt : (t.map V.int).length = t.length := List.length_map _
      refine ⟨_, rfl, _, rfl, _, rfl, slA_of sb1 fun b1 H2 s2 hb2 => ?_⟩
      rw [cut_take (by omega)] at hb2
      refine ⟨b1, _, rfl, .inl hb2, _, rfl, D2, _, rfl, .inr (SqL.of (s2 _ _ hD1)), ?_⟩
      refine ⟨_, rfl, ⟨_, rfl, _, rfl, _, _, rfl, rfl, _, rfl, ?_⟩⟩
      simp only [tNoPart]
      refine slA_of (sqT_same s2 sb1) fun b3 H3 s3 hb3 => ?_
      have e1 : ((pn : Int) + (wn : Int)) = ((pn + wn : Nat) : Int) := by omega
      rw [e1, cut_drop] at hb3
      have ey : (t.map V.int).take pn ++ ((ps.map (partVal t (pn : Nat) l)).map V.int ++ (t.map V.int).drop (pn + wn)) = (behindD t ps (wn : Nat) (pn : Nat) l).map V.int := by
        unfold behindD
        rw [e1, Int.toNat_natCast, Int.toNat_natCast, List.map_append, List.map_append, List.map_take, List.map_drop]
      refine ⟨b3, _, rfl, .inl hb3, ?_, fun p4 hp4 => ?_⟩
      · rw [List.append_nil, ey, List.length_map]
        unfold behindD
        rw [List.length_append, List.length_append, List.length_take, List.length_map, List.length_drop]
        exact small (by omega)
      · rw [List.append_nil, ey]
        exact q p4 _ ((s1.trans s2).trans (s3.trans (same_upd (Same.refl H3) hp4))) ⟨p4, rfl, SqT.of upd_same⟩
end
end K41

end

section
set_option Elab.async false
set_option linter.all false
set_option maxRecDepth 100000
set_option maxHeartbeats 4000000
/-! Changes are done. -/
namespace K41
open PySem PySem.Spec PyProof.Rows L2 KX
def stepD (M : List Ent) (t : List Int) : PyData → Option (List Int)
  | .tuple [.str z, .int p, l, _] => if canD (widthD M z) t p l = true then some (behindD t (rowD M z) (widthD M z) p l) else none
  | _ => some t
def runD (M : List Ent) : Nat → List Int → List PyData → Nat ⊕ List Int
  | _, t, [] => .inr t
  | i, t, d :: r => match stepD M t d with
    | some t' => runD M (i + 1) t' r
    | none => .inl i
theorem runD_some {M : List Ent} {i : Nat} {t t' : List Int} {d : PyData} {r : List PyData} (h : stepD M t d = some t') : runD M i t (d :: r) = runD M (i + 1) t' r := by
  show (match stepD M t d with | some t' => runD M (i + 1) t' r | none => .inl i) = _
  rw [h]
theorem runD_none {M : List Ent} {i : Nat} {t : List Int} {d : PyData} {r : List PyData} (h : stepD M t d = none) : runD M i t (d :: r) = .inl i := by
  show (match stepD M t d with | some t' => runD M (i + 1) t' r | none => .inl i) = _
  rw [h]
theorem badC_all {M : List Ent} : ∀ {i : Nat} {ds : List PyData}, badC M i ds = none → ∀ d ∈ ds, okC M d = true
  | _, [], _, d, m => by simp at m
  | i, x :: r, h, d, m => by
    cases e : okC M x with
    | false => rw [badC_no e] at h; cases h
    | true =>
      rw [badC_ok e] at h
      rcases List.mem_cons.mp m with z | z
      · rw [z]; exact e
      · exact badC_all h d z
theorem change_form {K : PySem.W.Frag} {C : Addr} {H : Hp} {p : Addr} {M : List Ent} {d : PyData} {v : V} (hk : KindsAt K C H p M) (h : isChangeD M d = true) (hv : Dp K H v d) :
    ∃ e pl l hd wd ps hv, e ∈ M ∧ d = .tuple [.str e.1, .int pl, l, hd] ∧ e.2.2 = .tuple [.int wd, .tuple ps] ∧ 0 ≤ wd ∧ ps.length ≤ 100 ∧ (hasNewD ps = true → isIntD l = true) ∧ ChangeAt K H v e.1 pl l hv := by
  obtain ⟨dx, D, hp, hD, hg⟩ := hk
  unfold isChangeD at h
  split at h
  · rename_i n p' l hd
    rw [Bool.and_eq_true, Bool.and_eq_true, Bool.and_eq_true, Bool.and_eq_true] at h
    obtain ⟨h1, h2, h3, h4, h5⟩ := h
    obtain ⟨x, hx⟩ := Option.isSome_iff_exists.mp h1
    obtain ⟨e, em, rfl, rfl⟩ := findE_some hx
    obtain ⟨wd, ps, ed, w0, _, _⟩ := kind_form (hg e em)
    have nn : needsD M (.str e.1) = hasNewD ps := by
      show hasNewD (rowD M e.1) = _
      rw [(rowD_of hD.ok.nd em ed).1]
    have sml := hD.ok.sm e em
    rw [ed] at sml
    cases p' with
    | int pl =>
      cases hv with
      | tup hs ha =>
        cases ha with
        | cons a1 t1 =>
          cases a1
          cases t1 with
          | cons a2 t2 =>
            cases a2
            cases t2 with
            | cons a3 t3 =>
              cases t3 with
              | cons a4 t4 =>
                cases t4
                rw [nn] at h5
                refine ⟨e, pl, l, hd, wd, ps, _, em, rfl, ed, w0, sml, fun z => by rw [if_pos z] at h5; exact h5, ⟨_, _, rfl, hs, ?_⟩⟩
                by_cases z : hasNewD ps = true
                · rw [if_pos z] at h5
                  cases a3 <;> first
                    | exact .inr ⟨_, rfl, rfl⟩
                    | (simp [isIntD] at h5)
                · rw [if_neg z] at h5
                  cases a3 <;> first
                    | exact .inl ⟨rfl, rfl⟩
                    | (simp [noneD] at h5)
    | _ => simp [isIntD] at h2
  · cases h
theorem behind_len {t : List Int} {ps : List PyData} {w p : Int} {l : PyData} : (behindD t ps w p l).length ≤ t.length + (ps.length + t.length) := by
  unfold behindD
  rw [List.length_append, List.length_append, List.length_take, List.length_map, List.length_drop]
  omega
theorem behind_len2 {t : List Int} {ps : List PyData} {w p : Int} {l : PyData} (h0 : 0 ≤ p) (hw : 0 ≤ w) : (behindD t ps w p l).length ≤ t.length + ps.length := by
  unfold behindD
  rw [List.length_append, List.length_append, List.length_take, List.length_map, List.length_drop]
  omega
section
variable {P : Program} {w : World} {K : PySem.W.Frag} {mg : Str → Option Value} {base : Heap}
def NoKinds (H : Hp) (v : V) : Prop := (∃ a kvs, v = .ref a ∧ H a = some (.dK kvs)) ∨ v = .non
def spDoneAll (T : Top K mg) : Sp := fun vs H Q E => ∃ vk vt vc, vs = [vk, vt, vc] ∧ ((NoKinds H vk ∧ Raises1 H E T.cBadKinds.c "name" .non) ∨
  ∃ p M, vk = .ref p ∧ KindsAt K T.cKinds.c H p M ∧ ((∃ d, Dp K H vt d ∧ lenD d ≤ 100 ∧ isTextD d = false ∧ ∀ H', Same H H' → E (.ref T.cBadText.c) none H') ∨
    ∃ t, TextAt K H vt t ∧ isTextD (.tuple (t.map .int)) = true ∧ t.length ≤ 50 ∧ ((NoSeq H vc ∧ Raises1 H E T.cBadChange.c "place" .non) ∨
      ∃ ds, SeqD K H vc ds ∧ ds.length ≤ 6 ∧ match badC M 0 ds with
        | some i => Raises1 H E T.cBadChange.c "place" (.int (i : Nat))
        | none => match runD M 0 t ds with
          | .inl i => Raises1 H E T.cCannotDo.c "place" (.int (i : Nat))
          | .inr t' => ∀ v' H', Same H H' → TextAt K H' v' t' → Q v' H')))
theorem ok_done_all (T : Top K mg) : FnOk P w K mg base (L2.CX P w) 8 T.done_all.a T.done_all.d ["kinds", "text", "changes"] (spDoneAll T) := by
  refine T.done_all.f.okX sc_done_all (fun vs H Q E h => ?_) (fun cdv A outer s H vs Q E hr h => ?_)
  · obtain ⟨vk, vt, vc, rfl, _⟩ := h
    rfl
  · obtain ⟨vk, vt, vc, rfl, h⟩ := h
    refine ⟨_, (pss_cons (ps_expr (pe_call (ok_check_kinds T) (hr.mono (by decide)) (by rfl) T.check_kinds.m T.check_kinds.f.kp T.check_kinds.b .nil pX (pa_cons (pv 0) pa_nil))) (pss_cons (ps_expr (pe_call (ok_check_text T) (hr.mono (by decide)) (by rfl) T.check_text.m T.check_text.f.kp T.check_text.b .nil pX (pa_cons (pv 1) pa_nil))) (pss_cons (ps_expr (pe_call (ok_check_changes T) (hr.mono (by decide)) (by rfl) T.check_changes.m T.check_changes.f.kp T.check_changes.b .nil pX (pa_cons (pv 0) (pa_cons (pv 2) pa_nil)))) (pss_cons ((ps_set (i := 3) sc_done_all.nd rfl (Or.inl rfl) (pv 1))) (pss_cons ((ps_for pO rfl (pi_enumT (by rfl) T.bf.enumerate_ (pa_cons (pv 2) pa_nil)) (pg_tup rfl (pgs_cons (pg_name (i := 4) sc_done_all.nd rfl (Or.inl rfl)) (pgs_cons (pg_name (i := 5) sc_done_all.nd rfl (Or.inl rfl)) pgs_nil))) ((pss_one ((ps_if ((pt_cmpR (op_notN) (pv 5) (pe_non) (nomark _))) ((pss_cons ((ps_if (pt_not (pt_val ((pe_call (ok_can_do T) (hr.mono (by decide)) (by rfl) T.can_do.m T.can_do.f.kp T.can_do.b .nil pX (pa_cons (pv 0) (pa_cons (pv 3) (pa_cons (pv 5) pa_nil))))))) ((pss_one ((ps_raise rfl (takes_of rfl rfl rfl rfl) (pmk_oex T.oCannotDo T.CannotDo_init.i (fnTy T.CannotDo_init.g) (ok_CannotDo_init T) (hr.mono (by decide)) T.CannotDo_init.b .nil pF (by rfl) T.cCannotDo.m (pa_cons (pv 4) pa_nil)))))) (pss_nil))) (pss_one ((ps_set (i := 3) sc_done_all.nd rfl (Or.inl rfl) ((pe_call (ok_text_behind T) (hr.mono (by decide)) (by rfl) T.text_behind.m T.text_behind.f.kp T.text_behind.b .nil pX (pa_cons (pv 0) (pa_cons (pv 3) (pa_cons (pv 5) pa_nil)))))))))) (pss_nil))))))) (pss_one ((ps_ret (pv 3))))))))), ?_⟩
    rcases h with ⟨hno, hR⟩ | ⟨p, M, rfl, hk, h⟩
    · exact ⟨_, rfl, vk, rfl, .inr ⟨hno, hR⟩⟩
    · obtain ⟨dx, D, hp, hD, hg⟩ := id hk
      refine ⟨_, rfl, _, rfl, .inl ⟨p, dx, _, rfl, hp, ?_⟩⟩
      rcases h with ⟨d, hd, hl, ht, hR⟩ | ⟨t, ht, hT, hl, h⟩
      · refine ⟨_, rfl, vt, d, rfl, hd, hl, fun H1 s1 => ?_⟩
        rw [ht]
        exact hR H1 s1
      · refine ⟨_, rfl, vt, _, rfl, ht.dp, by show (t.map PyData.int).length ≤ 100; rw [List.length_map]; omega, fun H1 s1 => ?_⟩
        rw [hT, if_pos rfl]
        refine ⟨_, rfl, _, rfl, p, vc, M, rfl, hk.same s1, ?_⟩
        rcases h with ⟨hno, hR⟩ | ⟨ds, hs, hl6, hm⟩
        · exact .inl ⟨hno.same s1, hR.same s1⟩
        · refine .inr ⟨ds, hs.same s1, ?_⟩
          cases eb : badC M 0 ds with
          | some i =>
            rw [eb] at hm
            exact hm.same s1
          | none =>
            rw [eb] at hm
            intro H2 s2
            have s02 := s1.trans s2
            obtain ⟨d, hd, ed⟩ := hs.same s02
            obtain ⟨a, xs, rfl, hsq, ha⟩ := seq_val hd ed
            have hlx := all_len ha
            refine ⟨_, rfl, _, rfl, a, xs, rfl, hsq, fun J G wk hG => for_it wk (fun i σ H3 => (∃ vn x4 x5 tn, σ = [some (.ref p), some vt, some (.ref a), some vn, x4, x5] ∧ TextAt K H3 vn tn ∧ tn.length ≤ 50 + 100 * i ∧ runD M 0 t ds = runD M i tn (ds.drop i)) ∧ Same H2 H3)
              ⟨⟨vt, _, _, t, rfl, ht.same s02, by omega, rfl⟩, Same.refl H2⟩ (fun i σ H3 _ q => hG H3 q.2) ?turn ?after⟩
            case turn =>
              rintro i x σ H3 H3' hi ⟨⟨vn, x4, x5, tn, rfl, htn, hln, hf⟩, s3⟩ ⟨Tp, y0, y1, rfl, hT, rfl, e0, e1⟩
              cases e0
              have s4 : Same H3 (upd H3 Tp (.tup [.int (i : Nat), y1])) := same_upd (Same.refl H3) hT
              refine ⟨Tp, _, rfl, SqT.of upd_same, rfl, _, _, rfl, _, _, rfl, rfl, ?_⟩
              generalize upd H3 Tp (.tup [.int (i : Nat), y1]) = H4 at s4 ⊢
              have s24 := s3.trans s4
              have s04 := s02.trans s24
              obtain ⟨di, hdi, hy⟩ := all_at (dpAll_same s24 ha) i y1 e1
              have hcons := drop_ix hdi
              rw [hcons] at hf
              have okd := badC_all eb di (List.mem_of_getElem? hdi)
              refine ⟨_, rfl, rfl, _, rfl, ?_⟩
              rw [none_eq hy]
              cases en : noneD di with
              | true =>
                have ed : di = .none := by cases di <;> first | rfl | (simp [noneD] at en)
                subst ed
                exact iteF ⟨⟨vn, _, _, tn, rfl, htn.same s4, by omega, hf.trans (runD_some rfl)⟩, s24⟩
              | false =>
                have ic : isChangeD M di = true := by
                  unfold okC at okd
                  rw [en, Bool.false_or] at okd
                  exact okd
                have hk4 := hk.same s04
                obtain ⟨e, pl, l, hdd, wd, ps, hv, em, rfl, ed, w0, psl, hnl, hch⟩ := change_form hk4 ic hy
                have htn4 := htn.same s4
                obtain ⟨hrow, hwid⟩ := rowD_of hD.ok.nd em ed
                have st : stepD M tn (.tuple [.str e.1, .int pl, l, hdd]) = if canD wd tn pl l = true then some (behindD tn ps wd pl l) else none := by
                  show (if canD (widthD M e.1) tn pl l = true then some (behindD tn (rowD M e.1) (widthD M e.1) pl l) else none) = _
                  rw [hrow, hwid]
                refine iteT ⟨_, rfl, _, rfl, _, rfl, p, vn, y1, M, tn, e, pl, l, hv, wd, ps, rfl, hk4, htn4, em, ed, hch, _, rfl, ?_⟩
                cases ec : canD wd tn pl l with
                | false =>
                  rw [ec, if_neg (by simp)] at st
                  have fb := hf.trans (runD_none st)
                  rw [fb] at hm
                  exact iteT ⟨_, rfl, mk_low (hm.same s04)⟩
                | true =>
                  rw [ec, if_pos rfl] at st
                  have fb := hf.trans (runD_some st)
                  unfold canD at ec
                  rw [Bool.and_eq_true, Bool.and_eq_true] at ec
                  have p0 := of_decide_eq_true ec.1
                  have p1 := of_decide_eq_true ec.2.1
                  have bl := behind_len2 (t := tn) (ps := ps) (l := l) p0 w0
                  refine iteF ⟨_, rfl, _, rfl, _, rfl, p, vn, y1, M, tn, e, pl, l, hv, wd, ps, rfl, hk4, htn4, em, ed, hch, by omega, p0, p1, hnl, fun b H5 s5 ht5 => ?_⟩
                  exact ⟨⟨.ref b, _, _, _, rfl, ht5, by omega, fb⟩, s24.trans s5⟩
            case after =>
              rintro σ H3 ⟨⟨vn, x4, x5, tn, rfl, htn, hln, hf⟩, s3⟩
              have fb : runD M 0 t ds = .inr tn := by
                rw [hf, hlx, List.drop_length]
                rfl
              rw [fb] at hm
              exact ⟨_, rfl, hm vn H3 (s02.trans s3) htn⟩
def spDone (T : Top K mg) : Sp := fun vs H Q E => ∃ vk vt vc, vs = [vk, vt, vc] ∧ ∀ l H', Same H H' → H' l = some (.lst [vc]) → spDoneAll T [vk, vt, .ref l] H' Q E
theorem ok_done (T : Top K mg) : FnOk P w K mg base (L2.CX P w) 9 T.done.a T.done.d ["kinds", "text", "change"] (spDone T) := by
  refine T.done.f.okX sc_done (fun vs H Q E h => ?_) (fun cdv A outer s H vs Q E hr h => ?_)
  · obtain ⟨vk, vt, vc, rfl, _⟩ := h
    rfl
  · obtain ⟨vk, vt, vc, rfl, h⟩ := h
    refine ⟨_, (pss_one ((ps_ret ((pe_call (ok_done_all T) (hr.mono (by decide)) (by rfl) T.done_all.m T.done_all.f.kp T.done_all.b .nil pX (pa_cons (pv 0) (pa_cons (pv 1) (pa_cons ((pe_lst (pa_cons (pv 2) pa_nil))) pa_nil)))))))), ?_⟩
    refine ⟨_, rfl, _, rfl, _, rfl, by show 1 ≤ sizeLine; decide, fun l hl => ?_⟩
    exact h l _ (same_upd (Same.refl H) hl) upd_same
end
end K41

end

section
set_option Elab.async false
set_option linter.all false
set_option maxRecDepth 100000
set_option maxHeartbeats 2000000
/-! t[::-1], t.index, t.count of a tuple; == of dicts with equal data. -/
namespace KX
open PySem PySem.Spec PyProof.Rows L2 HT
section
variable {prog : Program} {w : World} {A : Around} {E : Value → Shared → Prop} {s : Shared}
theorem rev_adjust (n : Nat) : Builtin.Slice.sliceAdjust none none (-1) (n : Int) = ((n : Int) - 1, -1) := rfl
theorem rev_places (n : Nat) : Builtin.Slice.slicePlaces ((n : Int) - 1) (-1) (-1) = n := by
  unfold Builtin.Slice.slicePlaces
  rw [if_neg (by decide)]
  by_cases h : n = 0
  · subst h
    rfl
  · rw [if_pos (by omega)]
    have : ((n : Int) - 1 - -1 - 1) / (- -1) + 1 = n := by
      rw [show (- -1 : Int) = 1 from rfl, Int.ediv_one]
      omega
    rw [this, Int.toNat_natCast]
theorem rev_pick (xs : Array Value) : ((List.range xs.size).filterMap fun (m : Nat) => xs[((xs.size : Int) - 1 + (m : Int) * (-1)).toNat]?).toArray = xs.toList.reverse.toArray := by
  congr 1
  apply List.ext_getElem?
  intro i
  have h := PySem.W.krv_all xs
  have h2 := PySem.W.krv_range xs.size
  rw [← h, ← List.filterMap_reverse, ← h2, List.filterMap_map]
  congr 2
  funext m
  show xs[_]? = xs[xs.size - 1 - m]?
  have : ((xs.size : Int) - 1 + (m : Int) * (-1)).toNat = xs.size - 1 - m := by omega
  rw [this]
theorem sliceApplied_rev {sl : Addr} {vs : Value} {n : Nat} {Q : Int × Int × Nat → Shared → Prop} (hs : s.heap.IsSliceOf sl .none .none vs) (ps : IsPart vs (some (-1))) (h : Q ((n : Int) - 1, -1, n) s) :
    wpAny (model prog w) A (Builtin.Slice.sliceApplied (.ref sl) (pure (n : Int))) Q E s := by
  obtain ⟨os, o1, o2, o3⟩ := id hs
  unfold Builtin.Slice.sliceApplied Builtin.Slice.sliceFields
  refine wpAny_bind (wpAny_bind (wpAny_field o1 o3 (x := .none) rfl (wpAny_bind (wpAny_field o1 o3 (x := .none) rfl (wpAny_bind (wpAny_field o1 o3 (x := vs) rfl (wpAny_pure ?_)))))))
  refine wpAny_bind (slicePart_ ps ?_)
  show wpAny _ _ (if ((-1 : Int) == 0) = true then _ else _) _ _ s
  rw [if_neg (by decide)]
  refine wpAny_bind (slicePart_ .none (wpAny_bind (slicePart_ .none (wpAny_bind (wpAny_pure ?_)))))
  show wpAny _ _ (pure ((n : Int) - 1, (-1 : Int), Builtin.Slice.slicePlaces ((n : Int) - 1) (-1) (-1))) _ _ s
  rw [rev_places]
  exact wpAny_pure h
theorem getItem_tuple_rev {t sl : Addr} {items : Array Value} {vs : Value} {Q : Value → Shared → Prop} (ht : IsTup s.heap t items) (hs : s.heap.IsSliceOf sl .none .none vs) (ps : IsPart vs (some (-1)))
    (h : Q (.ref s.heap.objs.size) { s with heap := s.heap.push { cls := .type "tuple", data := .seq items.toList.reverse.toArray } }) (hsz : items.size ≤ sizeLine) : wpAny (model prog w) A (getItem (.ref t) (.ref sl)) Q E s := by
  have small : sizeOk (.seq items.toList.reverse.toArray) := by
    show items.toList.reverse.toArray.size ≤ sizeLine
    rw [List.size_toArray, List.length_reverse, Array.length_toList]
    exact hsz
  obtain ⟨os, o1, o2, o3⟩ := id hs
  have isSl : s.TypeIs (.ref sl) "slice" := ⟨os, o1, o2⟩
  unfold getItem
  try with_reducible refine wpAny_holding ?_
  refine wpAny_bind (wpAny_sequenceKey ht.typeIs (by decide) ?_)
  refine wpAny_bind (wpAny_callSpecial?_slot (name := Str.ofString "__getitem__") ht.typeIs PyProof.Rows.slot_tuple_getitem (wpAny_call_entry PyProof.Rows.slot_tuple_getitem ht.typeIs entry_tuple_getitem ?_ (args_tuple_getitem _ _)))
  show wpAny _ _ (Builtin.Tuple.tupleItemsOf (.ref t) >>= _) _ _ s
  refine wpAny_bind (tupleItemsOf_ ht (wpAny_bind (wpAny_typeOf isSl ?_)))
  rw [if_pos (by decide)]
  refine wpAny_bind (sliceApplied_rev hs ps ?_)
  have hno : ¬ ((((items.size : Int) - 1 == 0 && (-1 : Int) == 1) && items.size == items.size) = true) := by simp
  show wpAny _ _ (if (((items.size : Int) - 1 == 0 && (-1 : Int) == 1) && items.size == items.size) = true then _ else _) _ _ s
  rw [if_neg hno, rev_pick]
  first
    | exact wpAny_bind (m := Builtin.Tuple.tupleExact _) (wpAny_newObj_type (wpAny_pure ⟨_, rfl, wpAny_pure h⟩) small)
    | exact wpAny_bind (m := Builtin.Tuple.tupleExact _) (wpAny_newObj_type (wpAny_bind (wpAny_pure (wpAny_pure ⟨_, rfl, wpAny_pure h⟩))) small)
    | exact wpAny_bind (wpAny_bind (m := Builtin.Tuple.tupleExact _) (wpAny_newObj_type (wpAny_pure (wpAny_pure ⟨_, rfl, wpAny_pure h⟩)) small))
    | exact wpAny_bind (wpAny_bind (m := Builtin.Tuple.tupleExact _) (wpAny_newObj_type (wpAny_pure ⟨_, rfl, wpAny_pure h⟩) small))
end
section
variable {X : Cx}
/-- t[::-1] of a tuple -/
def tRevT (K : PySem.W.Frag) (te : TE) : TE := fun σ H Q => te σ H fun x H1 => ∃ a xs, x = .ref a ∧ SqT K H1 a xs ∧ ∀ p, H1 p = none → Q (.ref p) (upd H1 p (.tup xs.reverse))
theorem pe_revT {e : Expr} {te : TE} {k : Nat} {p1 p2 p3 pos : Pos} (he : PE X e te) : PE X (.Subscript e (.Slice none none (some (.UnaryOp .USub (.Constant (.int 1) k p1) p2)) p3) pos) (tRevT X.K te) := by
  refine ⟨fun pins s σ H Q I h => ?_⟩
  refine Subscript_ (thn (he.run pins s σ H _ I h) fun v s1 ⟨x, H1, I1, r1, a, xs, ex, hx, q⟩ => ?_)
  subst ex
  cases r1
  have minus : PO X (some (.UnaryOp .USub (.Constant (.int 1) k p1) p2)) (tPart (tUn (rU fun i => .int (-i)) (tC (.int 1)))) := po_some (pe_un un_neg pe_int)
  refine wpAny_Slice (thn (po_none.run pins s1 σ H1 (fun o H2 => o = none ∧ H2 = H1) I1 ⟨rfl, rfl⟩) fun vl s2 ⟨l, H2, I2, pl, el, e2⟩ => ?_)
  subst el e2
  refine thn (po_none.run pins s2 σ H2 (fun o H3 => o = none ∧ H3 = H2) I2 ⟨rfl, rfl⟩) fun vu s3 ⟨u, H3, I3, pu, eu, e3⟩ => ?_
  subst eu e3
  refine thn (minus.run pins s3 σ H3 (fun o H4 => o = some (-1) ∧ H4 = H3) I3 ⟨1, rfl, -1, rfl, rfl, rfl⟩) fun vs s4 ⟨o, H4, I4, ps, eo, e4⟩ => ?_
  subst eo e4
  cases pl
  cases pu
  have old : ∀ (b : Addr) (ob : Obj), s4.heap.get? b = some ob → (s4.heap.push { cls := .type "slice", data := .fields #[.none, .none, vs] }).get? b = some ob := fun b ob q => Heap.get?_push_of_some _ q
  have I5 : Inv X pins σ H4 { s4 with heap := s4.heap.push { cls := .type "slice", data := .fields #[.none, .none, vs] } } := I4.kept (t' := s4.toks) old
  obtain ⟨its, r, ht, hz⟩ := I5.tuple hx
  have hlen := r.length
  show wpAny (model X.prog X.w) X.A (subscriptTail e (.Slice none none (some (.UnaryOp .USub (.Constant (.int 1) k p1) p2)) p3) (.ref a) (.ref s4.heap.objs.size)) (EP X pins σ Q) X.xe _
  refine tail_any (ops := [.ref a, .ref s4.heap.objs.size]) ht.typeIs PyProof.Rows.slot_tuple_getitem.lookup ?_ (by with_unfolding_all rfl)
  refine getItem_tuple_rev ht (Heap.IsSliceOf.new _ .none .none vs) ps ?_ (by rw [List.size_toArray]; omega)
  refine ⟨.ref _, _, I5.laid (t' := s4.toks) (o := .tup xs.reverse) (fun b ob q => Heap.get?_push_of_some _ q) (Nat.le_refl _) ?_, rfl, q _ (I5.hok.fresh (Nat.le_refl _))⟩
  exact ⟨by rw [List.length_reverse]; exact hz, its.reverse, r.reverse, _, Heap.get?_push_size _ rfl, rfl, 0, by simp⟩

/-- t.index(y): the first item that is y, flat items -/
def rTIndex (K : PySem.W.Frag) : V → List V → Hp → VK → Prop := fun x xs H Q => ∃ (a : Addr) (ys : List V) (y : V) (j : Nat) (z : V), x = V.ref a ∧ xs = [y] ∧ SqT K H a ys ∧ flatV y = true ∧ ys.all flatV = true ∧ ys[j]? = some z ∧ eqV z y = true ∧
  (∀ (m : Nat) (z' : V), m < j → ys[m]? = some z' → eqV z' y = false) ∧ Q (.int (j : Nat)) H
theorem item_at {ys : List V} {its : List Value} (rv : Vals ys its) (f : ys.all flatV = true) {y z : V} {i : Nat} (h : ys[i]? = some z) (hi : i < its.toArray.size) : eqU y its.toArray[i] = eqV z y := by
  obtain ⟨u, hu, ru⟩ := rv.get h
  obtain ⟨_, e⟩ := List.getElem?_eq_some_iff.mp hu
  have e : its.toArray[i] = u := by simpa using e
  rw [e]
  exact eqU_of ru (flat_at f h)
theorem mt_tindex : MtR X "tuple.index" (rTIndex X.K) := by
  intro pins s σ H x xs v us Q I rx rxs h
  obtain ⟨a, ys, y, j, z, rfl, rfl, hs, fy, fys, hz, hzj, hno, q⟩ := h
  cases rx
  obtain ⟨u, rfl, ru⟩ := rxs.one
  obtain ⟨its, rv, ⟨⟨cls, dd, data, sl⟩, ho, hc, n, hd⟩, hlen⟩ := I.tuple hs
  simp only at hc hd
  subst hc hd
  have sz : its.toArray.size = ys.length := by rw [List.size_toArray, rv.length]
  have lt : j < its.toArray.size := by rw [sz]; exact (List.getElem?_eq_some_iff.mp hz).1
  refine call_meets PySem.F.slot_tuple_index ⟨_, ho, rfl⟩ PySem.F.entry_tuple_index (PySem.F.args_tuple_index_2 _ _) (TI.tuple_indexAt a its.toArray n dd sl u (eqU y) j lt ?_ ?_)
    ⟨ho, fun u' hu' => mem_eqAt ru fy rv fys u' (by simpa using hu'), ⟨.int (j : Nat), H, I.tok _, ⟨_, rfl⟩, q⟩⟩
  · rw [item_at rv fys hz lt]
    exact hzj
  · intro m hm hmj
    have g : ys[m]? = some (ys[m]'(by omega)) := List.getElem?_eq_getElem (by omega)
    rw [item_at rv fys g hm]
    exact hno m _ hmj g

/-- t.count(y), flat items -/
def rTCount (K : PySem.W.Frag) : V → List V → Hp → VK → Prop := fun x xs H Q => ∃ (a : Addr) (ys : List V) (y : V), x = V.ref a ∧ xs = [y] ∧ SqT K H a ys ∧ flatV y = true ∧ ys.all flatV = true ∧ Q (.int ((ys.countP fun z => eqV z y : Nat) : Int)) H
theorem count_flat {y : V} : ∀ {ys : List V} {its : List Value}, Vals ys its → ys.all flatV = true → its.countP (eqU y) = ys.countP fun z => eqV z y
  | _, _, .nil, _ => rfl
  | z :: ys, u :: its, .cons r t, f => by
    rw [List.all_cons, Bool.and_eq_true] at f
    rw [List.countP_cons, List.countP_cons, count_flat t f.2, eqU_of r f.1]
theorem mt_tcount : MtR X "tuple.count" (rTCount X.K) := by
  intro pins s σ H x xs v us Q I rx rxs h
  obtain ⟨a, ys, y, rfl, rfl, hs, fy, fys, q⟩ := h
  cases rx
  obtain ⟨u, rfl, ru⟩ := rxs.one
  obtain ⟨its, rv, ⟨⟨cls, dd, data, sl⟩, ho, hc, n, hd⟩, hlen⟩ := I.tuple hs
  simp only at hc hd
  subst hc hd
  refine call_meets PySem.F.slot_tuple_count ⟨_, ho, rfl⟩ PySem.F.entry_tuple_count (PySem.F.args_tuple_count_2 _ _) (SeqAt.tuple_countAt a its.toArray n dd sl u (eqU y))
    ⟨ho, fun u' hu' => mem_eqAt ru fy rv fys u' (by simpa using hu'), ?_⟩
  have e : its.toArray.toList.countP (eqU y) = ys.countP fun z => eqV z y := count_flat rv fys
  rw [e]
  exact ⟨.int _, H, I.tok _, ⟨_, rfl⟩, q⟩

/-- d == e of two dicts that tell equal data of the same keys -/
def rEqDD (K : PySem.W.Frag) : R2 := fun x y H Q => ∃ a b ks ls, x = .ref a ∧ y = .ref b ∧ H a = some (.dK ks) ∧ H b = some (.dK ls) ∧ ks.length = ls.length ∧
  (∀ p ∈ ks, ∃ u d e, valV ls p.1 = some u ∧ Dp K H p.2 d ∧ Dp K H u e ∧ SeqAt.shaped d = true ∧ SeqAt.shaped e = true ∧ PyData.eqv d e = true) ∧ Q (.bl true) H
theorem op_eqDD (hu : X.A.units + 66 < cLine) : OpR X (compareOp .Eq) (rEqDD X.K) := by
  intro pins s σ H x y v u Q I rx ry h
  obtain ⟨a, b, ks, ls, rfl, rfl, ea, eb, hlen, hp, q⟩ := h
  cases rx
  cases ry
  obtain ⟨_, ya, va, ra, da⟩ := (show ObjOk X.prog X.w H s.heap a (.dK ks) from I.hok a _ ea)
  obtain ⟨_, yb, vb, rb, db⟩ := (show ObjOk X.prog X.w H s.heap b (.dK ls) from I.hok b _ eb)
  have hl : va.length = vb.length := by rw [← ra.length, ← rb.length, hlen]
  have hits : PySem.W.KeqHitsP X.prog X.w X.A.in1 s vb va true := hits_run (F := fun x y => ∃ d e, Dp X.K H x d ∧ Dp X.K H y e ∧ SeqAt.shaped d = true ∧ SeqAt.shaped e = true ∧ PyData.eqv d e = true) (fun x y v u ⟨d, e, hd, he, sd, se, eq⟩ rx ry => by
    obtain ⟨as, r1⟩ := Dp.reads I d x v hd rx
    obtain ⟨bs, r2⟩ := Dp.reads I e y u he ry
    have := SeqAt.eqAt_reads d e X.A.in1 s v u as bs r1 r2 (SeqAt.canLay_of_shaped sd) (SeqAt.canLay_of_shaped se) (SeqAt.room_of_shaped sd (by show X.A.units + 1 + 64 < cLine; omega))
    rw [eq] at this
    exact this.eqP) rb ra fun p hm => by
      obtain ⟨u, d, e, h1, h2⟩ := hp p hm
      exact ⟨u, h1, d, e, h2⟩
  refine PySem.W.rcP_dicts (knd := mixKind X.prog X.w) (r := true) ya yb da db (by omega) (fun _ => hits) _ _ ?_
  rw [show (va.length == vb.length && true) = true from by rw [hl]; simp]
  exact ⟨.bl true, H, I, rfl, q⟩
end
end KX

end

section
set_option Elab.async false
set_option linter.all false
set_option maxRecDepth 100000
set_option maxHeartbeats 4000000
/-! A set of texts: set(xs) of a list, sorted(set). -/
namespace KX
open PySem PySem.Spec PyProof.Rows L2
/-- the texts of a set's rows -/
def txs (es : Array (Int × Value)) : List Str := es.toList.map fun e => strOf e.2
/-- rows and table of a set of the texts l -/
structure TxOk (w : World) (es : Array (Int × Value)) (t : SetTable) (l : List Str) : Prop where
  each : ∀ e ∈ es.toList, ∃ x k, e = (keyH w (.inr x), Value.str x k)
  nd : (txs es).Nodup
  mem : ∀ x, x ∈ txs es ↔ x ∈ l
  few : es.size ≤ l.length
  room : l.length < scanBound
  fits : t.fits es.size = true
  ris : Ris t.place.toList
  led : w.params.followText "set-order" = true ∨ t.led = true
theorem TxOk.perm {w : World} {es es' : Array (Int × Value)} {t t' : SetTable} {l : List Str} (T : TxOk w es t l) (p : es'.toList.Perm es.toList) (f : t'.fits es'.size = true) (r : Ris t'.place.toList) (d : t'.led = t.led) : TxOk w es' t' l where
  each e m := T.each e (p.mem_iff.mp m)
  nd := (p.map _).nodup_iff.mpr T.nd
  mem x := ((p.map _).mem_iff).trans (T.mem x)
  few := by
    have := p.length_eq
    rw [Array.length_toList, Array.length_toList] at this
    rw [this]
    exact T.few
  room := T.room
  fits := f
  ris := r
  led := by rw [d]; exact T.led
theorem TxOk.small {w : World} {es : Array (Int × Value)} {t : SetTable} {l : List Str} (T : TxOk w es t l) : es.size < scanBound := Nat.lt_of_le_of_lt T.few T.room
theorem TxOk.elems {P : Program} {w : World} {es : Array (Int × Value)} {t : SetTable} {l : List Str} (T : TxOk w es t l) : ElemsOf (mixKind P w) es.toList := fun e m => by
  obtain ⟨x, k, rfl⟩ := T.each e m
  exact ⟨⟨.inr x, kV_is (P := P) (w := w) (k := .inr x) ⟨k, rfl⟩, rfl⟩, rfl⟩
/-- at a: a set of the texts l -/
def SetQ (w : World) (h : Heap) (a : Addr) (l : List Str) : Prop := ∃ o es ep t, h.get? a = some o ∧ o.ExactSet ∧ o.data = .set es ep t ∧ TxOk w es t l
theorem SetQ.at {w : World} {h h' : Heap} {a : Addr} {l : List Str} (R : SetQ w h a l) (k : ∀ o, h.get? a = some o → h'.get? a = some o) : SetQ w h' a l := by
  obtain ⟨o, es, ep, t, ho, r⟩ := R
  exact ⟨o, es, ep, t, k o ho, r⟩
section
variable {P : Program} {w : World} {A : Around} {E : Value → Shared → Prop} {s : Shared} {a : Addr} {l : List Str}
theorem storeQ {g : Bool → Sem Unit} (hg : ∀ (b : Bool) (s₁ : Shared) (Q' : Unit → Shared → Prop), Q' () s₁ → wpAny (model P w) A (g b) Q' E s₁) {o : Obj} {es es1 : Array (Int × Value)} {ep : Nat} {t t1 : SetTable}
    (at_ : s.heap.get? a = some o) (exact_ : o.ExactSet) (rows : o.data = .set es ep t) (T : TxOk w es1 t1 l) {d : Bool} {R : Option Bool → Shared → Prop} (k : ∀ h', Heap.SameBut a s.heap h' → SetQ w h' a l → R (some true) { s with heap := h' }) :
    wpAny (model P w) A (do
        storeSet a es1 t1
        if (!d && t1.tooFull) = true then do
            g (relayAll t1 es1 (SetTable.grown es1.size)).2.2
            storeSet a (relayAll t1 es1 (SetTable.grown es1.size)).1 (relayAll t1 es1 (SetTable.grown es1.size)).2.1
            pure (some true)
          else pure (some true)) R E s := by
  refine wpAny_bind (wpAny_storeSet_of at_ rows ?_ (fits_of_scanBound T.small))
  have at1 := store_at (es' := es1) (t' := t1) at_ rows
  have same1 := Heap.SameBut.update s.heap a (Obj.putSet es1 t1)
  split
  · have T2 : TxOk w (relayAll t1 es1 (SetTable.grown es1.size)).1 (relayAll t1 es1 (SetTable.grown es1.size)).2.1 l :=
      T.perm (relayAll_perm t1 es1 _) (relayAll_fits t1 es1 _) (relayAll_ris t1 es1 _) (relayAll_led t1 es1 _)
    generalize relayAll t1 es1 (SetTable.grown es1.size) = Z at T2 ⊢
    obtain ⟨es2, t2, gave⟩ := Z
    refine wpAny_bind (hg _ _ _ (wpAny_bind (wpAny_storeSet_of at1 rfl ?_ (fits_of_scanBound T2.small))))
    exact wpAny_pure (k _ (same1.trans (Heap.SameBut.update _ a _)) ⟨_, es2, _, t2, store_at (es' := es2) (t' := t2) at1 rfl, exact_, rfl, T2⟩)
  · exact wpAny_pure (k _ same1 ⟨_, es1, _, t1, at1, exact_, rfl, T⟩)
theorem strOf_str {x : Str} {k : Tok} : strOf (Value.str x k) = x := rfl
theorem addQ {x : Str} {k : Tok} {Q : Bool → Shared → Prop} (R : SetQ w s.heap a l) (room : l.length + 1 < scanBound) (q : ∀ b h', Heap.SameBut a s.heap h' → SetQ w h' a (l ++ [x]) → Q b { s with heap := h' }) :
    wpAny (model P w) A (setAddHashed a (.str x k) ((mixKind P w).hash (.inr x))) Q E s := by
  obtain ⟨o, es, ep, t, at_, exact_, rows, T⟩ := R
  have isx : (mixKind P w).is (.inr x) (.str x k) = true := kV_is (P := P) (w := w) (k := .inr x) ⟨k, rfl⟩
  have scn : (Value.str x k).scannable = true := rfl
  have els : ElemsOf (mixKind P w) es.toList := T.elems
  have len1 : (l ++ [x]).length = l.length + 1 := by simp
  unfold setAddHashed setAddHashedIn
  refine wpAny_holding (wpAny_bind (wpAny_setState_of at_ rows T.fits ?_))
  dsimp only
  rw [byScan_of scn T.small els]
  simp only [↓reduceIte]
  unfold setAddByScan
  refine wpAny_bind (wpAny_bind (wpAny_rule (wpAny_bind (wpAny_setScan_of isx at_ rows T.fits els ?_))))
  have memk : ∀ e ∈ es.toList, (mixKind P w).is (.inr x) e.2 = true ↔ strOf e.2 = x := fun e m => by
    obtain ⟨y, ky, rfl⟩ := T.each e m
    show (y == x) = true ↔ y = x
    exact beq_iff_eq
  cases hf : List.findIdx? (fun e => (mixKind P w).is (.inr x) e.2) es.toList with
  | some j =>
    dsimp only
    obtain ⟨hj, pj, _⟩ := List.findIdx?_eq_some_iff_getElem.mp hf
    have there : x ∈ txs es := List.mem_map.mpr ⟨_, List.getElem_mem hj, (memk _ (List.getElem_mem hj)).mp pj⟩
    refine wpAny_pure (wpAny_pure (q _ s.heap (Heap.SameBut.refl a s.heap) ⟨o, es, ep, t, at_, exact_, rows, T.each, T.nd, fun y => ?_, by rw [len1]; exact Nat.le_succ_of_le T.few, by rw [len1]; exact room, T.fits, T.ris, T.led⟩))
    rw [T.mem y, List.mem_append, List.mem_singleton]
    exact ⟨.inl, fun z => z.elim id fun e => by rw [e]; exact (T.mem x).mp there⟩
  | none =>
    dsimp only
    have notin : x ∉ txs es := fun z => by
      obtain ⟨e, m, ex⟩ := List.mem_map.mp z
      have := List.findIdx?_eq_none_iff.mp hf e m
      rw [(memk e m).mpr ex] at this
      cases this
    have way : ∀ (b : Bool) (s₁ : Shared) (Q' : Unit → Shared → Prop), Q' () s₁ → wpAny (model P w) A (match b with | true => rule "set.scan.the-table-gave-way" | false => pure ()) Q' E s₁ := fun b s₁ Q' z => by
      cases b
      · exact wpAny_pure z
      · exact wpAny_rule z
    have pm := layNew_perm t es ((mixKind P w).hash (.inr x)) (.str x k)
    have f1 := layNew_fits t es ((mixKind P w).hash (.inr x)) (.str x k)
    have r1 := layNew_ris t es ((mixKind P w).hash (.inr x)) (.str x k) T.ris
    have l1 := layNew_led t es ((mixKind P w).hash (.inr x)) (.str x k)
    generalize layNew t es ((mixKind P w).hash (.inr x)) (.str x k) = Z at pm f1 r1 l1 ⊢
    obtain ⟨es1, t1, wasDummy, gave⟩ := Z
    dsimp only at pm f1 r1 l1 ⊢
    rw [Array.toList_push] at pm
    have pc : es1.toList.Perm ((keyH w (.inr x), Value.str x k) :: es.toList) := pm.trans (List.perm_append_singleton _ _)
    have pt : (txs es1).Perm (x :: txs es) := pc.map fun (e : Int × Value) => strOf e.2
    have sz : es1.size = es.size + 1 := by rw [← Array.length_toList, pc.length_eq, List.length_cons, Array.length_toList]
    have T1 : ∀ t2 : SetTable, t2.fits es1.size = true → Ris t2.place.toList → t2.led = t1.led → TxOk w es1 t2 (l ++ [x]) := fun t2 f r d => {
      each := fun e m => (List.mem_cons.mp (pc.mem_iff.mp m)).elim (fun z => ⟨x, k, z⟩) (T.each e)
      nd := pt.nodup_iff.mpr (List.nodup_cons.mpr ⟨notin, T.nd⟩)
      mem := fun y => by rw [pt.mem_iff, List.mem_cons, List.mem_append, List.mem_singleton, T.mem y]; exact Or.comm
      few := by rw [sz, len1]; exact Nat.succ_le_succ T.few
      room := by rw [len1]; exact room
      fits := f
      ris := r
      led := by rw [d, l1]; exact T.led }
    refine wpAny_bind (way _ _ _ ?_)
    split
    · refine wpAny_bind ?_
      rw [hashByValue_scannable 8 scn]
      refine wpAny_pure (storeQ way at_ exact_ rows (T1 _ ?_ ?_ ?_) fun h' sb r => ?_)
      · first | (split <;> first | exact f1 | exact SetTable.fits_plain_off f1) | exact f1
      · first | (split <;> exact r1) | exact r1
      · first | (split <;> rfl) | rfl
      · dsimp only
        exact wpAny_pure (q _ h' sb r)
    · refine wpAny_bind (wpAny_pure ?_)
      simp only [↓reduceIte]
      exact storeQ way at_ exact_ rows (T1 _ f1 r1 rfl) fun h' sb r => by dsimp only; exact wpAny_pure (q _ h' sb r)
/-- the turns of an update by a walk that yields the texts xs -/
theorem textsQ {I : Addr} {fp wr : List Addr} {G : Array GenState → Array GenState → Prop} {n : Nat} {Pv : Nat → Value → Prop} {St : Nat → Shared → Prop} {R : Result → Shared → Prop} (W : WalksS P w A.in1 I fp wr G n Pv St) (S : Addr) (out : S ∉ fp) (xs : List Str)
    (hn : n = xs.length) (room : xs.length + 1 < scanBound) (yields : ∀ i v, Pv i v → ∃ x k, xs[i]? = some x ∧ v = .str x k) :
    ∀ (m i : Nat) (s : Shared), n - i = m → i ≤ n → St i s → SetQ w s.heap S (xs.take i) →
      (∀ s', Moved (S :: wr) G s s' → SetQ w s'.heap S xs → R (.ok (.ret .none)) s') → codeAny (model P w) A (.builtin "set.update.loop" ⟨[.ref S, .ref I], []⟩) R s := by
  have outw : S ∉ wr := fun h => out (W.sub _ h)
  have more : ∀ b ∈ wr, b ∈ S :: wr := fun b hb => List.mem_cons_of_mem _ hb
  intro m
  induction m with
  | zero =>
    intro i s hm hi st here fin
    obtain rfl : i = n := by omega
    refine codeAny_builtin F.entry_set_update_loop ?_
    rw [Around.under_plainId F.plain_set_update_loop _]
    show wpAny _ A.in1 (pyNext (.ref I) >>= _) _ _ s
    refine wpAny_bind (W.done s _ _ st fun s' mv => ?_)
    rw [show xs.take i = xs from List.take_of_length_le (by omega)] at here
    show wpAny _ A.in1 (ret Value.none) _ _ s'
    exact wpAny_pure (fin s' (mv.mono more) (here.at fun o e => mv.heap S o outw e))
  | succ m ih =>
    intro i s hm hi st here fin
    have lt : i < n := by omega
    refine codeAny_builtin F.entry_set_update_loop ?_
    rw [Around.under_plainId F.plain_set_update_loop _]
    show wpAny _ A.in1 (pyNext (.ref I) >>= _) _ _ s
    refine wpAny_bind (W.item i s _ _ lt st fun v s' pv st' mv => ?_)
    obtain ⟨x, k, hx, rfl⟩ := yields i v pv
    have here' := here.at fun o e => mv.heap S o outw e
    show wpAny _ A.in1 (holding [.str x k] (setAdd S (.str x k)) >>= _) _ _ s'
    refine wpAny_bind (wpAny_holding ?_)
    unfold setAdd
    refine wpAny_holding (wpAny_bind ((mixKind P w).pyHash (k := .inr x) (kV_is (P := P) (w := w) (k := .inr x) ⟨k, rfl⟩) ?_))
    refine addQ (s := { s' with toks := s'.toks + 1 }) here' (by rw [List.length_take]; omega) fun b h' sb now => ?_
    have now : SetQ w h' S (xs.take (i + 1)) := by rw [List.take_add_one, hx]; exact now
    refine wpAny_pure ⟨plainId_quiet F.plain_set_update_loop _, ih (i + 1) _ (by omega) lt (W.frame _ s' _ _ st' (Nat.le_succ _) fun b hb o e => ?_) now fun s2 mv2 fin2 => ?_⟩
    · rw [sb.2 b fun z => out (by rw [← z]; exact hb)]
      exact e
    · refine fin s2 (Moved.trans W.gtrans ((mv.mono more).then_heap (Nat.le_succ _) fun b o hb e => ?_) mv2) fin2
      rw [sb.2 b fun z => hb (by rw [z]; exact List.mem_cons_self)]
      exact e
theorem set0_q {h : Heap} {a : Addr} (e : h.get? a = some (set0 w)) : SetQ w h a [] :=
  ⟨_, #[], 0, _, e, ⟨rfl, rfl, rfl⟩, rfl, (fun e he => by simp at he), (by simp [txs]), (fun k => by simp [txs]), Nat.le_refl _, (by decide), (by rfl), List.Pairwise.nil, by
    show _ ∨ (!w.params.followText "set-order") = true
    cases w.params.followText "set-order" <;> simp⟩
theorem strs_get : ∀ {its : List Value} {xs : List Str} {i : Nat} {v : Value}, StrsAre its xs → its[i]? = some v → ∃ x k, xs[i]? = some x ∧ v = .str x k
  | _, _, _, _, .nil, e => by simp at e
  | _, _, 0, v, .cons y t _, e => by
    simp at e
    exact ⟨y, t, rfl, e.symm⟩
  | _, _, i + 1, v, .cons y t r, e => by
    obtain ⟨x, k, h1, h2⟩ := strs_get (i := i) r (by simpa using e)
    exact ⟨x, k, by simpa using h1, h2⟩
theorem setQ_list {b : Addr} {its : List Value} (xs : List Str) {Q : Value → Shared → Prop} (hh : A.handled = none) (hl : s.heap.IsList b its.toArray) (hk : StrsAre its xs) (hb : xs.length + 1 < scanBound)
    (h : ∀ (h' : Heap) (tk : Nat), SetQ w h' s.heap.objs.size xs → (∀ b o, s.heap.get? b = some o → h'.get? b = some o) → Q (.ref s.heap.objs.size) { s with heap := h', toks := tk }) :
    wpAny (model P w) A (call (.type "set") [.ref b]) Q E s := by
  have hsz : its.toArray.size = xs.length := by
    rw [List.size_toArray]
    exact StrsAre.length hk
  obtain ⟨c, tl, hmro⟩ := F.called_set.mro
  have t1 := F.called_set.made
  have t2 := F.called_set.sub
  have t3 := F.called_set.notType
  have t4 := F.called_set.canCreate
  have t5 := F.typeCall_set_1 (.ref b)
  refine wpAny_call (codeAny_of_tree ?_)
  show wpAny _ _ (callAny (.type "set") _) _ _ _
  refine wpAny_pure ⟨Code.quiet_builtin _ (by decide +kernel), codeAny_builtin F.entry_type_call ?_⟩
  rw [Around.under_plain (weight_type_call_type "set" [.ref b] []) rfl]
  repeat (any_goals (first | assumption | wp_step))
  have new := code_set_led1 (P := P) (w := w) (A := A.in1) (s := s) (.ref b) (E := E) (Q₁ := fun obj s₁ => obj = .ref s.heap.objs.size ∧ s₁ = { s with heap := s.heap.push (set0 w) }) ⟨rfl, rfl⟩
  refine codeAny_mono new fun r s₁ hr => ?_
  cases r with
  | error e => exact hr
  | ok fl =>
    cases fl with
    | next => exact hr.elim
    | brk => exact hr.elim
    | cont => exact hr.elim
    | ret obj =>
      obtain ⟨rfl, rfl⟩ := hr
      have at0 : (s.heap.push (set0 w)).get? s.heap.objs.size = some (set0 w) := Heap.get?_push_size _ rfl
      have ty0 : Shared.TypeIs { s with heap := s.heap.push (set0 w) } (.ref s.heap.objs.size) "set" := ⟨_, at0, rfl⟩
      have u1 := F.called_set.init.lookup
      have u2 := F.called_set.init.bind (.ref s.heap.objs.size)
      repeat (any_goals (first | assumption | wp_step))
      refine codeAny_mono (codeAny_call_builtin (R := wants (fun r s₂ => r = .none ∧ ∃ h' tk, s₂ = { s with heap := h', toks := tk } ∧ SetQ w h' s.heap.objs.size xs ∧ ∀ b o, s.heap.get? b = some o → h'.get? b = some o) E) F.called_set.init.plain F.entry_set_init (check_set_init_1 ty0 ?_)) fun r₂ s₂ hr₂ => ?_
      · obtain ⟨⟨oc, odd, oda, osl⟩, ho, hc, nl, hd⟩ := hl
        simp only at hc hd
        subst hc hd
        have ho1 : (s.heap.push (set0 w)).get? b = some { cls := .type "list", dict := odd, data := .seq its.toArray nl, slots := osl } := Heap.get?_push_of_some _ ho
        have lst1 : (s.heap.push (set0 w)).IsList b its.toArray := ⟨_, ho1, rfl, nl, rfl⟩
        have v1 := F.sub_list_set
        have v2 := F.sub_list_frozenset
        have v3 : (Value.type "list" == Value.type "dict") = false := by decide
        have ltb : b < s.heap.objs.size := Heap.lt_size ho
        have hh3 : A.in1.in1.in1.handled = none := by simp [hh]
        have sz1 : (s.heap.push (set0 w)).objs.size = s.heap.objs.size + 1 := Heap.size_push ..
        unfold Builtin.«set.__init__» noKeywords Builtin.Frozenset.updateFrom
        generalize hPI : pyIter = PI
        wp_walk
        subst hPI
        refine wpAny_pyIter_list lst1 (wpAny_bind (wpAny_runValue ?_))
        refine textsQ ((Walks.list hh3 (s.heap.push (set0 w)).objs.size b (by rw [sz1]; exact Nat.ne_of_lt (Nat.lt_succ_of_lt ltb)) its.toArray).toS) s.heap.objs.size ?out xs hsz hb (fun i v hv => strs_get hk (by simpa using hv)) (its.toArray.size - 0) 0 _ (by omega) (Nat.zero_le _)
          ⟨⟨_, Heap.get?_push_size _ rfl, rfl, rfl⟩, lst1.push _⟩ (set0_q (Heap.get?_push_of_some _ at0)) fun s' mv fin => ?fin
        case out =>
          rw [sz1]
          simp only [List.mem_cons, List.not_mem_nil, or_false, not_or]
          exact ⟨Nat.ne_of_lt (Nat.lt_succ_self _), Nat.ne_of_gt ltb⟩
        case fin =>
          obtain ⟨h', g2, d', tk', os'⟩ := s'
          have e1 : g2 = s.gens := mv.gens
          have e2 : d' = s.drawn := mv.drawn
          have e3 : os' = s.os := mv.os
          subst e1 e2 e3
          show wpAny _ _ _ _ _ _
          refine wpAny_pure ?_
          show wpAny _ _ (ret Value.none) _ _ _
          refine wpAny_pure ⟨rfl, h', tk', rfl, fin, fun c o e => mv.heap c o ?_ (Heap.get?_push_of_some _ (Heap.get?_push_of_some _ e))⟩
          have lt : c < s.heap.objs.size := Heap.lt_size e
          rw [sz1]
          simp only [List.mem_cons, List.not_mem_nil, or_false, not_or]
          exact ⟨Nat.ne_of_lt lt, Nat.ne_of_lt (Nat.lt_succ_of_lt lt)⟩
      · cases r₂ with
        | error e => exact hr₂
        | ok fl₂ =>
          cases fl₂ with
          | next => exact hr₂.elim
          | brk => exact hr₂.elim
          | cont => exact hr₂.elim
          | ret r =>
            obtain ⟨rfl, h', tk, rfl, fin, old⟩ := hr₂
            repeat (any_goals (first | assumption | wp_step))
            exact h _ _ fin old
theorem rows_strs {es : List (Int × Value)} : ∀ {vs : List Value}, (∀ v ∈ vs, ∃ x k, v = Value.str x k) → StrsAre vs (vs.map strOf)
  | [], _ => .nil
  | v :: r, h => by
    obtain ⟨x, k, rfl⟩ := h v List.mem_cons_self
    exact .cons x k (rows_strs (es := es) fun u m => h u (List.mem_cons_of_mem _ m))
/-- sorted(set) -/
theorem sortedQ {Q : Value → Shared → Prop} (R : SetQ w s.heap a l) (hh : A.handled = none) (few : l.length < 64)
    (q : ∀ s' p (out : Array Value) (c : Nat) (ys : List Str), (∀ b o, s.heap.get? b = some o → s'.heap.get? b = some o) → s'.gens = s.gens → s'.os = s.os → s.heap.objs.size ≤ p → s'.heap.get? p = some (seqObj "list" out c) → StrsAre out.toList ys →
      ys.Nodup → sortedS ys = true → (∀ x, x ∈ ys ↔ x ∈ l) → ys.length ≤ l.length → Q (.ref p) s') : wpAny (model P w) A (call (.builtin "sorted") [.ref a]) Q E s := by
  obtain ⟨o, es, ep, t, at_, exact_, rows, T⟩ := R
  refine Calls.call_function_entry kind_sorted plain_sorted entry_sorted (args_sorted1 _) ?_
  unfold Builtin.«sorted»
  refine wpAny_bind (m := checkCount "sorted" 1 1 _) (wpAny_pure (wpAny_bind (collect_set (A := A.in1) hh ⟨o, at_, exact_.1, rows⟩ T.fits T.small T.ris T.led fun s1 vs old size gens os pm => ?_)))
  have len : vs.length = es.size := by rw [pm.length_eq, List.length_map, Array.length_toList]
  have len64 : vs.length < 64 := by rw [len]; exact Nat.lt_of_le_of_lt T.few few
  have tst : StrsAre vs (vs.map strOf) := rows_strs (es := es.toList) fun v m => by
    obtain ⟨e, he, ev⟩ := List.mem_map.mp (pm.mem_iff.mp m)
    obtain ⟨x, k, rfl⟩ := T.each e he
    exact ⟨x, k, ev.symm⟩
  have pt : (vs.map strOf).Perm (txs es) := by
    have := pm.map strOf
    rw [List.map_map] at this
    exact this
  refine wpAny_bind (wpAny_newList ?_ (by rw [sizeLine_eq]; omega))
  have here : (s1.heap.push (seqObj "list" vs.toArray 0)).get? s1.heap.objs.size = some (seqObj "list" vs.toArray 0) := Heap.get?_push_size _ rfl
  refine wpAny_bind (wpAny_holding (wpAny_call_entry slot_list_sort ⟨_, here, rfl⟩ entry_list_sort (list_sort_treeK strKind_oneLt here tst.keysOf (fun v1 v2 rest e => keyKind_strs (by rw [← e]; exact tst)) len64 fun st' hp hs => ⟨_, rfl, ?_⟩) (args_list_sort _)))
  obtain ⟨ys, y1, y2, y3⟩ := sorted_out_str tst hp hs
  obtain ⟨c, hc⟩ := sortedHeap_at (vs := vs) (out := (arrOf st').map (·.2)) here
  have py := y2.trans pt
  refine wpAny_pure ⟨_, rfl, q _ s1.heap.objs.size _ c ys (fun b u e => ?_) gens os size hc y1 (py.nodup_iff.mpr T.nd) y3 (fun x => by rw [py.mem_iff, T.mem x]) ?_⟩
  · have e1 := old b u e
    have lt := Heap.lt_size e1
    show (sortedHeap (s1.heap.push (seqObj "list" vs.toArray 0)) s1.heap.objs.size vs _).get? b = some u
    rw [sortedHeap_old (Nat.ne_of_lt lt) (by rw [size_push']; exact Nat.lt_succ_of_lt lt)]
    exact Heap.get?_push_of_some _ e1
  · rw [py.length_eq]
    show (es.toList.map _).length ≤ _
    rw [List.length_map, Array.length_toList]
    exact T.few
end
/-- the set of texts at a -/
def SetQO (w : World) (a : Addr) (l : List Str) : HO := .ext fun h => SetQ w h a l
theorem setQO_new {w : World} {P : Program} {H : Hp} {h : Heap} {a : Addr} {l : List Str} (R : SetQ w h a l) : ObjOk P w H h a (SetQO w a l) := by
  have ⟨o, _, _, _, ho, _⟩ := R
  exact ⟨R, ⟨o, ho⟩, fun h1 h2 p k => SetQ.at p k⟩
section
variable {X : Cx}
/-- set(xs), xs a list of texts -/
def rSetQ (K : PySem.W.Frag) (w : World) : List V → Hp → VK → Prop := fun vs H Q => ∃ (b : Addr) (xs : List Str), vs = [V.ref b] ∧ SqL K H b (xs.map V.str) ∧ xs.length ≤ 1000 ∧ ∀ p, H p = none → Q (.ref p) (upd H p (SetQO w p xs))
theorem cr_setQ (hc : X.calm = true) : CallR X (.type "set") (rSetQ X.K X.w) := by
  intro pins s σ H vs us Q I r h
  obtain ⟨b, xs, rfl, hl, few, q⟩ := h
  rw [Vals.ref1 r]
  obtain ⟨its, rv, pl, hz⟩ := I.list hl
  refine setQ_list (P := X.prog) (w := X.w) xs (I.ok.hd hc) pl.isList (by simpa using strsAre_of rv) (by unfold scanBound; omega) fun h' tk R k => ?_
  exact ⟨.ref s.heap.objs.size, upd H s.heap.objs.size (SetQO X.w s.heap.objs.size xs), I.laid (t' := tk) k (Nat.le_refl _) (setQO_new R), rfl, q _ (I.hok.fresh (Nat.le_refl _))⟩
/-- sorted(found) of a set of texts -/
def rSortedQ (w : World) : List V → Hp → VK → Prop := fun vs H Q => ∃ (a : Addr) (l : List Str), vs = [V.ref a] ∧ H a = some (SetQO w a l) ∧ l.length < 64 ∧
  ∀ (ys : List Str) (p : Addr), ys.Nodup → sortedS ys = true → (∀ x, x ∈ ys ↔ x ∈ l) → ys.length ≤ l.length → H p = none → Q (.ref p) (upd H p (.lst (ys.map V.str)))
theorem cr_sortedQ (hc : X.calm = true) : CallR X (.builtin "sorted") (rSortedQ X.w) := by
  intro pins s σ H vs us Q I r h
  obtain ⟨a, l, rfl, ha, few, q⟩ := h
  have R : SetQ X.w s.heap a l := (I.hok a _ ha).1
  rw [Vals.ref1 r]
  refine sortedQ R (I.ok.hd hc) few fun s' p out c ys k g o hp hg hi nd so me le => ?_
  have small : (ys.map V.str).length ≤ sizeLine := by rw [List.length_map, sizeLine_eq]; omega
  have free : H p = none := I.hok.fresh hp
  have J : Inv X pins σ (upd H p (.lst (ys.map V.str))) { s with heap := s'.heap, gens := s'.gens, drawn := s'.drawn, toks := s'.toks } :=
    I.call (ch := []) (Un.laid k hp free) (I.hok.laid k hp ⟨small, out.toList, c, vals_of_strs hi, hg⟩) (by rw [g]; exact I.bare) (fun _ z => nomatch z)
  have e : s' = { s with heap := s'.heap, gens := s'.gens, drawn := s'.drawn, toks := s'.toks } := by
    cases s'
    cases s
    cases o
    rfl
  rw [e]
  exact ⟨.ref p, _, J, rfl, q ys p nd so me le free⟩
end
end KX

end

section
set_option Elab.async false
set_option linter.all false
set_option maxRecDepth 100000
set_option maxHeartbeats 2000000
/-! Tuples that are known to have no dict: their methods. -/
namespace KX
open PySem PySem.Spec PyProof.Rows L2 HT
def TupZ (H : Hp) (a : Addr) (xs : List V) : Prop := ∃ o : Obj, H a = some (.frz o (.tup xs)) ∧ o.dict = none
theorem TupZ.sq {K : PySem.W.Frag} {H : Hp} {a : Addr} {xs : List V} (h : TupZ H a xs) : SqT K H a xs := let ⟨o, h, _⟩ := h; .inl (.inr ⟨o, h⟩)
theorem TupZ.same {H H' : Hp} {a : Addr} {xs : List V} (h : TupZ H a xs) (s : ∀ b u, H b = some u → H' b = some u) : TupZ H' a xs := let ⟨o, h, d⟩ := h; ⟨o, s _ _ h, d⟩
theorem TupZ.new {H : Hp} {a : Addr} {xs : List V} {o : Obj} (d : o.dict = none) : TupZ (upd H a (.frz o (.tup xs))) a xs := ⟨o, upd_same, d⟩
section
variable {X : Cx}
def tTupZ (t : TA) : TE := fun σ H Q => t σ H fun xs H1 => xs.length ≤ sizeLine ∧ ∀ p (o : Obj), H1 p = none → o.dict = none → Q (.ref p) (upd H1 p (.frz o (.tup xs)))
theorem pe_tupZ {es : List Expr} {x1 : Nat} {pos : Pos} {t : TA} (h : PA X es t) : PE X (.Tuple es x1 pos) (tTupZ t) := by
  refine ⟨fun pins s σ H Q I hq => ?_⟩
  refine wpAny_Tuple_spliced (thn (h.run pos pins s σ H _ I hq) fun us s1 ⟨xs, H1, I1, r, z, q⟩ => ⟨by rw [← r.length]; exact z, ?_⟩)
  have free : H1 s1.heap.objs.size = none := I1.hok.fresh (Nat.le_refl _)
  refine ⟨.ref s1.heap.objs.size, upd H1 s1.heap.objs.size (.frz { cls := .type "tuple", data := .seq us.toArray } (.tup xs)), I1.laid (t' := s1.toks) (fun b u e => Heap.get?_push_of_some _ e) (Nat.le_refl _) ?_, rfl, q _ _ free rfl⟩
  exact ⟨Heap.get?_push_size _ rfl, z, us, r, ⟨_, Heap.get?_push_size _ rfl, rfl, _, rfl⟩⟩
/-- tuple(xs) of a list -/
theorem call_tupleZ : CallR X (.type "tuple") (fun xs H Q => ∃ p ys, xs = [.ref p] ∧ SqL X.K H p ys ∧ ∀ l (o : Obj), H l = none → o.dict = none → Q (.ref l) (upd H l (.frz o (.tup ys)))) := by
  intro pins s σ H xs us Q I r h
  obtain ⟨p, ys, rfl, hq, q⟩ := h
  obtain ⟨u, rfl, rx⟩ := vals1 r
  cases rx
  obtain ⟨its, r', pl, hz⟩ := I.list hq
  have len := r'.length
  refine call_tuple_list pl.isList (fun h' kp => ?_) (by simp only [List.size_toArray] <;> omega)
  have I1 : Inv X pins σ H { s with heap := h' } := I.kept (t' := s.toks) kp
  have I2 : Inv X pins σ (upd H h'.objs.size (.frz { cls := .type "tuple", data := .seq its.toArray } (.tup ys))) { s with heap := h'.push { cls := .type "tuple", data := .seq its.toArray } } :=
    I1.laid (t' := s.toks) (fun b o e => Heap.get?_push_of_some _ e) (Nat.le_refl _) ⟨Heap.get?_push_size _ rfl, hz, its, r', IsTup.new _ _⟩
  exact ⟨.ref h'.objs.size, _, I2, rfl, q _ _ (I1.hok.fresh (Nat.le_refl _)) rfl⟩
/-- t.name(e, ..) of such a tuple -/
def tBMT (r : V → List V → Hp → VK → Prop) (to : TE) (t : TA) : TE := fun σ H Q => to σ H fun x H1 => (∃ a ys, x = .ref a ∧ TupZ H1 a ys) ∧ t σ H1 fun xs H2 => r x xs H2 Q
theorem pe_bmT {o e : Expr} {es : List Expr} {to : TE} {t : TA} {name : Str} {apos cpos : Pos} {id : String} {r : V → List V → Hp → VK → Prop} (slot : PySem.Slot "tuple" name id) (kind : typeOf (.builtin id) = pure (.type "method_descriptor")) (hm : MtR X id r) (ho : PE X o to) (ha : PA X (e :: es) t)
    (base : attributeBase o name X.env (eval o X.env) = eval o X.env := by rfl) (few : ((backTo cpos (starEach (e :: es) X.env)).all (fun x => !x.1) && (backToKw cpos (keywordEach [] X.env)).all (fun x => x.1.isSome) && decide ((e :: es).length + ([] : List Keyword).length + (if ([] : List Keyword).isEmpty then 0 else 1) < 30)) = true := by rfl)
    (line : (apos.endLine == cpos.line) = true := by rfl) (st : starEach (e :: es) X.env = (false, eval e X.env) :: starEach es X.env := by rfl) (noStar : (backTo cpos (starEach es X.env)).any (·.1) = false := by rfl) : PE X (.Call (.Attribute o name apos) (e :: es) [] cpos) (tBMT r to t) := by
  refine ⟨fun pins s σ H Q I h => ?_⟩
  refine wpAny_Call_method_late base few line rfl (thn (ho.run pins s σ H _ I h) fun v s1 ⟨x, H1, I1, r1, ⟨a, ys, ex, ob, hz, hd⟩, q1⟩ => ?_)
  subst ex
  cases r1
  obtain ⟨hob, htup⟩ : s1.heap.get? a = some ob ∧ ObjOk X.prog X.w H1 s1.heap a (.tup ys) := I1.hok a _ hz
  obtain ⟨_, its, _, o', ho', hc', _⟩ := htup
  refine ⟨"tuple", id, PySem.F.plainAttrs_tuple, slot, kind, ⟨o', ho', hc'⟩, fun b eb => by cases eb; exact ⟨ob, hob, hd⟩, ?_⟩
  have args := ha.run cpos pins s1 σ H1 _ I1 q1
  rw [st] at args ⊢
  refine Calls.callWith_builtin (by show (false || (backTo cpos (starEach es X.env)).any (·.1)) = false; rw [noStar] <;> rfl) (Calls.evalArgs_plain ?_)
  exact thn args fun us s2 ⟨vs, H2, I2, r2, q2⟩ => hm pins s2 σ H2 (.ref a) vs (.ref a) us Q I2 rfl r2 q2
end
end KX

end

section
set_option Elab.async false
set_option linter.all false
set_option maxRecDepth 100000
set_option maxHeartbeats 4000000
namespace KX
open PySem PySem.Spec PyProof.Rows L2
/-- enumerate of a list or a tuple, told by what stays -/
def iEnumS (K : PySem.W.Frag) (ta : TA) : TI := fun σ H R => ta σ H fun vs H1 => ∃ a xs, vs = [.ref a] ∧ ∃ S : Hp → Prop, ((SqL K H1 a xs ∧ ∀ H3, S H3 → SqL K H3 a xs) ∨ (SqT K H1 a xs ∧ ∀ H3, S H3 → SqT K H3 a xs)) ∧
  ∀ (J : It) (G : Hp → Prop), Walk J xs.length G (YPair (fun i => some (.int (i : Nat))) (fun i => xs[i]?)) → (∀ H3, S H3 → G H3) → R J H1
theorem pi_enumS {X : Cx} {e : Expr} {ta : TA} {p pos tpos : Pos} {elts : List Expr} {kk : Nat} (hg : Gl X "enumerate") (hm : X.mg "enumerate" = none) (ha : PA X [e] ta) (hs : starEach [e] X.env = [(false, eval e X.env)] := by rfl) :
    PI X (.Tuple elts kk tpos) (.Call (.Name "enumerate" p) [e] [] pos) (iEnumS X.K ta) := by
  refine ⟨fun pins s σ H R I h => ?_⟩
  refine Call_ (ld_blt I hg hm boot_enumerate (PyProof.Rows.callWith_type1 (thn (ha.run pos pins s σ H _ I h) fun us s1 ⟨vs, H1, I1, r1, q1⟩ => ?_) hs rfl))
  obtain ⟨a, xs, ex, S, hsq, q⟩ := q1
  subst ex
  cases r1 with
  | cons r rr =>
    cases rr
    cases r
    have fin : ∀ {b : Addr}, b ∈ [s1.heap.objs.size + 1, s1.heap.objs.size] → FpOk X pins H1 b := fun {b} hb => by
      have e' : b = s1.heap.objs.size + 1 ∨ b = s1.heap.objs.size := by simpa using hb
      have hle : s1.heap.objs.size ≤ b := by
        rcases e' with z | z
        · rw [z]; exact Nat.le_add_right _ _
        · rw [z]; exact Nat.le_refl _
      exact I1.fpOk hle (I1.hok.fresh hle)
    rcases hsq with ⟨hq, hS⟩ | ⟨hq, hS⟩
    · obtain ⟨its, rv, p', hz⟩ := I1.list hq
      refine call_enumerate_list p'.isList fun h' he hit hsz hk => wpAny_pyIter_enum he ?_
      have I2 : Inv X pins σ H1 { s1 with heap := h' } := I1.kept (t' := s1.toks) hk
      exact ⟨s1.heap.objs.size + 1, [s1.heap.objs.size + 1, s1.heap.objs.size], _, _, H1, rfl, I2, turn_enum a (s1.heap.objs.size + 1) s1.heap.objs.size, ⟨⟨.none, he⟩, hit, Nat.succ_ne_self _⟩, fun b hb => fin hb, q _ _ walk_enum hS⟩
    · obtain ⟨its, rv, p', hz⟩ := I1.tuple hq
      have hT0 : s1.heap.IsTuple a its.toArray := p'
      have hal : a < s1.heap.objs.size := by obtain ⟨_, z, _⟩ := hT0; exact Heap.lt_size z
      refine enum1 (begins_tuple a its.toArray) hT0 fun h' he hit hsz hk => wpAny_pyIter_enum he ?_
      have I2 : Inv X pins σ H1 { s1 with heap := h' } := I1.kept (t' := s1.toks) hk
      exact ⟨s1.heap.objs.size + 1, [s1.heap.objs.size + 1, s1.heap.objs.size], _, _, H1, rfl, I2, turn_enumT a (s1.heap.objs.size + 1) s1.heap.objs.size (Nat.ne_of_lt hal) (Nat.ne_of_lt (Nat.lt_succ_of_lt hal)), ⟨⟨.none, he⟩, ⟨_, hit, rfl, rfl⟩, Nat.succ_ne_self _⟩, fun b hb => fin hb, q _ _ walk_enumT hS⟩
end KX

end

section
set_option Elab.async false
set_option linter.all false
set_option maxRecDepth 100000
set_option maxHeartbeats 4000000
/-! Draws. -/
namespace K41
open PySem PySem.Spec PyProof.Rows L2 KX
theorem ints_shaped : ∀ ns : List Int, PyData.canLayAll0 (ns.map PyData.int) = true ∧ PyData.depthAll (ns.map PyData.int) ≤ 1
  | [] => ⟨rfl, Nat.zero_le _⟩
  | n :: r => by
    obtain ⟨h1, h2⟩ := ints_shaped r
    rw [List.map_cons]
    refine ⟨?_, ?_⟩
    · simp only [PyData.canLayAll0, h1, Bool.and_true]
      rfl
    · simp only [PyData.depthAll]
      have : (PyData.int n).depth ≤ 1 := by simp [PyData.depth]
      omega
theorem shaped_ints (ns : List Int) : SeqAt.shaped (.list (ns.map PyData.int)) = true := by
  obtain ⟨h1, h2⟩ := ints_shaped ns
  unfold SeqAt.shaped
  simp only [PyData.canLay0, h1, Bool.true_and, PyData.depth]
  exact decide_eq_true (by omega)
theorem shaped_text (ns : List Int) : SeqAt.shaped (.tuple (ns.map PyData.int)) = true := by
  obtain ⟨h1, h2⟩ := ints_shaped ns
  unfold SeqAt.shaped
  simp only [PyData.canLay0, h1, Bool.true_and, PyData.depth]
  exact decide_eq_true (by omega)
section
variable {P : Program} {w : World} {K : PySem.W.Frag} {mg : Str → Option Value} {base : Heap}
theorem pe_by {X : Cx} {e : Expr} {t t' : TE} (h : PE X e t) (c : ∀ σ H Q, t' σ H Q → t σ H Q) : PE X e t' := ⟨fun pins s σ H Q I k => h.run pins s σ H Q I (c σ H Q k)⟩
/-- the row that is drawn from -/
def tRow (K : PySem.W.Frag) : TE := fun σ H Q => ∃ (a : Addr) (ns : List Int), σ[0]? = some (some (.ref a)) ∧ SqL K H a (ns.map V.int) ∧ ∀ (b : Addr) (ks : List Int) H', Same H H' → SqL K H' b (ks.map V.int) → 0 < ks.length → ks.length ≤ 60 → Q (.ref b) H'
def spDraw (K : PySem.W.Frag) : Sp := fun vs H Q _ => ∃ (a : Addr) (i m : Int) (ns : List Int), vs = [.ref a, .int i, .int m] ∧ SqL K H a (ns.map V.int) ∧ ns.length ≤ 63 ∧ 0 ≤ i ∧ i < 1000000 ∧ 0 < m ∧ ∀ (r : Nat) H', Same H H' → (r : Int) < m → Q (.int (r : Nat)) H'
theorem row_conv : ∀ σ H Q, tRow K σ H Q → tIf (tTest (tOp (rNeD K) (tVar 0) (tLst tNil))) (tSl (rSlL K) (tVar 0) tNoPart (tPart (tC (.int 60)))) (tLst (tCons (tC (.int 7)) tNil)) σ H Q := by
  rintro σ H Q ⟨a, ns, e, hs, q⟩
  refine ⟨_, e, by show 0 ≤ sizeLine; decide, fun l hl0 => ?_⟩
  have s1 : Same H (upd H l (.lst [])) := same_upd (Same.refl H) hl0
  have hs1 := s1.seq hs
  refine ⟨.list (ns.map .int), .list [], .lst hs1 (ints_all ns), .lst (SqL.of upd_same) .nil, shaped_ints ns, by decide +kernel, _, rfl, ?_⟩
  generalize upd H l (.lst []) = H1 at s1 hs1 ⊢
  cases ns with
  | nil => exact iteF ⟨by show 1 ≤ sizeLine; decide, fun p hp => q p [7] _ (s1.trans (same_upd (Same.refl _) hp)) (SqL.of upd_same) (by decide) (by decide)⟩
  | cons c r =>
    refine iteT ⟨_, e, _, rfl, a, _, rfl, hs1, fun p hp => q p ((c :: r).take 60) _ (s1.trans (same_upd (Same.refl _) hp)) (SqL.of ?_) (by simp) (by rw [List.length_take]; omega)⟩
    rw [upd_same, List.map_take]
    congr 2
    unfold cutV
    have e60 := HT.sIx_nat ((c :: r).map V.int).length ((c :: r).map V.int).length 60
    rw [HT.sIx_none, show (some 60 : Option Int) = some ((60 : Nat) : Int) from rfl, e60, List.drop_zero, Nat.sub_zero]
    by_cases h : 60 ≤ ((c :: r).map V.int).length
    · rw [Nat.min_eq_left h]
    · rw [Nat.min_eq_right (by omega), List.take_of_length_le (Nat.le_refl _), List.take_of_length_le (by omega)]
theorem ok__law_draw (T : Top K mg) : FnOk P w K mg base (L2.CX P w) 1 T._law_draw.a T._law_draw.d ["script", "at", "many"] (spDraw K) := by
  refine T._law_draw.f.okX sc__law_draw (fun vs H Q E h => ?_) (fun cdv A outer s H vs Q E hr h => ?_)
  · obtain ⟨a, i, m, ns, rfl, _⟩ := h
    rfl
  · obtain ⟨a, i, m, ns, rfl, hs, hl, i0, i1, m0, q⟩ := h
    refine ⟨_, (pss_cons ((ps_set (i := 3) sc__law_draw.nd rfl (Or.inl rfl) (pe_by (t' := tRow K) (pe_ifExp (pt_cmpR (op_neD hr.units) (pv 0) ((pe_lst pa_nil)) (by rfl)) (pe_slice sl_list (pv 0) po_none (po_some pe_int)) (pe_lst (pa_cons (pe_int) pa_nil))) row_conv))) (pss_cons (ps_par (i := 4) (j := 5) (by rfl) sc__law_draw.nd rfl rfl (by decide) rfl rfl (pa_cons (pe_ix (ix_list) (pv 3) ((pe_op (op_mod) (pv 1) ((pe_callB call_len_seq (by rfl) T.bf.len_ PySem.boot_len (pa_cons (pv 3) pa_nil))))) (fun _ _ => rfl)) (pa_cons (pe_op (op_fdiv) (pv 1) ((pe_callB call_len_seq (by rfl) T.bf.len_ PySem.boot_len (pa_cons (pv 3) pa_nil)))) pa_nil)) (by rfl)) (pss_cons ((ps_if ((pt_cmpR (op_ge) (pv 4) ((pe_op (op_pow) (pe_int) (pe_int))) (by rfl))) ((pss_cons ((ps_set (i := 4) sc__law_draw.nd rfl (Or.inl rfl) ((pe_op (op_mod) ((pe_callTy (call_int1) (by rfl) T.bf.int_ (by decide +kernel) (pa_cons (pv 4) pa_nil))) ((pe_op (op_pow) (pe_int) (pe_int))))))) (pss_cons ((ps_for pO rfl (pi_range1 (by rfl) T.bf.range_ (pa_cons (pe_op (op_mod) (pv 5) (pe_int)) pa_nil)) (pg_name (i := 6) sc__law_draw.nd rfl (Or.inl rfl)) ((pss_one ((ps_set (i := 4) sc__law_draw.nd rfl (Or.inl rfl) ((pe_op (op_fdiv) (pv 4) (pe_int))))))))) (pss_one ((ps_ret ((pe_op (op_mod) ((pe_op (op_mod) ((pe_callTy (call_int1) (by rfl) T.bf.int_ (by decide +kernel) (pa_cons (pv 4) pa_nil))) (pe_int))) (pv 2))))))))) (pss_nil))) (pss_cons ((ps_set (i := 7) sc__law_draw.nd rfl (Or.inl rfl) ((pe_op (op_add) ((pe_op (op_mul) ((pe_op (op_add) ((pe_op (op_add) ((pe_op (op_mod) ((pe_callTy (call_int1) (by rfl) T.bf.int_ (by decide +kernel) (pa_cons ((pe_op (op_add) (pv 4) ((pe_op (op_mul) (pe_int) (pv 5))))) pa_nil))) (pe_int))) ((pe_op (op_mul) (pe_int) (pv 1))))) (pe_int))) (pe_int))) ((pe_op (op_mod) ((pe_callTy (call_int1) (by rfl) T.bf.int_ (by decide +kernel) (pa_cons ((pe_op (op_fdiv) (pv 4) (pe_int))) pa_nil))) (pe_int))))))) (pss_one ((ps_ret ((pe_op (op_mod) ((pe_callTy (call_int1) (by rfl) T.bf.int_ (by decide +kernel) (pa_cons ((pe_op (op_mod) ((pe_op (op_mul) ((pe_op (op_mod) (pv 7) (pe_int))) (pe_int))) (pe_int))) pa_nil))) (pv 2)))))))))), ?_⟩
    have fin : ∀ (n : Int) (H' : Hp), Same H H' → Q (.int (n % m)) H' := fun n H' s => by
      obtain ⟨r, hr'⟩ := Int.eq_ofNat_of_zero_le (Int.emod_nonneg n (Int.ne_of_gt m0))
      have hlt := Int.emod_lt_of_pos n m0
      rw [hr'] at hlt ⊢
      exact q r H' s hlt
    refine ⟨a, ns, rfl, hs, fun b ks H1 s1 hb k0 k60 => ?_⟩
    have lenk : (ks.map V.int).length = ks.length := List.length_map _
    have pos : (0 : Int) < ((ks.map V.int).length : Nat) := by rw [lenk]; omega
    obtain ⟨j, hj⟩ := Int.eq_ofNat_of_zero_le (Int.emod_nonneg i (Int.ne_of_gt pos))
    have hlt : j < (ks.map V.int).length := by
      have := Int.emod_lt_of_pos i pos
      omega
    have hget : (ks.map V.int)[j]? = some (V.int (ks[j]'(by rw [lenk] at hlt; exact hlt))) := by
      rw [List.getElem?_map, List.getElem?_eq_getElem (by rw [lenk] at hlt; exact hlt)]
      rfl
    generalize ks[j]'(by rw [lenk] at hlt; exact hlt) = c at hget
    have t0 : 0 ≤ i / ((ks.map V.int).length : Nat) := Int.ediv_nonneg i0 (by omega)
    have t1 : i / ((ks.map V.int).length : Nat) ≤ i := Int.ediv_le_self _ i0
    refine ⟨_, rfl, _, rfl, _, rfl, b, _, rfl, .inl hb, _, _, rfl, rfl, pos, b, _, _, _, rfl, rfl, hb, by rw [hj]; exact atI_nat hget, _, rfl, _, rfl, b, _, rfl, .inl hb, _, _, rfl, rfl, ⟨pos, by rw [lenk]; omega⟩, _, _, rfl, ?_⟩
    refine ⟨_, rfl, _, _, rfl, rfl, ⟨by decide, by decide, by decide⟩, _, _, rfl, rfl, _, rfl, ?_⟩
    refine ite2 (fun _ => ?_) (fun _ => ?_)
    · refine ⟨_, rfl, .inl ⟨_, rfl, _, _, rfl, rfl, ⟨by decide, by decide, by decide⟩, _, _, rfl, rfl, (show (0 : Int) < 97 ^ Int.toNat 40 by decide +kernel), ?_⟩⟩
      have r40 := Int.emod_nonneg (i / ((ks.map V.int).length : Nat)) (show (40 : Int) ≠ 0 by decide)
      have l40 := Int.emod_lt_of_pos (i / ((ks.map V.int).length : Nat)) (show (0 : Int) < 40 by decide)
      refine ⟨_, rfl, _, _, rfl, rfl, (show (0 : Int) < 40 by decide), _, rfl, by omega, by omega, ?_⟩
      refine for_it (walk_range (lo := 0) (n := ((i / ((ks.map V.int).length : Nat)) % 40).toNat)) (fun _ σ H' => (∃ x4 x6, σ = [some (.ref a), some (.int i), some (.int m), some (.ref b), some (.int x4), some (.int (i / ((ks.map V.int).length : Nat))), x6, none]) ∧ H' = H1) ⟨⟨_, _, rfl⟩, rfl⟩ (fun _ _ _ _ _ => trivial) ?_ ?_
      · rintro k x σ H' H'' hk ⟨⟨x4, x6, rfl⟩, rfl⟩ ⟨rfl, rfl⟩
        exact ⟨_, rfl, _, _, rfl, rfl, ⟨by decide, by decide⟩, ⟨_, _, rfl⟩, rfl⟩
      · rintro σ H' ⟨⟨x4, x6, rfl⟩, rfl⟩
        exact ⟨_, rfl, .inl ⟨_, rfl, _, _, rfl, rfl, (show (0 : Int) < 97 by decide), _, rfl, _, _, rfl, rfl, m0, fin _ _ s1⟩⟩
    · refine ⟨_, rfl, _, rfl, _, _, rfl, rfl, .inl ⟨by decide, by decide⟩, _, _, rfl, rfl, .inl ⟨_, rfl, _, _, rfl, rfl, (show (0 : Int) < 1000003 by decide), ?_⟩⟩
      refine ⟨_, rfl, _, _, rfl, rfl, .inl ⟨by decide, by decide⟩, _, _, rfl, rfl, _, _, rfl, rfl, _, _, rfl, rfl, .inr ⟨by decide, by decide⟩, ?_⟩
      refine ⟨_, rfl, _, _, rfl, rfl, ⟨by decide, by decide⟩, .inl ⟨_, rfl, _, _, rfl, rfl, (show (0 : Int) < 999983 by decide), _, _, rfl, rfl, ?_⟩⟩
      exact ⟨_, rfl, _, _, rfl, rfl, (show (0 : Int) < 2147483647 by decide), _, _, rfl, rfl, .inr ⟨by decide, by decide⟩, _, _, rfl, rfl, (show (0 : Int) < 4294967291 by decide), .inl ⟨_, rfl, _, rfl, _, _, rfl, rfl, m0, fin _ _ s1⟩⟩
end
end K41

end

section
set_option Elab.async false
set_option linter.all false
set_option maxRecDepth 100000
set_option maxHeartbeats 4000000
/-! Written data; comprehensions of data. -/
namespace K41
open PySem PySem.Spec PyProof.Rows L2 KX
mutual
inductive Lit : Expr → PyData → Prop where
  | non {k p} : Lit (.Constant .none k p) .none
  | bl {b k p} : Lit (.Constant (.bool b) k p) (.bool b)
  | int {n k p} : Lit (.Constant (.int n) k p) (.int n)
  | str {x k p} : Lit (.Constant (.str x) k p) (.str x)
  | neg {n k p p2} : Lit (.UnaryOp .USub (.Constant (.int n) k p) p2) (.int (-n))
  | tup {es ds k p} (h : Lits es ds) : Lit (.Tuple es k p) (.tuple ds)
  | lst {es ds p} (h : Lits es ds) : Lit (.List es p) (.list ds)
inductive Lits : List Expr → List PyData → Prop where
  | nil : Lits [] []
  | cons {e d es ds} (h : Lit e d) (t : Lits es ds) (n : ds.length ≤ 99) : Lits (e :: es) (d :: ds)
end
def tLit (K : PySem.W.Frag) (d : PyData) : TE := fun σ H Q => ∀ v H', Same H H' → Dp K H' v d → Q v H'
def tLits (K : PySem.W.Frag) (ds : List PyData) : TA := fun σ H Q => ∀ vs H', Same H H' → DpAll K H' vs ds → ds.length ≤ 100 → Q vs H'
section
variable {X : Cx}
mutual
theorem pe_lit : ∀ {e : Expr} {d : PyData}, Lit e d → PE X e (tLit X.K d)
  | _, _, .non => ⟨fun pins s σ H Q I h => (pe_non).run pins s σ H Q I (h _ _ (Same.refl H) .non)⟩
  | _, _, .bl => ⟨fun pins s σ H Q I h => (pe_bl).run pins s σ H Q I (h _ _ (Same.refl H) (.bl _))⟩
  | _, _, .int => ⟨fun pins s σ H Q I h => (pe_int).run pins s σ H Q I (h _ _ (Same.refl H) (.int _))⟩
  | _, _, .str => ⟨fun pins s σ H Q I h => (pe_str).run pins s σ H Q I (h _ _ (Same.refl H) (.str _))⟩
  | _, _, .neg => ⟨fun pins s σ H Q I h => (pe_un un_neg pe_int).run pins s σ H Q I ⟨_, rfl, h _ _ (Same.refl H) (.int _)⟩⟩
  | _, _, .tup t => ⟨fun pins s σ H Q I h => (pe_tup (pa_lits t)).run pins s σ H Q I fun vs H1 s1 ha hl => ⟨by rw [all_len ha]; exact small (by omega), fun p hp =>
      let s2 := same_upd (o := .tup vs) (Same.refl H1) hp
      h _ _ (s1.trans s2) (.tup (SqT.of upd_same) (dpAll_same s2 ha))⟩⟩
  | _, _, .lst t => ⟨fun pins s σ H Q I h => (pe_lst (pa_lits t)).run pins s σ H Q I fun vs H1 s1 ha hl => ⟨by rw [all_len ha]; exact small (by omega), fun p hp =>
      let s2 := same_upd (o := .lst vs) (Same.refl H1) hp
      h _ _ (s1.trans s2) (.lst (SqL.of upd_same) (dpAll_same s2 ha))⟩⟩
theorem pa_lits : ∀ {es : List Expr} {ds : List PyData}, Lits es ds → PA X es (tLits X.K ds)
  | _, _, .nil => ⟨fun pos pins s σ H Q I h => pa_nil.run pos pins s σ H Q I (h _ _ (Same.refl H) .nil (by simp))⟩
  | _, _, .cons hd tl n => ⟨fun pos pins s σ H Q I h => (pa_cons (pe_lit hd) (pa_lits tl) (by cases hd <;> rfl)).run pos pins s σ H Q I fun v H1 s1 h1 vs H2 s2 h2 _ => h _ _ (s1.trans s2) (.cons (dp_same s2 h1) h2) (by rw [List.length_cons]; omega)⟩
end
end
mutual
def flatD : PyData → Bool
  | .list _ => false
  | .dict _ => false
  | .tuple ds => flatAll ds
  | _ => true
def flatAll : List PyData → Bool
  | [] => true
  | d :: r => flatD d && flatAll r
end
mutual
theorem dp_at {K : PySem.W.Frag} {H : Hp} {D : Addr} {vs ws : List V} (h : H D = some (.lst vs)) : ∀ {d : PyData} {v : V}, Dp K H v d → flatD d = true → Dp K (upd H D (.lst ws)) v d
  | .none, _, .non, _ => .non
  | .bool _, _, .bl b, _ => .bl b
  | .int _, _, .int i, _ => .int i
  | .str _, _, .str x, _ => .str x
  | .list _, _, .lst _ _, e => by simp [flatD] at e
  | .tuple ds, _, .tup (a := a) (xs := xs) hs ha, e => .tup (by
      have ne : ∀ {u : HO}, H a = some u → (∀ l, u ≠ .lst l) → a ≠ D := fun {u} e h' z => by
        rw [z, h] at e
        exact h' _ (Option.some.inj e).symm
      rcases hs with (hs | ⟨o, hs⟩) | hs
      · exact .inl (.inl (by rw [upd_ne (ne hs fun l z => nomatch z)]; exact hs))
      · exact .inl (.inr ⟨o, by rw [upd_ne (ne hs fun l z => nomatch z)]; exact hs⟩)
      · exact .inr hs) (dpAll_at h ha (by simpa [flatD] using e))
theorem dpAll_at {K : PySem.W.Frag} {H : Hp} {D : Addr} {vs ws : List V} (h : H D = some (.lst vs)) : ∀ {ds : List PyData} {xs : List V}, DpAll K H xs ds → flatAll ds = true → DpAll K (upd H D (.lst ws)) xs ds
  | [], _, .nil, _ => .nil
  | _ :: _, _, .cons hd tl, e => by
    have e : (flatD _ && flatAll _) = true := e
    rw [Bool.and_eq_true] at e
    exact .cons (dp_at h hd e.1) (dpAll_at h tl e.2)
end
theorem dpAll_snoc {K : PySem.W.Frag} {H : Hp} {v : V} {d : PyData} (h : Dp K H v d) : ∀ {xs : List V} {ds : List PyData}, DpAll K H xs ds → DpAll K H (xs ++ [v]) (ds ++ [d])
  | _, _, .nil => .cons h .nil
  | _, _, .cons a t => .cons a (dpAll_snoc h t)
theorem flat_snoc {d : PyData} (h : flatD d = true) : ∀ {ds : List PyData}, flatAll ds = true → flatAll (ds ++ [d]) = true
  | [], _ => by show (flatD d && true) = true; rw [h]; rfl
  | x :: r, e => by
    have e : (flatD x && flatAll r) = true := e
    rw [Bool.and_eq_true] at e
    show (flatD x && flatAll (r ++ [d])) = true
    rw [e.1, flat_snoc h e.2]
    rfl
section
variable {K : PySem.W.Frag} {J : It} {n i : Nat} {G : Hp → Prop} {Y : Nat → Hp → V → Hp → Prop} {te : TE} {σ : L2.St} {H0 : Hp} {D : Addr} {Qd : Hp → Prop}
theorem lc_rel (w : Walk J n G Y) (R : Nat → PyData → Prop) (hG : ∀ H, Same H0 H → G H) (h1 : H0 D = none) (sm : n ≤ 1000) (hw : ∀ x, wipe ((wipe σ [i]).set i (some x)) [i] = wipe σ [i])
    (hs : ∀ j x H H', j < n → Same H0 H → Y j H x H' → Same H H' ∧ ∀ Q : VK, (∀ v d H2, Same H' H2 → Dp K H2 v d → R j d → flatD d = true → Q v H2) → te ((wipe σ [i]).set i (some x)) H' Q)
    (hd : ∀ H vs ds, Same H0 H → H D = some (.lst vs) → DpAll K H vs ds → ds.length = n → (∀ j d, ds[j]? = some d → R j d) → Qd H) :
    ∃ W : Nat → Nat → Hp → Prop, (∃ m, W 0 m (upd H0 D (.lst []))) ∧ ∀ j m H, W j m H →
      (J.stop j H ∧ Qd H) ∨ (J.go j H ∧ ∃ Nx : Hp → Prop, (∀ H', Nx H' → ∃ m', m' < m ∧ W (j + 1) m' H') ∧ ∀ x H', J.yld j H x H' → gName i x (wipe σ [i]) H' fun σ2 H2 => wipe σ2 [i] = wipe σ [i] ∧ tYes σ2 H2 fun b H3 =>
        if b = true then te σ2 H3 fun y H4 => ∃ acc, H4 D = some (.lst acc) ∧ acc.length < sizeLine ∧ Nx (upd H4 D (.lst (acc ++ [y]))) else Nx H3) := by
  refine lc_it w (fun j H => Same H0 H ∧ ∃ vs ds, H D = some (.lst vs) ∧ DpAll K H vs ds ∧ flatAll ds = true ∧ ds.length = j ∧ ∀ k d, ds[k]? = some d → R k d) ⟨same_upd (Same.refl H0) h1, [], [], upd_same, .nil, rfl, rfl, fun k d h => by simp at h⟩ (fun j H _ p => hG H p.1) ?_ ?_
  · rintro j x H H' hj ⟨s, vs, ds, hD, ha, hf, hl, hr⟩ y
    obtain ⟨s1, hq⟩ := hs j x H H' hj s y
    refine ⟨hw _, ?_⟩
    simp only [tYes, if_true]
    refine hq _ fun v d H2 s2 hv hR hfd => ?_
    have hD2 := (s1.trans s2) _ _ hD
    refine ⟨vs, hD2, ?_, same_upd ((s.trans s1).trans s2) h1, vs ++ [v], ds ++ [d], upd_same, dpAll_at hD2 (dpAll_snoc hv (dpAll_same (s1.trans s2) ha)) (flat_snoc hfd hf), flat_snoc hfd hf, by rw [List.length_append, hl]; rfl, ?_⟩
    · rw [all_len ha, hl]
      exact small1000 (by omega)
    · intro k d' hk
      rw [List.getElem?_append] at hk
      split at hk
      · exact hr k d' hk
      · rename_i nk
        have : k - ds.length = 0 := by
          have := (List.getElem?_eq_some_iff.mp hk).1
          simp at this
          omega
        rw [this] at hk
        simp at hk
        subst hk
        have ek : k = j := by omega
        subst ek
        exact hR
  · rintro H ⟨s, vs, ds, hD, ha, hf, hl, hr⟩
    exact hd H vs ds s hD ha hl hr
/-- the items' values, each told of by a relation that stays -/
theorem lc_relV (w : Walk J n G Y) (R : Nat → V → Hp → Prop) (hG : ∀ H, Same H0 H → G H) (h1 : H0 D = none) (sm : n ≤ 1000) (hw : ∀ x, wipe ((wipe σ [i]).set i (some x)) [i] = wipe σ [i])
    (stay : ∀ j v H H', R j v H → Same H H' → R j v H') (stab : ∀ j v H vs ws, H D = some (.lst vs) → R j v H → R j v (upd H D (.lst ws)))
    (hs : ∀ j x H H', j < n → Same H0 H → Y j H x H' → Same H H' ∧ ∀ Q : VK, (∀ v H2, Same H' H2 → R j v H2 → Q v H2) → te ((wipe σ [i]).set i (some x)) H' Q)
    (hd : ∀ H vs, Same H0 H → H D = some (.lst vs) → vs.length = n → (∀ j v, vs[j]? = some v → R j v H) → Qd H) :
    ∃ W : Nat → Nat → Hp → Prop, (∃ m, W 0 m (upd H0 D (.lst []))) ∧ ∀ j m H, W j m H →
      (J.stop j H ∧ Qd H) ∨ (J.go j H ∧ ∃ Nx : Hp → Prop, (∀ H', Nx H' → ∃ m', m' < m ∧ W (j + 1) m' H') ∧ ∀ x H', J.yld j H x H' → gName i x (wipe σ [i]) H' fun σ2 H2 => wipe σ2 [i] = wipe σ [i] ∧ tYes σ2 H2 fun b H3 =>
        if b = true then te σ2 H3 fun y H4 => ∃ acc, H4 D = some (.lst acc) ∧ acc.length < sizeLine ∧ Nx (upd H4 D (.lst (acc ++ [y]))) else Nx H3) := by
  refine lc_it w (fun j H => Same H0 H ∧ ∃ vs, H D = some (.lst vs) ∧ vs.length = j ∧ ∀ k v, vs[k]? = some v → R k v H) ⟨same_upd (Same.refl H0) h1, [], upd_same, rfl, fun k d h => by simp at h⟩ (fun j H _ p => hG H p.1) ?_ ?_
  · rintro j x H H' hj ⟨s, vs, hD, hl, hr⟩ y
    obtain ⟨s1, hq⟩ := hs j x H H' hj s y
    refine ⟨hw _, ?_⟩
    simp only [tYes, if_true]
    refine hq _ fun v H2 s2 hR => ?_
    have s12 := s1.trans s2
    have hD2 := s12 _ _ hD
    refine ⟨vs, hD2, ?_, same_upd (s.trans s12) h1, vs ++ [v], upd_same, by rw [List.length_append, hl]; rfl, ?_⟩
    · rw [hl]
      exact small1000 (by omega)
    · intro k u hk
      rw [List.getElem?_append] at hk
      split at hk
      · exact stab k u _ _ _ hD2 (stay k u _ _ (hr k u hk) s12)
      · rename_i nk
        have : k - vs.length = 0 := by
          have := (List.getElem?_eq_some_iff.mp hk).1
          simp at this
          omega
        rw [this] at hk
        simp at hk
        subst hk
        have ek : k = j := by omega
        subst ek
        exact stab k v _ _ _ hD2 hR
  · rintro H ⟨s, vs, hD, hl, hr⟩
    exact hd H vs s hD hl hr
/-- the items that pass a test, values that no heap tells of -/
theorem lc_filt {tt : TT} (w : Walk J n G Y) (f : Nat → Option V) (hG : ∀ H, Same H0 H → G H) (h1 : H0 D = none) (sm : n ≤ 1000) (hw : ∀ x, wipe ((wipe σ [i]).set i (some x)) [i] = wipe σ [i])
    (hs : ∀ j x H H', j < n → Same H0 H → Y j H x H' → Same H H' ∧ ∀ (Q : Hp → Prop) (Q2 : VK), (f j = none → ∀ H2, Same H' H2 → Q H2) → (∀ v, f j = some v → ∀ H2, Same H' H2 → Q2 v H2) → tt ((wipe σ [i]).set i (some x)) H' fun b H3 => if b = true then te ((wipe σ [i]).set i (some x)) H3 Q2 else Q H3)
    (hd : ∀ H, Same H0 H → H D = some (.lst ((List.range n).filterMap f)) → Qd H) :
    ∃ W : Nat → Nat → Hp → Prop, (∃ m, W 0 m (upd H0 D (.lst []))) ∧ ∀ j m H, W j m H →
      (J.stop j H ∧ Qd H) ∨ (J.go j H ∧ ∃ Nx : Hp → Prop, (∀ H', Nx H' → ∃ m', m' < m ∧ W (j + 1) m' H') ∧ ∀ x H', J.yld j H x H' → gName i x (wipe σ [i]) H' fun σ2 H2 => wipe σ2 [i] = wipe σ [i] ∧ tt σ2 H2 fun b H3 =>
        if b = true then te σ2 H3 fun y H4 => ∃ acc, H4 D = some (.lst acc) ∧ acc.length < sizeLine ∧ Nx (upd H4 D (.lst (acc ++ [y]))) else Nx H3) := by
  refine lc_it w (fun j H => Same H0 H ∧ H D = some (.lst ((List.range j).filterMap f))) ⟨same_upd (Same.refl H0) h1, by rw [upd_same]; rfl⟩ (fun j H _ p => hG H p.1) ?_ ?_
  · rintro j x H H' hj ⟨s, hD⟩ y
    obtain ⟨s1, hq⟩ := hs j x H H' hj s y
    refine ⟨hw _, hq _ _ (fun e H2 s2 => ⟨s.trans (s1.trans s2), ?_⟩) fun v e H2 s2 => ⟨_, (s1.trans s2) _ _ hD, ?_, same_upd (s.trans (s1.trans s2)) h1, ?_⟩⟩
    · rw [(s1.trans s2) _ _ hD, List.range_succ, List.filterMap_append]
      simp [e]
    · have := List.length_filterMap_le f (List.range j)
      rw [List.length_range] at this
      exact small1000 (by omega)
    · rw [upd_same, List.range_succ, List.filterMap_append]
      simp [e]
  · rintro H ⟨s, hD⟩
    exact hd H s hD
end
end K41

end

section
set_option Elab.async false
set_option linter.all false
set_option maxRecDepth 100000
set_option maxHeartbeats 4000000
/-! The law's kinds. -/
namespace K41
open PySem PySem.Spec PyProof.Rows L2 KX
def menuK : List (Str × Int × List PyData) := [("cut", 1, []), ("join", 2, [.str "new"]), ("move", 2, [.int 1, .str "new"]), ("pair", 2, []), ("put", 0, [.str "new"]), ("set", 1, [.str "new"]), ("swap", 2, [.int 1, .int 0]), ("turn", 2, [.int 1, .str "new", .int 0])]
def kindD (w : Int) (ps : List PyData) : PyData := .tuple [.int w, .tuple ps]
def menu : List (Str × PyData) := menuK.map fun m => (m.1, kindD m.2.1 m.2.2)
def pairsE (L : List Ent) : List (Str × PyData) := L.map fun e => (e.1, e.2.2)
def OfMenu (L : List Ent) : Prop := ∀ e ∈ L, (e.1, e.2.2) ∈ menu
def smallB : PyData → Bool
  | .tuple [_, b] => decide (lenD b ≤ 100)
  | _ => true
theorem smallB_ok {d : PyData} (h : smallB d = true) : smallD d := by
  unfold smallD
  unfold smallB at h
  split
  · exact of_decide_eq_true h
  · trivial
theorem menu_ok : (menu.all fun m => SeqAt.shaped (.list [m.2]) && (smallB m.2 && (decide (m.1.length ≤ 1000) && (isKindD m.2 && (isNameS m.1 && flatD m.2))))) = true := by decide +kernel
structure MenuOk (z : Str) (d : PyData) : Prop where
  sh : SeqAt.shaped (.list [d]) = true
  sm : smallD d
  ko : z.length ≤ 1000
  kd : isKindD d = true
  nm : isNameS z = true
  fl : flatD d = true
theorem menu_of {z : Str} {d : PyData} (h : (z, d) ∈ menu) : MenuOk z d := by
  have := List.all_eq_true.mp menu_ok _ h
  simp only [Bool.and_eq_true] at this
  obtain ⟨h1, h2, h3, h4, h5, h6⟩ := this
  exact ⟨h1, smallB_ok h2, of_decide_eq_true h3, h4, h5, h6⟩
theorem menu_nd : (menu.map (·.1)).Nodup := by decide +kernel
theorem menu_fun {z : Str} {d d' : PyData} (h : (z, d) ∈ menu) (h' : (z, d') ∈ menu) : d = d' := by
  obtain ⟨i, hi⟩ := List.mem_iff_getElem?.mp h
  obtain ⟨j, hj⟩ := List.mem_iff_getElem?.mp h'
  have hl := (List.getElem?_eq_some_iff.mp hi).1
  have : (menu.map (·.1))[i]? = (menu.map (·.1))[j]? := by rw [List.getElem?_map, List.getElem?_map, hi, hj]; rfl
  have e := (List.getElem?_inj (by rw [List.length_map]; exact hl) menu_nd).mp this
  subst e
  rw [hi] at hj
  cases hj
  rfl
theorem ents_of {K : PySem.W.Frag} {H : Hp} {L : List Ent} (dp : ∀ e ∈ L, Dp K H e.2.1 e.2.2) (m : OfMenu L) (nd : (L.map (·.1)).Nodup) (few : L.length ≤ 10) : Ents K H L :=
  ⟨dp, fun e h => (menu_of (m e h)).sh, fun e h => (menu_of (m e h)).sm, fun e h => (menu_of (m e h)).ko, nd, few⟩
mutual
theorem dp_dk {K : PySem.W.Frag} {H : Hp} {D : Addr} {k0 : List (Key × V)} {o : HO} (h : H D = some (.dK k0)) : ∀ {d : PyData} {v : V}, Dp K H v d → Dp K (upd H D o) v d
  | .none, _, .non => .non
  | .bool _, _, .bl b => .bl b
  | .int _, _, .int i => .int i
  | .str _, _, .str x => .str x
  | .list _, _, .lst (a := a) hs ha => .lst (by
      have ne : ∀ {u : HO}, H a = some u → (∀ l, u ≠ .dK l) → a ≠ D := fun {u} e h' z => by
        rw [z, h] at e
        exact h' _ (Option.some.inj e).symm
      rcases hs with (hs | ⟨ob, hs⟩) | hs
      · exact .inl (.inl (by rw [upd_ne (ne hs fun l z => nomatch z)]; exact hs))
      · exact .inl (.inr ⟨ob, by rw [upd_ne (ne hs fun l z => nomatch z)]; exact hs⟩)
      · exact .inr hs) (dpAll_dk h ha)
  | .tuple _, _, .tup (a := a) hs ha => .tup (by
      have ne : ∀ {u : HO}, H a = some u → (∀ l, u ≠ .dK l) → a ≠ D := fun {u} e h' z => by
        rw [z, h] at e
        exact h' _ (Option.some.inj e).symm
      rcases hs with (hs | ⟨ob, hs⟩) | hs
      · exact .inl (.inl (by rw [upd_ne (ne hs fun l z => nomatch z)]; exact hs))
      · exact .inl (.inr ⟨ob, by rw [upd_ne (ne hs fun l z => nomatch z)]; exact hs⟩)
      · exact .inr hs) (dpAll_dk h ha)
theorem dpAll_dk {K : PySem.W.Frag} {H : Hp} {D : Addr} {k0 : List (Key × V)} {o : HO} (h : H D = some (.dK k0)) : ∀ {ds : List PyData} {xs : List V}, DpAll K H xs ds → DpAll K (upd H D o) xs ds
  | [], _, .nil => .nil
  | _ :: _, _, .cons hd tl => .cons (dp_dk h hd) (dpAll_dk h tl)
end
/-- a kind whose row is known to have no dict -/
def KindZ (K : PySem.W.Frag) (H : Hp) (v : V) (w : Int) (ps : List PyData) : Prop := ∃ a b xs, v = .ref a ∧ SqT K H a [.int w, .ref b] ∧ TupZ H b xs ∧ DpAll K H xs ps
theorem KindZ.same {K : PySem.W.Frag} {H H' : Hp} {v : V} {w : Int} {ps : List PyData} (h : KindZ K H v w ps) (s : Same H H') : KindZ K H' v w ps := let ⟨a, b, xs, h1, h2, h3, h4⟩ := h; ⟨a, b, xs, h1, sqT_same s h2, h3.same s, dpAll_same s h4⟩
theorem KindZ.dp {K : PySem.W.Frag} {H : Hp} {v : V} {w : Int} {ps : List PyData} (h : KindZ K H v w ps) : Dp K H v (kindD w ps) := by
  obtain ⟨a, b, xs, rfl, h2, h3, h4⟩ := h
  exact .tup h2 (.cons (.int w) (.cons (.tup h3.sq h4) .nil))
theorem KindZ.dk {K : PySem.W.Frag} {H : Hp} {v : V} {w : Int} {ps : List PyData} {D : Addr} {k0 : List (Key × V)} {o : HO} (h : KindZ K H v w ps) (hD : H D = some (.dK k0)) : KindZ K (upd H D o) v w ps := by
  obtain ⟨a, b, xs, rfl, h2, ⟨ob, h3, h5⟩, h4⟩ := h
  have ne : ∀ {a : Addr} {u : HO}, H a = some u → (∀ l, u ≠ .dK l) → a ≠ D := fun {a} {u} e h' z => by
    rw [z, hD] at e
    exact h' _ (Option.some.inj e).symm
  refine ⟨a, b, xs, rfl, ?_, ⟨ob, by rw [upd_ne (ne h3 fun l z => nomatch z)]; exact h3, h5⟩, dpAll_dk hD h4⟩
  rcases h2 with (hs | ⟨ob, hs⟩) | hs
  · exact .inl (.inl (by rw [upd_ne (ne hs fun l z => nomatch z)]; exact hs))
  · exact .inl (.inr ⟨ob, by rw [upd_ne (ne hs fun l z => nomatch z)]; exact hs⟩)
  · exact .inr hs
/-- entries of such kinds -/
def EntsZ (K : PySem.W.Frag) (H : Hp) (L : List Ent) : Prop := ∀ e ∈ L, ∃ w ps, e.2.2 = kindD w ps ∧ KindZ K H e.2.1 w ps
theorem EntsZ.same {K : PySem.W.Frag} {H H' : Hp} {L : List Ent} (h : EntsZ K H L) (s : Same H H') : EntsZ K H' L := fun e m => let ⟨w, ps, h1, h2⟩ := h e m; ⟨w, ps, h1, h2.same s⟩
theorem EntsZ.dp {K : PySem.W.Frag} {H : Hp} {L : List Ent} (h : EntsZ K H L) : ∀ e ∈ L, Dp K H e.2.1 e.2.2 := fun e m => by
  obtain ⟨w, ps, h1, h2⟩ := h e m
  rw [h1]
  exact h2.dp
def tKindL (K : PySem.W.Frag) (w : Int) (ps : List PyData) : TE := fun σ H Q => ∀ v H', Same H H' → KindZ K H' v w ps → Q v H'
theorem pe_kindlit {X : Cx} {w : Int} {es : List Expr} {ps : List PyData} {k1 k2 kk : Nat} {p1 p2 p3 : Pos} (h : Lits es ps) : PE X (.Tuple [.Constant (.int w) kk p1, .Tuple es k1 p2] k2 p3) (tKindL X.K w ps) :=
  pe_by (pe_tup (pa_cons pe_int (pa_cons (pe_tupZ (pa_lits h)) pa_nil))) fun σ H Q q => by
    intro vs H1 s1 ha hl
    refine ⟨by rw [all_len ha]; exact small (by omega), fun p o hp d => ⟨by show 2 ≤ sizeLine; decide, fun p2 hp2 => ?_⟩⟩
    have s2 : Same H1 (upd H1 p (.frz o (.tup vs))) := same_upd (Same.refl H1) hp
    have z2 : TupZ (upd H1 p (.frz o (.tup vs))) p vs := TupZ.new d
    generalize upd H1 p (.frz o (.tup vs)) = H2 at s2 z2 hp2 ⊢
    have s3 : Same H2 (upd H2 p2 (.tup [.int w, .ref p])) := same_upd (Same.refl H2) hp2
    exact q _ _ ((s1.trans s2).trans s3) ⟨p2, p, vs, rfl, SqT.of upd_same, z2.same s3, dpAll_same (s2.trans s3) ha⟩
theorem tpairs_kinds {K : PySem.W.Frag} : ∀ (M : List (Str × Int × List PyData)) (σ : L2.St) (H : Hp) (Q : List (V × V) → Hp → Prop), (∀ L H', Same H H' → EntsZ K H' L → pairsE L = M.map (fun m => (m.1, kindD m.2.1 m.2.2)) → Q (L.map fun e => (V.str e.1, e.2.1)) H') → tPairs (M.map fun m => (tC (.str m.1), tKindL K m.2.1 m.2.2)) σ H Q
  | [], σ, H, Q, q => q [] H (Same.refl H) (fun e h => by cases h) rfl
  | m :: M, σ, H, Q, q => fun v H1 s1 hv => tpairs_kinds M σ H1 _ fun L H2 s2 dp e => q ((m.1, v, kindD m.2.1 m.2.2) :: L) H2 (s1.trans s2) (fun x h => by
      rcases List.mem_cons.mp h with z | z
      · subst z
        exact ⟨_, _, rfl, hv.same s2⟩
      · exact dp x z) (by show (m.1, kindD m.2.1 m.2.2) :: pairsE L = _; rw [e]; rfl)
theorem merge_new : ∀ {L M : List Ent}, ((M ++ L).map (·.1)).Nodup → mergeK (kvsT M) (kvsT L) = kvsT (M ++ L)
  | [], M, _ => by rw [List.append_nil]; rfl
  | e :: L, M, nd => by
    have step : mergeK (kvsT M) (kvsT (e :: L)) = mergeK (putK (kvsT M) (Sum.inr e.1) e.2.1) (kvsT L) := rfl
    have fresh : ∀ x ∈ M, x.1 ≠ e.1 := fun x m z => by
      rw [List.map_append, List.nodup_append] at nd
      exact nd.2.2 x.1 (List.mem_map_of_mem m) e.1 (by simp) z
    have app : kvsT M ++ [(Sum.inr e.1, e.2.1)] = kvsT (M ++ [e]) := by simp [kvsT]
    rw [step, putK_new fresh, app, merge_new (M := M ++ [e]) (by rw [List.append_assoc]; exact nd), List.append_assoc]
    rfl
theorem strs_names {L : List Ent} {ys : List Str} (h : ys = L.map (·.1)) : ys.map V.str = L.map fun e => V.str e.1 := by rw [h, List.map_map]; rfl
theorem txt_rel {K : PySem.W.Frag} {H : Hp} {R : Str → Prop} : ∀ {vs : List V} {ds : List PyData}, DpAll K H vs ds → (∀ d ∈ ds, ∃ x, R x ∧ d = .str x) → ∃ xs : List Str, vs = xs.map V.str ∧ xs.length = ds.length ∧ ∀ x ∈ xs, R x
  | _, _, .nil, _ => ⟨[], rfl, rfl, fun x h => by cases h⟩
  | _, _, .cons (v := v) h t, r => by
    obtain ⟨xs, e1, e2, e3⟩ := txt_rel (R := R) t fun d m => r d (List.mem_cons_of_mem _ m)
    obtain ⟨x, rx, rfl⟩ := r _ List.mem_cons_self
    cases h
    exact ⟨x :: xs, by rw [e1]; rfl, by rw [List.length_cons, List.length_cons, e2], fun y m => (List.mem_cons.mp m).elim (fun z => by rw [z]; exact rx) (e3 y)⟩
section
variable {P : Program} {w : World} {K : PySem.W.Frag} {mg : Str → Option Value} {base : Heap}
def spAllKinds (K : PySem.W.Frag) : Sp := fun vs H Q _ => vs = [] ∧ ∀ d L H', Same H H' → Told K H' d L → EntsZ K H' L → pairsE L = menu → Q (.ref d) H'
theorem ok__law_all_kinds (T : Top K mg) : FnOk P w K mg base (L2.CX P w) 1 T._law_all_kinds.a T._law_all_kinds.d [] (spAllKinds K) := by
  refine T._law_all_kinds.f.okX sc__law_all_kinds (fun vs H Q E h => ?_) (fun cdv A outer s H vs Q E hr h => ?_)
  · obtain ⟨rfl, _⟩ := h
    rfl
  · obtain ⟨rfl, q⟩ := h
    refine ⟨_, (pss_one ((ps_ret (show PE _ _ (tDisp (menuK.map fun m => (tC (.str m.1), tKindL K m.2.1 m.2.2))) from (pe_disp (pps_cons pe_str (show PE _ _ (tKindL K (1) ([])) from pe_kindlit (by repeat (first | (refine Lits.cons ?_ ?_ (Nat.le_of_lt_succ ?_)) | decide | constructor))) (pps_cons pe_str (show PE _ _ (tKindL K (2) ([.str "new"])) from pe_kindlit (by repeat (first | (refine Lits.cons ?_ ?_ (Nat.le_of_lt_succ ?_)) | decide | constructor))) (pps_cons pe_str (show PE _ _ (tKindL K (2) ([.int 1, .str "new"])) from pe_kindlit (by repeat (first | (refine Lits.cons ?_ ?_ (Nat.le_of_lt_succ ?_)) | decide | constructor))) (pps_cons pe_str (show PE _ _ (tKindL K (2) ([])) from pe_kindlit (by repeat (first | (refine Lits.cons ?_ ?_ (Nat.le_of_lt_succ ?_)) | decide | constructor)))
      (pps_cons pe_str (show PE _ _ (tKindL K (0) ([.str "new"])) from pe_kindlit (by repeat (first | (refine Lits.cons ?_ ?_ (Nat.le_of_lt_succ ?_)) | decide | constructor))) (pps_cons pe_str (show PE _ _ (tKindL K (1) ([.str "new"])) from pe_kindlit (by repeat (first | (refine Lits.cons ?_ ?_ (Nat.le_of_lt_succ ?_)) | decide | constructor))) (pps_cons pe_str (show PE _ _ (tKindL K (2) ([.int 1, .int 0])) from pe_kindlit (by repeat (first | (refine Lits.cons ?_ ?_ (Nat.le_of_lt_succ ?_)) | decide | constructor))) (pps_cons pe_str (show PE _ _ (tKindL K (2) ([.int 1, .str "new", .int 0])) from pe_kindlit (by repeat (first | (refine Lits.cons ?_ ?_ (Nat.le_of_lt_succ ?_)) | decide | constructor))) pps_nil)))))))) (by rfl) (by rfl) (fun z => by cases z) (by decide)))))), ?_⟩
    refine fun p hp => tpairs_kinds _ _ _ _ fun L H1 s1 dp e => ?_
    have e : pairsE L = menu := e
    have h1 : H1 p = some (.dK []) := s1 p _ upd_same
    have few : L.length = 8 := by
      have := congrArg List.length e
      unfold pairsE at this
      rw [List.length_map] at this
      rw [this]
      rfl
    have nm : L.map (·.1) = menu.map (·.1) := by
      rw [← e]
      unfold pairsE
      rw [List.map_map]
      rfl
    have om : OfMenu L := fun x m => by
      rw [← e]
      exact List.mem_map.mpr ⟨x, m, rfl⟩
    have nd : (L.map (·.1)).Nodup := by rw [nm]; exact menu_nd
    refine ⟨h1, kvsT L, by unfold kvsT; rw [List.map_map]; rfl, by rw [kvs_len]; omega, ?_⟩
    have mg0 : mergeK [] (kvsT L) = kvsT L := merge_new (M := []) nd
    rw [mg0]
    refine q p L _ (fun b u hb => ?_) ⟨upd_same, ents_of (fun x m => dp_dk h1 (dp.dp x m)) om nd (by omega)⟩ (fun x m => by obtain ⟨w, ps, x1, x2⟩ := dp x m; exact ⟨w, ps, x1, x2.dk h1⟩) e
    have ne : b ≠ p := ne_of_none hb hp
    rw [upd_ne ne]
    exact s1 b u (by rw [upd_ne ne]; exact hb)
def spSome (K : PySem.W.Frag) : Sp := fun vs H Q _ => ∃ (a : Addr) (i m : Int) (ns : List Int), vs = [.ref a, .int i, .int m] ∧ SqL K H a (ns.map V.int) ∧ ns.length ≤ 63 ∧ 0 ≤ i ∧ i < 900000 ∧ 0 < m ∧ m ≤ 4 ∧
  ∀ d L H', Same H H' → Told K H' d L → EntsZ K H' L → OfMenu L → sortedS (L.map (·.1)) = true → 0 < L.length → (L.length : Int) ≤ m → Q (.ref d) H'
theorem ok__law_some_kinds (T : Top K mg) : FnOk P w K mg base (L2.CX P w) 2 T._law_some_kinds.a T._law_some_kinds.d ["script", "at", "most"] (spSome K) := by
  refine T._law_some_kinds.f.okX sc__law_some_kinds (fun vs H Q E h => ?_) (fun cdv A outer s H vs Q E hr h => ?_)
  · obtain ⟨a, i, m, ns, rfl, _⟩ := h
    rfl
  · obtain ⟨a, i, m, ns, rfl, hs, hl, i0, i1, m0, m4, q⟩ := h
    refine ⟨_, (pss_cons ((ps_set (i := 3) sc__law_some_kinds.nd rfl (Or.inr rfl) ((pe_call0 (ok__law_all_kinds T) (hr.mono (by decide)) (by rfl) T._law_all_kinds.m T._law_all_kinds.f.kp T._law_all_kinds.b .nil pX)))) (pss_cons ((ps_set (i := 4) sc__law_some_kinds.nd rfl (Or.inr rfl) ((pe_callB (cr_sortedS) (by rfl) T.bf.sorted_ (by decide +kernel) (pa_cons ((pe_callTy (call_listD rfl) (by rfl) T.bf.list_ (by decide +kernel) (pa_cons (pv 3) pa_nil))) pa_nil))))) (pss_cons ((ps_set (i := 5) sc__law_some_kinds.nd rfl (Or.inl rfl) ((pe_callB (cr_sortedQ rfl) (by rfl) T.bf.sorted_ (by decide +kernel) (pa_cons ((pe_callTy (cr_setQ rfl) (by rfl) T.bf.set_ (by decide +kernel) (pa_cons ((pe_lc (own := [("turn", 6)]) (g := gName 6) (tt := tYes) rfl sc__law_some_kinds.nd (pi_range1 (by rfl) T.bf.range_ (pa_cons (pe_op (op_add) (pe_int) ((pe_call (ok__law_draw T) (hr.mono (by decide)) (by rfl) T._law_draw.m T._law_draw.f.kp T._law_draw.b .nil pX (pa_cons (pv 0) (pa_cons (pv 1) (pa_cons (pv 2) pa_nil)))))) pa_nil)) (blkOk_by (N := n__law_some_kinds) (sc := defScope s__law_some_kinds) (by decide +kernel)) (fun _ _ _ _ _ => pg_name (i := 6) sc__law_some_kinds.nd rfl (Or.inl rfl)) (fun _ _ _ _ _ => pts_nil) (fun _ _ _ _ _ => (pe_ix (show IxR _ (rIxL K) from ix_list) (pv 4) ((pe_call (ok__law_draw T) (hr.mono (by decide)) (by rfl) T._law_draw.m T._law_draw.f.kp T._law_draw.b .nil passL (pa_cons (pv 0) (pa_cons ((pe_op (op_add) ((pe_op (op_add) (pv 1) (pe_int))) (pv 6))) (pa_cons ((pe_callB (show CallR _ (.builtin "len") (fun xs H Q => ∃ p ys, xs = [.ref p] ∧ (SqL K H p ys ∨ SqT K H p ys) ∧ Q (.int ys.length) H) from call_len_seq) (by rfl) T.bf.len_ PySem.boot_len (pa_cons (pv 4) pa_nil))) pa_nil))))) (fun _ _ => rfl))))) pa_nil))) pa_nil))))) (pss_one ((ps_ret ((pe_callTy (call_dictP rfl) (by rfl) T.bf.dict_ (by decide +kernel) (pa_cons ((pe_lc (own := [("name", 7)]) (g := gName 7) (tt := tYes) rfl sc__law_some_kinds.nd (pi_list (pv 5)) (blkOk_by (N := n__law_some_kinds) (sc := defScope s__law_some_kinds) (by decide +kernel)) (fun _ _ _ _ _ => pg_name (i := 7) sc__law_some_kinds.nd rfl (Or.inl rfl)) (fun _ _ _ _ _ => pts_nil) (fun _ _ _ _ _ => (pe_tup (pa_cons (pv 7) (pa_cons ((pe_dget (hu_of hr) (pv 3) (pv 7) (fun _ _ => rfl))) pa_nil)))))) pa_nil))))))))), ?_⟩
    refine ⟨rfl, fun d0 L0 H1 s1 hT hZ hM => ?_⟩
    have few0 : L0.length = 8 := by
      have := congrArg List.length hM
      unfold pairsE at this
      rw [List.length_map] at this
      rw [this]
      rfl
    have om0 : OfMenu L0 := fun x m => by
      rw [← hM]
      exact List.mem_map.mpr ⟨x, m, rfl⟩
    refine ⟨_, rfl, d0, _, rfl, .inl hT.at_, fun l1 hl1 => ?_⟩
    have s2 : Same H1 (upd H1 l1 (.lst ((kvsT L0).map fun kv => kV kv.1))) := same_upd (Same.refl H1) hl1
    have el1 : ((kvsT L0).map fun kv => kV kv.1) = (L0.map (·.1)).map V.str := by rw [kvs_keys, List.map_map]; rfl
    rw [el1] at s2 ⊢
    refine ⟨l1, L0.map (·.1), rfl, SqL.of upd_same, by rw [List.length_map]; omega, fun nm p2 pm so hp2 => ?_⟩
    generalize upd H1 l1 (.lst ((L0.map (·.1)).map V.str)) = H2 at s2 hp2 ⊢
    have s3 : Same H2 (upd H2 p2 (.lst (nm.map V.str))) := same_upd (Same.refl H2) hp2
    have hp3 : upd H2 p2 (.lst (nm.map V.str)) p2 = some (.lst (nm.map V.str)) := upd_same
    generalize upd H2 p2 (.lst (nm.map V.str)) = H3 at s3 hp3 ⊢
    have s03 := s1.trans (s2.trans s3)
    have len8 : nm.length = 8 := by rw [pm.length_eq, List.length_map, few0]
    refine ⟨_, rfl, _, rfl, _, rfl, a, i, m, ns, rfl, s03.seq hs, hl, i0, by omega, m0, fun r H4 s4 hr4 => ?_⟩
    refine ⟨_, _, rfl, rfl, _, rfl, by omega, by omega, fun D hD => ?_⟩
    have hp4 := s4 _ _ hp3
    have s04 := s03.trans s4
    have e1 : ((1 : Int) + (r : Nat)).toNat = 1 + r := by omega
    rw [e1]
    refine lc_rel (i := 6) (K := K) (walk_range (lo := 0) (n := 1 + r)) (fun _ d => ∃ x, x ∈ nm ∧ d = .str x) (fun _ _ => trivial) hD (by omega) (fun _ => rfl) ?elt ?done
    case elt =>
      rintro j x H5 H5' hj s5 ⟨rfl, rfl⟩
      refine ⟨Same.refl _, fun Q1 q1 => ?_⟩
      have s05 := s04.trans s5
      have hp5 := s5 _ _ hp4
      refine ⟨_, rfl, _, rfl, _, rfl, _, _, rfl, rfl, _, rfl, _, _, rfl, rfl, _, rfl, p2, _, rfl, .inl (SqL.of hp5), ?_⟩
      rw [List.length_map, len8]
      refine ⟨a, _, 8, ns, rfl, s05.seq hs, hl, by omega, by omega, by decide, fun t H6 s6 ht => ?_⟩
      have lt : t < nm.length := by omega
      have get : (nm.map V.str)[t]? = some (V.str nm[t]) := by rw [List.getElem?_map, List.getElem?_eq_getElem lt]; rfl
      exact ⟨p2, _, _, _, rfl, rfl, SqL.of (s6 _ _ hp5), atI_nat get, q1 _ (.str nm[t]) _ s6 (.str _) ⟨_, List.getElem_mem lt, rfl⟩ rfl⟩
    case done =>
      intro H5 vs5 ds5 s5 hD5 ha5 hl5 hr5
      obtain ⟨xs, rfl, lx, mx⟩ := txt_rel (R := fun x => x ∈ nm) ha5 fun d md => by
        obtain ⟨j, hj⟩ := List.mem_iff_getElem?.mp md
        exact hr5 j d hj
      have s05 := s04.trans s5
      refine ⟨D, xs, rfl, SqL.of hD5, by omega, fun p6 hp6 => ?_⟩
      refine ⟨p6, xs, rfl, upd_same, by omega, fun ys p7 nd so7 me le hp7 => ?_⟩
      generalize hH7 : upd (upd H5 p6 _) p7 _ = H7
      have s7 : Same H5 H7 := by
        rw [← hH7]
        exact (same_upd (Same.refl H5) hp6).trans (same_upd (Same.refl _) hp7)
      have hp77 : H7 p7 = some (.lst (ys.map V.str)) := by rw [← hH7, upd_same]
      have s07 := s05.trans s7
      have sT7 : Same H1 H7 := s2.trans (s3.trans (s4.trans (s5.trans s7)))
      have hT7 := hT.same sT7
      have ent : ∀ y ∈ ys, ∃ e ∈ L0, e.1 = y := fun y my => by
        have := pm.mem_iff.mp (mx y ((me y).mp my))
        obtain ⟨e, he, ee⟩ := List.mem_map.mp this
        exact ⟨e, he, ee⟩
      refine ⟨_, rfl, p7, rfl, ⟨_, SqL.of hp77⟩, fun D8 hD8 => ?_⟩
      have hZ7 := hZ.same sT7
      refine lc_relV (i := 7) (walk_list (K := K) (a := p7) (xs := ys.map V.str)) (fun j v H8 => ∃ e ∈ L0, ys[j]? = some e.1 ∧ ∃ p, v = .ref p ∧ H8 p = some (.tup [.str e.1, e.2.1])) (fun H8 s8 => SqL.of (s8 _ _ hp77)) hD8 (by rw [List.length_map]; omega) (fun _ => rfl) ?stay ?stab ?elt2 ?done2
      case stay =>
        rintro j v H8 H9 ⟨e, he, hy, p, rfl, h⟩ s9
        exact ⟨e, he, hy, p, rfl, s9 _ _ h⟩
      case stab =>
        rintro j v H8 vs ws hD ⟨e, he, hy, p, rfl, h⟩
        have ne : p ≠ D8 := fun z => by
          rw [z, hD] at h
          cases h
        exact ⟨e, he, hy, p, rfl, by rw [upd_ne ne]; exact h⟩
      case elt2 =>
        rintro j x H8 H8' hj s8 ⟨rfl, hx⟩
        rw [List.getElem?_map] at hx
        obtain ⟨y, hy, rfl⟩ := Option.map_eq_some_iff.mp hx
        obtain ⟨e, he, rfl⟩ := ent y (List.mem_of_getElem? hy)
        refine ⟨Same.refl _, fun Q1 q1 => ?_⟩
        have hT8 := hT7.same s8
        refine ⟨_, rfl, _, rfl, _, rfl, d0, _, rfl, hT8.get he, by show 2 ≤ sizeLine; decide, fun p9 hp9 => ?_⟩
        exact q1 _ _ (same_upd (Same.refl _) hp9) ⟨e, he, hy, p9, rfl, upd_same⟩
      case done2 =>
        intro H8 vs8 s8 hD9 hl8 hr8
        have key : ∀ (ys : List Str) (vs8 : List V), vs8.length = ys.length → (∀ (j : Nat) (v : V), vs8[j]? = some v → ∃ e ∈ L0, ys[j]? = some e.1 ∧ ∃ p, v = .ref p ∧ H8 p = some (.tup [.str e.1, e.2.1])) →
            ∃ (ps : List Addr) (L : List Ent), vs8 = ps.map V.ref ∧ Paired (fun p kv => SqT K H8 p [kV kv.1, kv.2]) ps (kvsT L) ∧ L.map (·.1) = ys ∧ ∀ e ∈ L, e ∈ L0 := by
          intro ys
          induction ys with
          | nil =>
            intro vs8 hl hr
            cases vs8 with
            | nil => exact ⟨[], [], rfl, .nil, rfl, fun e h => by cases h⟩
            | cons h t => simp at hl
          | cons y0 ys ih =>
            intro vs8 hl hr
            cases vs8 with
            | nil => simp at hl
            | cons v t =>
              obtain ⟨ps, L, e1, e2, e3, e4⟩ := ih t (by simpa using hl) fun j v hj => by simpa using hr (j + 1) v (by simpa using hj)
              obtain ⟨e, he, hy, p, rfl, hp⟩ := hr 0 _ rfl
              have hy : y0 = e.1 := by simpa using hy
              subst hy
              exact ⟨p :: ps, e :: L, by rw [e1]; rfl, .cons (SqT.of hp) e2, by rw [List.map_cons, e3], fun x m => (List.mem_cons.mp m).elim (fun z => by rw [z]; exact he) (e4 x)⟩
        rw [List.length_map] at hl8
        obtain ⟨ps, L, rfl, pr, nmL, sub⟩ := key ys _ hl8 hr8
        refine ⟨D8, ps, kvsT L, rfl, SqL.of hD9, pr, fun d hd => ?_⟩
        have ndL : (L.map (·.1)).Nodup := by rw [nmL]; exact nd
        have mg0 : mergeK [] (kvsT L) = kvsT L := merge_new (M := []) ndL
        rw [mg0]
        have s9 : Same H8 (upd H8 d (.dK (kvsT L))) := same_upd (Same.refl H8) hd
        have lenL : L.length = ys.length := by rw [← nmL, List.length_map]
        have zL : EntsZ K (upd H8 d (.dK (kvsT L))) L := fun e m => (hZ7.same (s8.trans s9)) e (sub e m)
        have om : OfMenu L := fun e m => om0 e (sub e m)
        refine q d L _ ((s07.trans s8).trans s9) ⟨upd_same, ents_of zL.dp om ndL (by omega)⟩ zL om (by rw [nmL]; exact so7) ?_ (by omega)
        have x0 : xs[0]? = some (xs[0]'(by omega)) := List.getElem?_eq_getElem (by omega)
        have := (me _).mpr (List.mem_of_getElem? x0)
        have := List.length_pos_of_mem this
        omega
end
end K41

end

section
set_option Elab.async false
set_option linter.all false
set_option maxRecDepth 100000
set_option maxHeartbeats 4000000
/-! Kinds that lead back; kinds that are turned. -/
namespace K41
open PySem PySem.Spec PyProof.Rows L2 KX
def isI (i : Int) : PyData → Bool
  | .int k => decide (k = i)
  | _ => false
def posD (ps : List PyData) (i : Int) : Option Nat := ps.findIdx? (isI i)
def backPart (ps : List PyData) (i : Nat) : PyData := match posD ps (i : Nat) with
  | some j => .int (j : Nat)
  | none => .str "new"
def backRow (w : Int) (ps : List PyData) : List PyData := (List.range w.toNat).map (backPart ps)
def backOf : PyData → PyData
  | .tuple [.int w, .tuple ps] => kindD (ps.length : Nat) (backRow w ps)
  | d => d
structure KOk (w : Int) (ps : List PyData) : Prop where
  w0 : 0 ≤ w
  w2 : w ≤ 2
  row : isRowD w (.tuple ps) = true
  parts : ps.all (isPartD w) = true
  few : ps.length ≤ 3
theorem menu_few : (menuK.all fun m => decide (m.2.2.length ≤ 3)) = true := by decide +kernel
theorem kok_of {z : Str} {w : Int} {ps : List PyData} (h : (z, kindD w ps) ∈ menu) : KOk w ps := by
  obtain ⟨w', ps', e, h1, h2, h3⟩ := kind_form (menu_of h).kd
  unfold kindD at e
  cases e
  refine ⟨h1, h2, h3, row_parts h3, ?_⟩
  obtain ⟨m, hm, em⟩ := List.mem_map.mp h
  have := of_decide_eq_true (List.all_eq_true.mp menu_few m hm)
  have e2 : m.2.2 = ps := by
    have := (Prod.mk.inj em).2
    unfold kindD at this
    cases this
    rfl
  rw [← e2]
  exact this
theorem part_eqV {K : PySem.W.Frag} {H : Hp} {v : V} {d : PyData} {w : Int} (h : Dp K H v d) (p : isPartD w d = true) (i : Int) : eqV v (.int i) = isI i d ∧ flatV v = true := by
  cases h with
  | int k => exact ⟨by show (k == i) = decide (k = i); by_cases e : k = i <;> simp [e], rfl⟩
  | str z => exact ⟨rfl, rfl⟩
  | non => simp [isPartD] at p
  | bl b => simp [isPartD] at p
  | lst a b => simp [isPartD] at p
  | tup a b => simp [isPartD] at p
theorem parts_flat {K : PySem.W.Frag} {H : Hp} {w : Int} : ∀ {xs : List V} {ps : List PyData}, DpAll K H xs ps → ps.all (isPartD w) = true → xs.all flatV = true
  | _, _, .nil, _ => rfl
  | _, _, .cons h t, e => by
    rw [List.all_cons, Bool.and_eq_true] at e
    rw [List.all_cons, parts_flat t e.2, (part_eqV h e.1 0).2]
    rfl
theorem parts_any {K : PySem.W.Frag} {H : Hp} {w : Int} (i : Int) : ∀ {xs : List V} {ps : List PyData}, DpAll K H xs ps → ps.all (isPartD w) = true → inV (.int i) xs = ps.any (isI i)
  | _, _, .nil, _ => rfl
  | _, _, .cons h t, e => by
    rw [List.all_cons, Bool.and_eq_true] at e
    have ih := parts_any i t e.2
    unfold inV at ih ⊢
    rw [List.any_cons, List.any_cons, ih, (part_eqV h e.1 i).1]
theorem pos_some {ps : List PyData} {i : Int} (h : ps.any (isI i) = true) : ∃ j, posD ps i = some j ∧ ∃ d, ps[j]? = some d ∧ isI i d = true ∧ ∀ m d', m < j → ps[m]? = some d' → isI i d' = false := by
  cases e : posD ps i with
  | none =>
    have := List.findIdx?_eq_none_iff.mp e
    obtain ⟨d, hd, hi⟩ := List.any_eq_true.mp h
    rw [this d hd] at hi
    cases hi
  | some j =>
    obtain ⟨hj, h1, h2⟩ := List.findIdx?_eq_some_iff_getElem.mp e
    refine ⟨j, rfl, _, List.getElem?_eq_getElem hj, h1, fun m d' hm hd' => ?_⟩
    have lt := (List.getElem?_eq_some_iff.mp hd').1
    have := h2 m hm
    rw [List.getElem?_eq_getElem lt] at hd'
    cases hd'
    simpa using this
theorem pos_none {ps : List PyData} {i : Int} (h : ps.any (isI i) = false) : posD ps i = none :=
  List.findIdx?_eq_none_iff.mpr fun d m => by
    cases e : isI i d with
    | false => rfl
    | true =>
      have := List.any_eq_true.mpr ⟨d, m, e⟩
      rw [h] at this
      cases this
section
variable {P : Program} {w : World} {K : PySem.W.Frag} {mg : Str → Option Value} {base : Heap}
def spTB (K : PySem.W.Frag) : Sp := fun vs H Q _ => ∃ v z wd ps, vs = [v] ∧ KindZ K H v wd ps ∧ (z, kindD wd ps) ∈ menu ∧ ∀ v' H', Same H H' → Dp K H' v' (backOf (kindD wd ps)) → Q v' H'
theorem ok_turned_back (T : Top K mg) : FnOk P w K mg base (L2.CX P w) 1 T.turned_back.a T.turned_back.d ["kind"] (spTB K) := by
  refine T.turned_back.f.okX sc_turned_back (fun vs H Q E h => ?_) (fun cdv A outer s H vs Q E hr h => ?_)
  · obtain ⟨v, z, wd, ps, rfl, _⟩ := h
    rfl
  · obtain ⟨v, z, wd, ps, rfl, ⟨a, b, xs, rfl, ha, hb, hx⟩, hm, q⟩ := h
    obtain ⟨w0, w2, row, parts, few⟩ := kok_of hm
    refine ⟨_, (pss_cons ((ps_asg (pv 0) (pg_tup rfl (pgs_cons (pg_name (i := 1) sc_turned_back.nd rfl (Or.inl rfl)) (pgs_cons (pg_name (i := 2) sc_turned_back.nd rfl (Or.inr rfl)) pgs_nil))))) (pss_one ((ps_ret ((pe_tup (pa_cons ((pe_callB call_len_seq (by rfl) T.bf.len_ PySem.boot_len (pa_cons (pv 2) pa_nil))) (pa_cons ((pe_callTy (call_tuple_of) (by rfl) T.bf.tuple_ (by decide +kernel) (pa_cons ((pe_lc (own := [("number", 3)]) (g := gName 3) (tt := tYes) rfl sc_turned_back.nd (pi_range1 (by rfl) T.bf.range_ (pa_cons (pv 1) pa_nil)) (blkOk_by (N := n_turned_back) (sc := defScope s_turned_back) (by decide +kernel)) (fun _ _ _ _ _ => pg_name (i := 3) sc_turned_back.nd rfl (Or.inl rfl)) (fun _ _ _ _ _ => pts_nil) (fun _ _ _ _ _ => pe_ifExp (pt_cmpR (show OpR _ (compareOp .In) (rIn K false) from op_in_seq) (pv 3) (pv 2) (by rfl)) (show PE _ _ (tBMT (rTIndex K) (tVar 2) (tCons (tVar 3) tNil)) from pe_bmT PySem.F.slot_tuple_index PySem.F.type_tuple_index (show MtR _ "tuple.index" (rTIndex K) from mt_tindex) (pv 2) (pa_cons (pv 3) pa_nil)) pe_str))) pa_nil))) pa_nil)))))))), ?_⟩
    have lx := all_len hx
    refine ⟨_, rfl, a, _, rfl, ha, rfl, _, _, rfl, _, _, rfl, rfl, ?_⟩
    refine ⟨_, rfl, b, _, rfl, .inr hb.sq, ?_⟩
    refine ⟨_, rfl, _, rfl, by omega, by omega, fun D hD => ?_⟩
    refine lc_rel (i := 3) (K := K) (walk_range (lo := 0) (n := wd.toNat)) (fun j d => d = backPart ps j) (fun _ _ => trivial) hD (by omega) (fun _ => rfl) ?elt ?done
    case elt =>
      rintro j x H1 H1' hj s1 ⟨rfl, rfl⟩
      refine ⟨Same.refl _, fun Q1 q1 => ?_⟩
      have hb1 := hb.same s1
      have hx1 := dpAll_same s1 hx
      have e0 : (0 : Int) + (j : Nat) = (j : Nat) := by omega
      simp only [e0]
      refine ⟨_, rfl, _, rfl, b, xs, rfl, .inr hb1.sq, rfl, parts_flat hx1 parts, _, rfl, ?_⟩
      rw [if_neg (by decide), parts_any _ hx1 parts]
      refine ite2 (fun c => ?_) (fun c => ?_)
      · obtain ⟨k, e1, d, hd, hi, hno⟩ := pos_some c
        have hk := (List.getElem?_eq_some_iff.mp hd).1
        obtain ⟨y, hy, hdy⟩ := all_ix hx1 k d hd
        have pd := List.all_eq_true.mp parts d (List.mem_of_getElem? hd)
        refine ⟨_, rfl, ⟨b, xs, rfl, hb1⟩, _, rfl, b, xs, _, k, y, rfl, rfl, hb1.sq, rfl, parts_flat hx1 parts, hy, by rw [(part_eqV hdy pd _).1]; exact hi, fun m z' hm hz' => ?_, q1 _ (.int (k : Nat)) _ (Same.refl _) (.int _) ?_ rfl⟩
        · obtain ⟨d', hd', hz⟩ := all_at hx1 m z' hz'
          rw [(part_eqV hz (List.all_eq_true.mp parts d' (List.mem_of_getElem? hd')) _).1]
          exact hno m d' hm hd'
        · unfold backPart
          rw [e1]
      · have c : ps.any (isI (j : Nat)) = false := by simpa using c
        refine q1 _ (.str "new") _ (Same.refl _) (.str _) ?_ rfl
        unfold backPart
        rw [pos_none c]
    case done =>
      intro H1 vs1 ds1 s1 hD1 ha1 hl1 hr1
      have ed : ds1 = backRow wd ps := by
        unfold backRow
        refine List.ext_getElem? fun j => ?_
        by_cases hj : j < wd.toNat
        · have e1 : ds1[j]? = some (ds1[j]'(by omega)) := List.getElem?_eq_getElem (by omega)
          have e2 := hr1 j _ e1
          rw [e1, e2, List.getElem?_map, List.getElem?_range hj]
          rfl
        · rw [List.getElem?_eq_none (by omega), List.getElem?_eq_none (by rw [List.length_map, List.length_range]; omega)]
      subst ed
      refine ⟨D, vs1, rfl, .inl ⟨SqL.of hD1, fun l hl => ⟨by show 2 ≤ sizeLine; decide, fun p hp => ?_⟩⟩⟩
      have s2 : Same H1 (upd H1 l (.tup vs1)) := same_upd (Same.refl H1) hl
      have hl2 : upd H1 l (.tup vs1) l = some (.tup vs1) := upd_same
      generalize upd H1 l (.tup vs1) = H2 at s2 hl2 hp ⊢
      have s3 := same_upd (o := .tup [.int (xs.length : Nat), .ref l]) (Same.refl H2) hp
      refine q _ _ ((s1.trans s2).trans s3) ?_
      rw [lx] at s3 ⊢
      exact .tup (SqT.of upd_same) (.cons (.int _) (.cons (.tup (SqT.of (s3 _ _ hl2)) (dpAll_same (s2.trans s3) ha1)) .nil))
/-- the numbers of a kind's width that its row has not -/
def lostN (w : Int) (ps : List PyData) : List Int := (List.range w.toNat).filterMap fun i => if ps.any (isI (i : Nat)) = true then none else some ((i : Nat) : Int)
def spLost (K : PySem.W.Frag) : Sp := fun vs H Q _ => ∃ v z wd ps, vs = [v] ∧ Dp K H v (kindD wd ps) ∧ (z, kindD wd ps) ∈ menu ∧ ∀ p H', Same H H' → H' p = some (.lst ((lostN wd ps).map V.int)) → Q (.ref p) H'
theorem ok_lost_numbers (T : Top K mg) : FnOk P w K mg base (L2.CX P w) 1 T.lost_numbers.a T.lost_numbers.d ["kind"] (spLost K) := by
  refine T.lost_numbers.f.okX sc_lost_numbers (fun vs H Q E h => ?_) (fun cdv A outer s H vs Q E hr h => ?_)
  · obtain ⟨v, z, wd, ps, rfl, _⟩ := h
    rfl
  · obtain ⟨v, z, wd, ps, rfl, hv, hm, q⟩ := h
    obtain ⟨w0, w2, row, parts, few⟩ := kok_of hm
    obtain ⟨a, b, xs, rfl, ha, hb, hx⟩ := kind_val hv
    refine ⟨_, (pss_cons ((ps_asg (pv 0) (pg_tup rfl (pgs_cons (pg_name (i := 1) sc_lost_numbers.nd rfl (Or.inl rfl)) (pgs_cons (pg_name (i := 2) sc_lost_numbers.nd rfl (Or.inr rfl)) pgs_nil))))) (pss_one ((ps_ret ((pe_lc (own := [("number", 3)]) (g := gName 3) rfl sc_lost_numbers.nd (pi_range1 (by rfl) T.bf.range_ (pa_cons (pv 1) pa_nil)) (blkOk_by (N := n_lost_numbers) (sc := defScope s_lost_numbers) (by decide +kernel)) (fun _ _ _ _ _ => pg_name (i := 3) sc_lost_numbers.nd rfl (Or.inl rfl)) (fun _ _ _ _ _ => pts_one ((pt_cmpR (show OpR _ (compareOp .NotIn) (rIn K true) from op_notIn_seq) (pv 3) (pv 2) (by rfl)))) (fun _ _ _ _ _ => pv 3))))))), ?_⟩
    refine ⟨_, rfl, a, _, rfl, ha, rfl, _, _, rfl, _, _, rfl, rfl, ?_⟩
    refine ⟨_, rfl, _, rfl, by omega, by omega, fun D hD => ?_⟩
    refine lc_filt (i := 3) (walk_range (lo := 0) (n := wd.toNat)) (fun j => if ps.any (isI (j : Nat)) = true then none else some (.int (j : Nat))) (fun _ _ => trivial) hD (by omega) (fun _ => rfl) ?elt ?done
    case elt =>
      rintro j x H1 H1' hj s1 ⟨rfl, rfl⟩
      refine ⟨Same.refl _, fun Q1 Q2 q1 q2 => ?_⟩
      have hx1 := dpAll_same s1 hx
      have e0 : (0 : Int) + (j : Nat) = (j : Nat) := by omega
      simp only [e0]
      refine ⟨_, rfl, _, rfl, b, xs, rfl, .inr (sqT_same s1 hb), rfl, parts_flat hx1 parts, _, rfl, ?_⟩
      rw [if_pos rfl, parts_any _ hx1 parts]
      cases c : ps.any (isI (j : Nat)) with
      | true => exact iteF (q1 (by rw [if_pos c]) _ (Same.refl _))
      | false => exact iteT ⟨_, rfl, q2 _ (by rw [if_neg (by rw [c]; decide)]) _ (Same.refl _)⟩
    case done =>
      intro H1 s1 hD1
      refine q D H1 s1 ?_
      rw [hD1]
      congr 2
      unfold lostN
      rw [List.map_filterMap]
      congr 1
      funext j
      by_cases c : ps.any (isI (j : Nat)) = true
      · rw [if_pos c, if_pos c]
        rfl
      · rw [if_neg c, if_neg c]
        rfl
end
end K41

end

section
set_option Elab.async false
set_option linter.all false
set_option maxRecDepth 100000
set_option maxHeartbeats 4000000
/-! Kinds are made of good entries; kinds turned; the kind that leads back. -/
namespace K41
open PySem PySem.Spec PyProof.Rows L2 KX
theorem lt_cons {a b : Nat} {r t : List Nat} : ltCps (a :: r) (b :: t) = false ↔ ¬ a < b ∧ (a = b → ltCps r t = false) := by
  show (decide (a < b) || (a == b && ltCps r t)) = false ↔ _
  rw [Bool.or_eq_false_iff]
  refine and_congr (by simp) ?_
  by_cases e : a = b
  · subst e
    simp
  · have : (a == b) = false := beq_eq_false_iff_ne.mpr e
    rw [this]
    simp [e]
theorem lt_trans' : ∀ {x y z : List Nat}, ltCps y x = false → ltCps z y = false → ltCps z x = false
  | [], _, [], _, _ => rfl
  | [], _, _ :: _, _, _ => rfl
  | _ :: _, [], _, h, _ => by cases h
  | _ :: _, _ :: _, [], _, h => by cases h
  | a :: x, b :: y, c :: z, h1, h2 => by
    rw [lt_cons] at h1 h2 ⊢
    refine ⟨by omega, fun e => ?_⟩
    exact lt_trans' (h1.2 (by omega)) (h2.2 (by omega))
theorem lt_anti : ∀ {x y : List Nat}, ltCps y x = false → ltCps x y = false → x = y
  | [], [], _, _ => rfl
  | [], _ :: _, _, h => by cases h
  | _ :: _, [], h, _ => by cases h
  | a :: x, b :: y, h1, h2 => by
    rw [lt_cons] at h1 h2
    have e : a = b := by omega
    subst e
    rw [lt_anti (h1.2 rfl) (h2.2 rfl)]
def leS (a b : Str) : Prop := ltCps b.cps.toList a.cps.toList = false
theorem rising_pw : ∀ {l : List Str} {p : Str}, risingS p l = true → (p :: l).Pairwise leS
  | [], p, _ => List.pairwise_singleton _ _
  | x :: r, p, h => by
    have h : (!ltCps x.cps.toList p.cps.toList && risingS x r) = true := h
    rw [Bool.and_eq_true] at h
    have ih := rising_pw h.2
    have hp : leS p x := by
      have := h.1
      show ltCps x.cps.toList p.cps.toList = false
      simpa using this
    refine List.pairwise_cons.mpr ⟨fun y hy => ?_, ih⟩
    rcases List.mem_cons.mp hy with z | z
    · rw [z]; exact hp
    · exact lt_trans' hp ((List.pairwise_cons.mp ih).1 y z)
theorem sorted_pw : ∀ {l : List Str}, sortedS l = true → l.Pairwise leS
  | [], _ => .nil
  | x :: r, h => rising_pw h
theorem sorted_one {l1 l2 : List Str} (h1 : sortedS l1 = true) (h2 : sortedS l2 = true) (p : l1.Perm l2) : l1 = l2 :=
  List.Perm.eq_of_pairwise (fun a b _ _ h h' => by
    have e := lt_anti h h'
    obtain ⟨a⟩ := a
    obtain ⟨b⟩ := b
    exact congrArg Str.mk (Array.toList_inj.mp e)) (sorted_pw h1) (sorted_pw h2) p
theorem map_one {M N : List Ent} (nd : (M.map (·.1)).Nodup) (p : M.Perm N) (e : M.map (·.1) = N.map (·.1)) : M = N := by
  refine List.ext_getElem? fun i => ?_
  cases hm : M[i]? with
  | none =>
    have : N[i]? = none := by
      rw [List.getElem?_eq_none_iff] at hm ⊢
      rw [← p.length_eq]
      exact hm
    rw [this]
  | some x =>
    have hi := (List.getElem?_eq_some_iff.mp hm).1
    have hi' : i < N.length := by rw [← p.length_eq]; exact hi
    have hn : N[i]? = some N[i] := List.getElem?_eq_getElem hi'
    have e1 : (M.map (·.1))[i]? = some x.1 := by rw [List.getElem?_map, hm]; rfl
    have e2 : (N.map (·.1))[i]? = some N[i].1 := by rw [List.getElem?_map, hn]; rfl
    rw [← e, e1] at e2
    have en : x.1 = N[i].1 := Option.some.inj e2
    have hmem : N[i] ∈ M := p.mem_iff.mpr (List.getElem_mem _)
    obtain ⟨j, hj⟩ := List.mem_iff_getElem?.mp hmem
    have e3 : (M.map (·.1))[j]? = some x.1 := by rw [List.getElem?_map, hj, en]; rfl
    have ij : i = j := (List.getElem?_inj (by rw [List.length_map]; exact hi) nd).mp (e1.trans e3.symm)
    subst ij
    rw [hm] at hj
    rw [hn, hj]
theorem sorted_ents {L M N : List Ent} (nd : (L.map (·.1)).Nodup) (hM : M.Perm L) (hN : N.Perm L) (sM : sortedS (M.map (·.1)) = true) (sN : sortedS (N.map (·.1)) = true) : M = N := by
  have p : M.Perm N := hM.trans hN.symm
  exact map_one ((hM.map _).nodup_iff.mpr nd) p (sorted_one sM sN (p.map _))

/-- the first bad one, by names and kinds -/
def badP : List PyData → List (Str × PyData) → Bool
  | _, [] => false
  | seen, e :: r => if (isKindD e.2 && !(seen.any fun z => PyData.eqv z e.2)) = true then badP (seen ++ [e.2]) r else true
theorem bad_pairs : ∀ {M : List Ent} {seen : List PyData}, badP seen (pairsE M) = false → firstBad seen M = none
  | [], _, _ => rfl
  | e :: M, seen, h => by
    have h : (if (isKindD e.2.2 && !(seen.any fun z => PyData.eqv z e.2.2)) = true then badP (seen ++ [e.2.2]) (pairsE M) else true) = false := h
    by_cases c : (isKindD e.2.2 && !(seen.any fun z => PyData.eqv z e.2.2)) = true
    · rw [if_pos c] at h
      rw [bad_next c]
      exact bad_pairs h
    · rw [if_neg c] at h
      cases h
structure GoodL (l : List (Str × PyData)) : Prop where
  so : sortedS (l.map (·.1)) = true
  nd : (l.map (·.1)).Nodup
  pos : 1 ≤ l.length
  few : l.length ≤ 4
  nm : ∀ m ∈ l, isNameS m.1 = true
  sh : ∀ m ∈ l, SeqAt.shaped (.list [m.2]) = true
  sm : ∀ m ∈ l, smallD m.2
  kd : ∀ m ∈ l, isKindD m.2 = true
  bad : badP [] l = false
theorem name_len {z : Str} (h : isNameS z = true) : z.length ≤ 1000 := by
  unfold isNameS at h
  simp only [Bool.and_eq_true] at h
  have := of_decide_eq_true h.2.1
  omega
theorem fst_pairs {L : List Ent} : (pairsE L).map (·.1) = L.map (·.1) := by
  unfold pairsE
  rw [List.map_map]
  rfl
theorem len_pairs {L : List Ent} : (pairsE L).length = L.length := List.length_map _
theorem GoodL.ents {K : PySem.W.Frag} {H : Hp} {L : List Ent} (g : GoodL (pairsE L)) (dp : ∀ e ∈ L, Dp K H e.2.1 e.2.2) : Ents K H L :=
  ⟨dp, fun e m => g.sh _ (List.mem_map_of_mem m), fun e m => g.sm _ (List.mem_map_of_mem m), fun e m => name_len (g.nm _ (List.mem_map_of_mem m)), by rw [← fst_pairs]; exact g.nd, by have := g.few; rw [len_pairs] at this; omega⟩
theorem GoodL.has {L : List Ent} (g : GoodL (pairsE L)) : hasNamesK (kvsT L) = true := by
  have h1 := g.pos
  have h2 := g.few
  rw [len_pairs] at h1 h2
  unfold hasNamesK
  rw [kvs_len, decide_eq_true h1, decide_eq_true h2]
  refine List.all_eq_true.mpr fun p hp => ?_
  obtain ⟨e, he, rfl⟩ := List.mem_map.mp hp
  exact g.nm _ (List.mem_map_of_mem he)
theorem GoodL.made {H : Hp} {E : XK} {B : Addr} {L : List Ent} {Q : Hp → Addr → List Ent → Prop} (g : GoodL (pairsE L)) (q : ∀ H' D, Same H H' → H D = none → H' D = some (.dK (kvsT L)) → Q H' D L) : MadeOf H E B L Q := fun M p so => by
  have e : M = L := sorted_ents (by rw [← fst_pairs]; exact g.nd) p (List.Perm.refl _) so (by rw [← fst_pairs]; exact g.so)
  subst e
  rw [bad_pairs g.bad]
  exact q
/-- kinds at p whose dict was not there before -/
def KindsNew (K : PySem.W.Frag) (C : Addr) (H H' : Hp) (p : Addr) (M : List Ent) : Prop := ∃ dx D, H' p = some (.ins C dx [("told", .ref D)]) ∧ H D = none ∧ Told K H' D M ∧ ∀ e ∈ M, isKindD e.2.2 = true
theorem KindsNew.at_ {K : PySem.W.Frag} {C : Addr} {H H' : Hp} {p : Addr} {M : List Ent} (h : KindsNew K C H H' p M) : KindsAt K C H' p M := let ⟨dx, D, h1, _, h3, h4⟩ := h; ⟨dx, D, h1, h3, h4⟩
theorem KindsNew.back {K : PySem.W.Frag} {C : Addr} {H0 H H' : Hp} {p : Addr} {M : List Ent} (h : KindsNew K C H H' p M) (s : Same H0 H) : KindsNew K C H0 H' p M := let ⟨dx, D, h1, h2, h3, h4⟩ := h; ⟨dx, D, h1, s.free h2, h3, h4⟩
theorem KindsNew.same {K : PySem.W.Frag} {C : Addr} {H H' H2 : Hp} {p : Addr} {M : List Ent} (h : KindsNew K C H H' p M) (s : Same H' H2) : KindsNew K C H H2 p M := let ⟨dx, D, h1, h2, h3, h4⟩ := h; ⟨dx, D, s _ _ h1, h2, h3.same s, h4⟩
theorem Ents.dk {K : PySem.W.Frag} {H : Hp} {D : Addr} {k0 : List (Key × V)} {o : HO} {L : List Ent} (h : Ents K H L) (hD : H D = some (.dK k0)) : Ents K (upd H D o) L := ⟨fun e m => dp_dk hD (h.dp e m), h.sh, h.sm, h.ko, h.nd, h.few⟩
/-- a dict that was there is locked: the kinds stay -/
theorem KindsNew.lock {K : PySem.W.Frag} {C : Addr} {H H' : Hp} {p d : Addr} {M : List Ent} {k0 : List (Key × V)} {u o : HO} (h : KindsNew K C H H' p M) (hd : H d = some u) (hd' : H' d = some (.dK k0)) : KindsAt K C (upd H' d o) p M := by
  obtain ⟨dx, D, h1, h2, h3, h4⟩ := h
  have np : p ≠ d := fun z => by rw [z, hd'] at h1; cases h1
  have nD : D ≠ d := fun z => by rw [z, hd] at h2; cases h2
  exact ⟨dx, D, by rw [upd_ne np]; exact h1, ⟨by rw [upd_ne nD]; exact h3.at_, h3.ok.dk hd'⟩, h4⟩
theorem made_at {K : PySem.W.Frag} {C : Addr} {H2 H3 : Hp} {kp kdx D : Addr} {L : List Ent} (g : GoodL (pairsE L)) (hE : Ents K H2 L) (hkp : H2 kp = none) (hkdx : H2 kdx = none) (s3 : Same (upd (upd H2 kdx (.own kp)) kp (.ins C kdx [])) H3) (hD : upd (upd H2 kdx (.own kp)) kp (.ins C kdx []) D = none) (hDk : H3 D = some (.dK (kvsT L))) :
    Same H2 (upd H3 kp (.ins C kdx [("told", .ref D)])) ∧ KindsNew K C H2 (upd H3 kp (.ins C kdx [("told", .ref D)])) kp L := by
  have s02 : Same H2 (upd (upd H2 kdx (.own kp)) kp (.ins C kdx [])) := same_upd (same_upd (Same.refl _) hkdx) hkp
  have s24 : Same H2 (upd H3 kp (.ins C kdx [("told", .ref D)])) := same_upd (s02.trans s3) hkp
  refine ⟨s24, kdx, D, upd_same, s02.free hD, ⟨?_, hE.same s24⟩, fun e he => g.kd _ (List.mem_map_of_mem he)⟩
  rw [upd_ne (fun z => by rw [z, s3 kp _ upd_same] at hDk; cases hDk)]
  exact hDk
/-- Kinds(told) of good entries -/
theorem make_good {K : PySem.W.Frag} {C B : Addr} {H : Hp} {E : XK} {a kp kdx : Addr} {L : List Ent} {Q : VK} (g : GoodL (pairsE L)) (hT : Told K H a L) (hkp : H kp = none) (hkdx : H kdx = none) (q : ∀ H', Same H H' → KindsNew K C H H' kp L → Q .non H') :
    spInit K C B [.ref kp, .ref a] (upd (upd H kdx (.own kp)) kp (.ins C kdx [])) Q E := by
  have s0 : Same H (upd (upd H kdx (.own kp)) kp (.ins C kdx [])) := same_upd (same_upd (Same.refl _) hkdx) hkp
  refine ⟨kp, kdx, .ref a, rfl, upd_same, .inr ⟨a, L, rfl, hT.same s0, g.has, g.made fun H' D s hD hDk => ?_⟩⟩
  obtain ⟨s1, k1⟩ := made_at g hT.ok hkp hkdx s hD hDk
  exact q _ s1 k1
def turnPart (w : Int) : PyData → PyData
  | .int k => .int (w - 1 - k)
  | d => d
def turnRow (w : Int) (ps : List PyData) : List PyData := ps.reverse.map (turnPart w)
def turnK : PyData → PyData
  | .tuple [.int w, .tuple ps] => kindD w (turnRow w ps)
  | d => d
def turnP (m : Str × PyData) : Str × PyData := (m.1, turnK m.2)
section
variable {P : Program} {w : World} {K : PySem.W.Frag} {mg : Str → Option Value} {base : Heap}
def spTurnK (K : PySem.W.Frag) : Sp := fun vs H Q _ => ∃ v wd ps, vs = [v] ∧ Dp K H v (kindD wd ps) ∧ ps.all (isPartD wd) = true ∧ ps.length ≤ 100 ∧ ∀ v' H', Same H H' → Dp K H' v' (turnK (kindD wd ps)) → Q v' H'
theorem ok_turned_kind (T : Top K mg) : FnOk P w K mg base (L2.CX P w) 1 T.turned_kind.a T.turned_kind.d ["kind"] (spTurnK K) := by
  refine T.turned_kind.f.okX sc_turned_kind (fun vs H Q E h => ?_) (fun cdv A outer s H vs Q E hr h => ?_)
  · obtain ⟨v, wd, ps, rfl, _⟩ := h
    rfl
  · obtain ⟨v, wd, ps, rfl, hv, parts, few, q⟩ := h
    obtain ⟨a, b, xs, rfl, ha, hb, hx⟩ := kind_val hv
    refine ⟨_, (pss_cons ((ps_asg (pv 0) (pg_tup rfl (pgs_cons (pg_name (i := 1) sc_turned_kind.nd rfl (Or.inr rfl)) (pgs_cons (pg_name (i := 2) sc_turned_kind.nd rfl (Or.inl rfl)) pgs_nil))))) (pss_one ((ps_ret ((pe_tup (pa_cons (pv 1) (pa_cons ((pe_callTy (call_tuple_of) (by rfl) T.bf.tuple_ (by decide +kernel) (pa_cons ((pe_lc (own := [("part", 3)]) (g := gName 3) (tt := tYes) rfl sc_turned_kind.nd (pi_tup (pe_revT (pv 2))) (blkOk_by (N := n_turned_kind) (sc := defScope s_turned_kind) (by decide +kernel)) (fun _ _ _ _ _ => pg_name (i := 3) sc_turned_kind.nd rfl (Or.inl rfl)) (fun _ _ _ _ _ => pts_nil) (fun _ _ _ _ _ => pe_ifExp (pt_cmpR (op_eq) (pv 3) (pe_str) (nomark _)) (pv 3) (pe_op (op_sub) ((pe_op (op_sub) (pv 1) (pe_int))) (pv 3))))) pa_nil))) pa_nil)))))))), ?_⟩
    have lx := all_len hx
    refine ⟨_, rfl, a, _, rfl, ha, rfl, _, _, rfl, _, _, rfl, rfl, ?_⟩
    refine ⟨_, rfl, _, rfl, b, xs, rfl, hb, fun p hp => ?_⟩
    have s1 := same_upd (o := .tup xs.reverse) (Same.refl H) hp
    have hp1 : upd H p (.tup xs.reverse) p = some (.tup xs.reverse) := upd_same
    generalize upd H p (.tup xs.reverse) = H1 at s1 hp1 ⊢
    refine ⟨p, rfl, ⟨_, SqT.of hp1⟩, fun D hD => ?_⟩
    refine lc_rel (i := 3) (K := K) (walk_tup (K := K) (a := p) (xs := xs.reverse)) (fun j d => ∃ e, ps.reverse[j]? = some e ∧ d = turnPart wd e) (fun H2 s2 => SqT.of (s2 _ _ hp1)) hD (by rw [List.length_reverse]; omega) (fun _ => rfl) ?elt ?done
    case elt =>
      rintro j x H2 H2' hj s2 ⟨rfl, hx2⟩
      refine ⟨Same.refl _, fun Q1 q1 => ?_⟩
      have lt : j < xs.length := by rw [List.length_reverse] at hj; exact hj
      have gx : xs[xs.length - 1 - j]? = some x := by rw [← hx2, List.getElem?_reverse lt]
      obtain ⟨d, hd, hdx⟩ := all_at (dpAll_same (s1.trans s2) hx) _ x gx
      have gd : ps.reverse[j]? = some d := by rw [List.getElem?_reverse (by omega), ← lx]; exact hd
      have pd := List.all_eq_true.mp parts d (List.mem_of_getElem? hd)
      cases hdx with
      | str z =>
        have en : z = "new" := of_decide_eq_true pd
        subst en
        refine ⟨_, rfl, rfl, _, rfl, iteT ⟨_, rfl, q1 _ (.str "new") _ (Same.refl _) (.str _) ⟨_, gd, rfl⟩ rfl⟩⟩
      | int k => exact ⟨_, rfl, rfl, _, rfl, iteF ⟨_, rfl, _, _, rfl, rfl, _, rfl, _, _, rfl, rfl, q1 _ (.int (wd - 1 - k)) _ (Same.refl _) (.int _) ⟨_, gd, rfl⟩ rfl⟩⟩
      | non => simp [isPartD] at pd
      | bl b => simp [isPartD] at pd
      | lst a b => simp [isPartD] at pd
      | tup a b => simp [isPartD] at pd
    case done =>
      intro H2 vs2 ds2 s2 hD2 ha2 hl2 hr2
      rw [List.length_reverse] at hl2
      have ed : ds2 = turnRow wd ps := by
        unfold turnRow
        refine List.ext_getElem? fun j => ?_
        by_cases hj : j < ps.length
        · have e1 : ds2[j]? = some (ds2[j]'(by omega)) := List.getElem?_eq_getElem (by omega)
          obtain ⟨e, he, e2⟩ := hr2 j _ e1
          rw [e1, e2, List.getElem?_map, he]
          rfl
        · rw [List.getElem?_eq_none (by omega), List.getElem?_eq_none (by rw [List.length_map, List.length_reverse]; omega)]
      subst ed
      refine ⟨D, vs2, rfl, .inl ⟨SqL.of hD2, fun l hl => ⟨by show 2 ≤ sizeLine; decide, fun p2 hp2 => ?_⟩⟩⟩
      have s3 := same_upd (o := .tup vs2) (Same.refl H2) hl
      have hl3 : upd H2 l (.tup vs2) l = some (.tup vs2) := upd_same
      generalize upd H2 l (.tup vs2) = H3 at s3 hl3 hp2 ⊢
      have s4 := same_upd (o := .tup [.int wd, .ref l]) (Same.refl H3) hp2
      exact q _ _ ((s1.trans s2).trans (s3.trans s4)) (.tup (SqT.of upd_same) (.cons (.int _) (.cons (.tup (SqT.of (s4 _ _ hl3)) (dpAll_same (s3.trans s4) ha2)) .nil)))
def spTurnKs (K : PySem.W.Frag) (C : Addr) : Sp := fun vs H Q _ => ∃ p M, vs = [.ref p] ∧ KindsAt K C H p M ∧ GoodL ((pairsE M).map turnP) ∧ ∀ p' M' H', Same H H' → KindsNew K C H H' p' M' → pairsE M' = (pairsE M).map turnP → Q (.ref p') H'
theorem ok_turned_kinds (T : Top K mg) : FnOk P w K mg base (L2.CX P w) 9 T.turned_kinds.a T.turned_kinds.d ["kinds"] (spTurnKs K T.cKinds.c) := by
  refine T.turned_kinds.f.okX sc_turned_kinds (fun vs H Q E h => ?_) (fun cdv A outer s H vs Q E hr h => ?_)
  · obtain ⟨p, M, rfl, _⟩ := h
    rfl
  · obtain ⟨p, M, rfl, hk, g, q⟩ := h
    refine ⟨_, (pss_cons (ps_expr (pe_call (ok_check_kinds T) (hr.mono (by decide)) (by rfl) T.check_kinds.m T.check_kinds.f.kp T.check_kinds.b .nil pX (pa_cons (pv 0) pa_nil))) (pss_one ((ps_ret ((pe_make T.kf.mkK (ok_Kinds_init T) (hr.mono (by decide)) (by rfl) T.cKinds.m T.Kinds_init.b .nil passL (pa_cons (pe_dc (own := [("name", 1)]) (g := gName 1) (tt := tYes) rfl sc_turned_kinds.nd (pi_list (pe_meth0 (pv 0) T.kf.cls ⟨T.Kinds_names.i, T.Kinds_names.g, T.Kinds_names.f.kp⟩ (ok_Kinds_names T) (hr.mono (by decide)) T.Kinds_names.b .nil pX)) (blkOk_by (N := n_turned_kinds) (sc := defScope s_turned_kinds) (by decide +kernel)) (fun _ _ _ _ _ => pg_name (i := 1) sc_turned_kinds.nd rfl (Or.inl rfl)) (fun _ _ _ _ _ => pts_nil) (fun _ _ _ _ _ => pv 1) (fun _ _ _ _ _ => (pe_call (ok_turned_kind T) (hr.mono (by decide)) (by rfl) T.turned_kind.m T.turned_kind.f.kp T.turned_kind.b .nil passL (pa_cons ((pe_ownIx (ok_Kinds_getitem T) (hr.mono (by decide)) T.Kinds_getitem.b passL T.Kinds_getitem.i T.Kinds_getitem.g T.kf.fn (pv 0) (pv 1) (fun _ _ => rfl))) pa_nil)))) pa_nil))))))), ?_⟩
    obtain ⟨dx, D0, hp, hD0, hg⟩ := id hk
    have few := g.few
    rw [List.length_map, len_pairs] at few
    refine ⟨_, rfl, _, rfl, .inl ⟨p, dx, _, rfl, hp, ?_⟩⟩
    refine ⟨_, rfl, p, dx, _, rfl, hp, rfl, p, M, rfl, hk, fun l H1 s1 hl => ?_⟩
    refine ⟨l, rfl, ⟨_, SqL.of hl⟩, fun D hD => ?_⟩
    refine dc_it (walk_list (xs := M.map fun e => V.str e.1)) (fun j H2 => Same H1 H2 ∧ ∃ N : List Ent, H2 D = some (.dK (kvsT N)) ∧ pairsE N = (pairsE (M.take j)).map turnP ∧ ∀ e ∈ N, Dp K H2 e.2.1 e.2.2) ⟨same_upd (Same.refl H1) hD, [], upd_same, rfl, fun e h => by cases h⟩ (fun j H2 _ p2 => SqL.of (p2.1 _ _ hl)) ?turn ?done
    case turn =>
      rintro j x H2 H2' hj ⟨s2, N, hD2, eN, dpN⟩ ⟨rfl, hx⟩
      obtain ⟨e, he, rfl⟩ := idx_map hx
      have em : e ∈ M := List.mem_of_getElem? he
      have s02 := s1.trans s2
      have hk2 := hk.same s02
      obtain ⟨dx2, D02, hp2, hD02, hg2⟩ := id hk2
      have fe := findE_of hD02.ok.nd em
      obtain ⟨wd, ps, ed, w0, w2, row⟩ := kind_form (hg e em)
      have dpe := hD02.ok.dp e em
      have sml := hD02.ok.sm e em
      rw [ed] at dpe sml
      refine ⟨rfl, ?_⟩
      simp only [tYes, if_true]
      refine ⟨_, rfl, _, rfl, _, rfl, p, dx2, _, rfl, hp2, p, _, .str e.1, M, rfl, hk2, .str _, fun y ey => ?_, fun z => by rw [fe] at z; cases z⟩
      rw [fe] at ey
      cases ey
      refine ⟨_, wd, ps, rfl, dpe, row_parts row, sml, fun v' H3 s3 hv' => ?_⟩
      have nk : ∀ x ∈ N, x.1 ≠ e.1 := fun x hx z => by
        have h1 : x.1 ∈ (M.take j).map (·.1) := by
          have : x.1 ∈ (pairsE N).map (·.1) := by rw [fst_pairs]; exact List.mem_map_of_mem hx
          rw [eN, List.map_map] at this
          have e2 : ((fun x => x.1) ∘ turnP) = (fun m : Str × PyData => m.1) := rfl
          rw [e2, fst_pairs] at this
          exact this
        obtain ⟨y, hy, ey⟩ := List.mem_map.mp h1
        exact nd_take hD02.ok.nd he y hy (ey.trans z)
      refine ⟨kvsT N, Sum.inr e.1, rfl, s3 _ _ hD2, ?_, same_upd (s2.trans s3) hD, N ++ [(e.1, v', turnK e.2.2)], ?_, ?_, ?_⟩
      · rw [kvs_len]
        have := congrArg List.length eN
        rw [List.length_map, len_pairs, len_pairs, List.length_take] at this
        exact small1000 (by omega)
      · rw [upd_same, putK_new nk]
        simp [kvsT]
      · rw [List.take_add_one, he]
        unfold pairsE at eN ⊢
        rw [List.map_append, eN]
        simp [turnP]
      · intro x hx
        rcases List.mem_append.mp hx with z | z
        · exact dp_dk (s3 _ _ hD2) (dp_same s3 (dpN x z))
        · rw [List.mem_singleton.mp z]
          rw [ed]
          exact dp_dk (s3 _ _ hD2) hv'
    case done =>
      rintro H2 ⟨s2, N, hD2, eN, dpN⟩
      rw [List.length_map, List.take_length] at eN
      rw [← eN] at g
      refine fun kp kdx hkp hkdx hne => make_good g ⟨hD2, g.ents dpN⟩ hkp hkdx fun H3 s3 hk3 => ⟨rfl, ?_⟩
      exact q kp N H3 ((s1.trans s2).trans s3) (hk3.back (s1.trans s2)) eN
end
end K41

end

section
set_option Elab.async false
set_option linter.all false
set_option maxRecDepth 100000
set_option maxHeartbeats 4000000
/-! The kind, and the change, that lead back; the change that is turned. -/
namespace K41
open PySem PySem.Spec PyProof.Rows L2 KX
def nbE (M : List Ent) (d : PyData) : Option Ent := M.find? fun x => PyData.eqv x.2.2 (backOf d)
def nbV (M : List Ent) (d : PyData) : V := match nbE M d with
  | some x => .str x.1
  | none => .non
theorem range_filt {α β : Type} (M : List α) (g : α → Option β) : ∀ k, k ≤ M.length → (List.range k).filterMap (fun j => (M[j]?).bind g) = (M.take k).filterMap g
  | 0, _ => rfl
  | k + 1, h => by
    rw [List.range_succ, List.filterMap_append, range_filt M g k (by omega), List.take_add_one, List.filterMap_append, List.getElem?_eq_getElem (by omega)]
    congr 1
    rw [List.filterMap_cons, List.getElem?_eq_getElem (show k < M.length by omega)]
    show _ = List.filterMap g [M[k]]
    rw [List.filterMap_cons]
    rfl
theorem first_filt (M : List Ent) (c : Ent → Bool) : ((M.filterMap fun x => if c x = true then some (V.str x.1) else none) ++ [V.non])[0]? = some (match M.find? c with | some x => .str x.1 | none => .non) := by
  induction M with
  | nil => rfl
  | cons x r ih =>
    by_cases h : c x = true
    · rw [List.filterMap_cons, if_pos h, List.find?_cons_of_pos h]
      rfl
    · rw [List.filterMap_cons, if_neg h, List.find?_cons_of_neg h]
      exact ih
theorem shaped_list1 {d : PyData} (h : SeqAt.shaped (.list [d]) = true) : SeqAt.shaped d = true := shaped_el h
theorem menu_back_shaped : (menu.all fun m => SeqAt.shaped (backOf m.2)) = true := by decide +kernel
theorem back_shaped {z : Str} {d : PyData} (h : (z, d) ∈ menu) : SeqAt.shaped (backOf d) = true := List.all_eq_true.mp menu_back_shaped _ h
section
variable {P : Program} {w : World} {K : PySem.W.Frag} {mg : Str → Option Value} {base : Heap}
def spNB (K : PySem.W.Frag) (C : Addr) : Sp := fun vs H Q _ => ∃ p M e, vs = [.ref p, .str e.1] ∧ KindsAt K C H p M ∧ EntsZ K H M ∧ OfMenu M ∧ e ∈ M ∧ ∀ H', Same H H' → Q (nbV M e.2.2) H'
theorem ok_name_back (T : Top K mg) : FnOk P w K mg base (L2.CX P w) 6 T.name_back.a T.name_back.d ["kinds", "name"] (spNB K T.cKinds.c) := by
  refine T.name_back.f.okX sc_name_back (fun vs H Q E h => ?_) (fun cdv A outer s H vs Q E hr h => ?_)
  · obtain ⟨p, M, e, rfl, _⟩ := h
    rfl
  · obtain ⟨p, M, e, rfl, hk, hz, hm, em, q⟩ := h
    refine ⟨_, (pss_cons ((ps_set (i := 2) sc_name_back.nd rfl (Or.inr rfl) ((pe_call (ok_turned_back T) (hr.mono (by decide)) (by rfl) T.turned_back.m T.turned_back.f.kp T.turned_back.b .nil pX (pa_cons ((pe_ownIx (ok_Kinds_getitem T) (hr.mono (by decide)) T.Kinds_getitem.b pX T.Kinds_getitem.i T.Kinds_getitem.g T.kf.fn (pv 0) (pv 1) (fun _ _ => rfl))) pa_nil))))) (pss_one ((ps_ret ((pe_ix (ix_list) ((pe_op (op_cat) ((pe_lc (own := [("each", 3)]) (g := gName 3) rfl sc_name_back.nd (pi_list (pe_meth0 (pv 0) T.kf.cls ⟨T.Kinds_names.i, T.Kinds_names.g, T.Kinds_names.f.kp⟩ (ok_Kinds_names T) (hr.mono (by decide)) T.Kinds_names.b .nil pX)) (blkOk_by (N := n_name_back) (sc := defScope s_name_back) (by decide +kernel)) (fun _ _ _ _ _ => pg_name (i := 3) sc_name_back.nd rfl (Or.inl rfl)) (fun _ _ _ _ _ => pts_one ((pt_cmpR (show OpR _ _ (rEqD K) from op_eqD hr.units) (pe_ownIx (ok_Kinds_getitem T) (hr.mono (by decide)) T.Kinds_getitem.b passL T.Kinds_getitem.i T.Kinds_getitem.g T.kf.fn (pv 0) (pv 3) (fun _ _ => rfl)) (pv 2) (by rfl)))) (fun _ _ _ _ _ => pv 3))) ((pe_lst (pa_cons (pe_non) pa_nil))))) (pe_int) (fun _ _ => rfl))))))), ?_⟩
    obtain ⟨dx, D0, hp, hD0, hg⟩ := id hk
    have fe := findE_of hD0.ok.nd em
    have few := hD0.ok.few
    obtain ⟨wd, ps, ed, kz⟩ := hz e em
    have me := hm e em
    refine ⟨_, rfl, _, rfl, p, dx, _, rfl, hp, p, _, .str e.1, M, rfl, hk, .str _, fun y ey => ?_, fun z => by rw [fe] at z; cases z⟩
    rw [fe] at ey
    cases ey
    rw [ed] at me
    refine ⟨e.2.1, e.1, wd, ps, rfl, kz, me, fun v' H1 s1 hv' => ?_⟩
    have hk1 := hk.same s1
    obtain ⟨dx1, D1, hp1, hD1, hg1⟩ := id hk1
    refine ⟨_, rfl, p, dx1, _, rfl, hp1, rfl, p, M, rfl, hk1, fun l H2 s2 hl => ?_⟩
    refine ⟨l, rfl, ⟨_, SqL.of hl⟩, fun D hD => ?_⟩
    refine lc_filt (i := 3) (walk_list (K := K) (a := l) (xs := M.map fun e => V.str e.1)) (fun j => (M[j]?).bind fun x => if PyData.eqv x.2.2 (backOf e.2.2) = true then some (V.str x.1) else none) (fun H3 s3 => SqL.of (s3 _ _ hl)) hD (by rw [List.length_map]; omega) (fun _ => rfl) ?elt ?done
    case elt =>
      rintro j x H3 H3' hj s3 ⟨rfl, hx⟩
      obtain ⟨x, hj, rfl⟩ := idx_map hx
      have xm : x ∈ M := List.mem_of_getElem? hj
      have hk3 := hk1.same (s2.trans s3)
      obtain ⟨dx3, D3, hp3, hD3, hg3⟩ := id hk3
      have fx := findE_of hD3.ok.nd xm
      refine ⟨Same.refl _, fun Q1 Q2 q1 q2 => ?_⟩
      refine ⟨_, rfl, _, rfl, p, dx3, _, rfl, hp3, p, _, .str x.1, M, rfl, hk3, .str _, fun y ey => ?_, fun z => by rw [fx] at z; cases z⟩
      rw [fx] at ey
      cases ey
      refine ⟨_, rfl, x.2.2, backOf e.2.2, hD3.ok.dp x xm, ?_, shaped_el (hD3.ok.sh x xm), back_shaped (hm e em), _, rfl, ?_⟩
      · rw [ed]
        exact dp_same (s2.trans s3) hv'
      · rw [hj] at q1 q2
        by_cases c : PyData.eqv x.2.2 (backOf e.2.2) = true
        · rw [c]
          exact iteT ⟨_, rfl, q2 _ (by simp [c]) _ (Same.refl _)⟩
        · have c : PyData.eqv x.2.2 (backOf e.2.2) = false := by simpa using c
          rw [c]
          exact iteF (q1 (by simp [c]) _ (Same.refl _))
    case done =>
      intro H3 s3 hD3
      rw [List.length_map, range_filt M _ M.length (Nat.le_refl _), List.take_length] at hD3
      refine ⟨by show 1 ≤ sizeLine; decide, fun b hb => ?_⟩
      have s4 := same_upd (o := .lst [.non]) (Same.refl H3) hb
      have hb4 : upd H3 b (.lst [.non]) b = some (.lst [.non]) := upd_same
      generalize upd H3 b (.lst [.non]) = H4 at s4 hb4 ⊢
      refine ⟨D, b, _, _, rfl, rfl, s4 _ _ hD3, hb4, ?_, fun c hc => ?_⟩
      · have := List.length_filterMap_le (fun x : Ent => if PyData.eqv x.2.2 (backOf e.2.2) = true then some (V.str x.1) else none) M
        exact small (by show _ + 1 ≤ 1000; omega)
      · have s5 := same_upd (o := .lst ((M.filterMap fun x => if PyData.eqv x.2.2 (backOf e.2.2) = true then some (V.str x.1) else none) ++ [V.non])) (Same.refl H4) hc
        refine ⟨c, _, _, _, rfl, rfl, SqL.of upd_same, atI_nat (j := 0) (first_filt M _), q _ ((s1.trans s2).trans (s3.trans (s4.trans s5)))⟩
theorem ok_kind_back (T : Top K mg) : FnOk P w K mg base (L2.CX P w) 7 T.kind_back.a T.kind_back.d ["kinds", "name"] (spNB K T.cKinds.c) := by
  refine T.kind_back.f.okX sc_kind_back (fun vs H Q E h => ?_) (fun cdv A outer s H vs Q E hr h => ?_)
  · obtain ⟨p, M, e, rfl, _⟩ := h
    rfl
  · obtain ⟨p, M, e, rfl, hk, hz, hm, em, q⟩ := h
    refine ⟨_, (pss_cons (ps_expr (pe_call (ok_check_kinds T) (hr.mono (by decide)) (by rfl) T.check_kinds.m T.check_kinds.f.kp T.check_kinds.b .nil pX (pa_cons (pv 0) pa_nil))) (pss_cons ((ps_if ((pt_cmpR (op_ownNotIn (ok_Kinds_contains T) (hr.mono (by decide)) T.Kinds_contains.b pX T.Kinds_contains.i T.Kinds_contains.g) (pv 1) (pv 0) (by rfl))) ((pss_one ((ps_raise rfl (takes_of rfl rfl rfl rfl) (pmk_oex T.oBadKinds T.BadKinds_init.i (fnTy T.BadKinds_init.g) (ok_BadKinds_init T) (hr.mono (by decide)) T.BadKinds_init.b .nil pF (by rfl) T.cBadKinds.m (pa_cons (pv 1) pa_nil)))))) (pss_nil))) (pss_one ((ps_ret ((pe_call (ok_name_back T) (hr.mono (by decide)) (by rfl) T.name_back.m T.name_back.f.kp T.name_back.b .nil pX (pa_cons (pv 0) (pa_cons (pv 1) pa_nil))))))))), ?_⟩
    obtain ⟨dx, D0, hp, hD0, hg⟩ := id hk
    have fe := findE_of hD0.ok.nd em
    refine ⟨_, rfl, _, rfl, .inl ⟨p, dx, _, rfl, hp, ?_⟩⟩
    refine ⟨_, rfl, _, rfl, p, dx, _, rfl, hp, p, _, .str e.1, M, rfl, hk, .str _, _, rfl, _, rfl, ?_⟩
    rw [fe]
    exact iteF ⟨_, rfl, _, rfl, p, M, e, rfl, hk, hz, hm, em, q⟩
/-- a change of the entry e that can be done to the text t -/
structure GC (K : PySem.W.Frag) (C : Addr) (H : Hp) (p : Addr) (M : List Ent) (vt vc : V) (t : List Int) (e : Ent) (pl : Int) (l hd : PyData) (hv : V) (wd : Int) (ps : List PyData) : Prop where
  hk : KindsAt K C H p M
  ht : TextAt K H vt t
  tl : t.length ≤ 50
  em : e ∈ M
  ed : e.2.2 = kindD wd ps
  ch : ChangeAt K H vc e.1 pl l hv
  hh : Dp K H hv hd
  dc : Dp K H vc (.tuple [.str e.1, .int pl, l, hd])
  ic : isChangeD M (.tuple [.str e.1, .int pl, l, hd]) = true
  can : canD wd t pl l = true
theorem GC.same {C : Addr} {H H' : Hp} {p : Addr} {M : List Ent} {vt vc : V} {t : List Int} {e : Ent} {pl : Int} {l hd : PyData} {hv : V} {wd : Int} {ps : List PyData} (g : GC K C H p M vt vc t e pl l hd hv wd ps) (s : Same H H') : GC K C H' p M vt vc t e pl l hd hv wd ps :=
  ⟨g.hk.same s, g.ht.same s, g.tl, g.em, g.ed, g.ch.same s, dp_same s g.hh, dp_same s g.dc, g.ic, g.can⟩
def spCO (K : PySem.W.Frag) (C : Addr) : Sp := fun vs H Q _ => ∃ p M vt vc t e pl l hd hv wd ps, vs = [.ref p, vt, vc] ∧ GC K C H p M vt vc t e pl l hd hv wd ps ∧ isTextD (.tuple (t.map .int)) = true ∧ ∀ H', Same H H' → Q .non H'
theorem ok_check_one (T : Top K mg) : FnOk P w K mg base (L2.CX P w) 7 T.check_one.a T.check_one.d ["kinds", "text", "change"] (spCO K T.cKinds.c) := by
  refine T.check_one.f.okX sc_check_one (fun vs H Q E h => ?_) (fun cdv A outer s H vs Q E hr h => ?_)
  · obtain ⟨p, M, vt, vc, _, _, _, _, _, _, _, _, rfl, _⟩ := h
    rfl
  · obtain ⟨p, M, vt, vc, t, e, pl, l, hd, hv, wd, ps, rfl, g, tx, q⟩ := h
    refine ⟨_, (pss_cons (ps_expr (pe_call (ok_check_kinds T) (hr.mono (by decide)) (by rfl) T.check_kinds.m T.check_kinds.f.kp T.check_kinds.b .nil pX (pa_cons (pv 0) pa_nil))) (pss_cons (ps_expr (pe_call (ok_check_text T) (hr.mono (by decide)) (by rfl) T.check_text.m T.check_text.f.kp T.check_text.b .nil pX (pa_cons (pv 1) pa_nil))) (pss_cons ((ps_if (pt_not (pt_val ((pe_call (ok_is_change T) (hr.mono (by decide)) (by rfl) T.is_change.m T.is_change.f.kp T.is_change.b .nil pX (pa_cons (pv 0) (pa_cons (pv 2) pa_nil)))))) ((pss_one ((ps_raise rfl (takes_of rfl rfl rfl rfl) (pmk_oex T.oBadChange T.BadChange_init.i (fnTy T.BadChange_init.g) (ok_BadChange_init T) (hr.mono (by decide)) T.BadChange_init.b .nil pF (by rfl) T.cBadChange.m (pa_cons (pe_int) pa_nil)))))) (pss_nil))) (pss_one ((ps_if (pt_not (pt_val ((pe_call (ok_can_do T) (hr.mono (by decide)) (by rfl) T.can_do.m T.can_do.f.kp T.can_do.b .nil pX (pa_cons (pv 0) (pa_cons (pv 1) (pa_cons (pv 2) pa_nil))))))) ((pss_one ((ps_raise rfl (takes_of rfl rfl rfl rfl) (pmk_oex T.oCannotDo T.CannotDo_init.i (fnTy T.CannotDo_init.g) (ok_CannotDo_init T) (hr.mono (by decide)) T.CannotDo_init.b .nil pF (by rfl) T.cCannotDo.m (pa_cons (pe_int) pa_nil)))))) (pss_nil))))))), ?_⟩
    obtain ⟨dx, D0, hp, hD0, hg⟩ := id g.hk
    refine ⟨_, rfl, _, rfl, .inl ⟨p, dx, _, rfl, hp, ?_⟩⟩
    have tl := g.tl
    refine ⟨_, rfl, vt, _, rfl, g.ht.dp, by show (t.map PyData.int).length ≤ 100; rw [List.length_map]; omega, fun H1 s1 => ?_⟩
    rw [tx, if_pos rfl]
    have g1 := g.same s1
    refine ⟨_, rfl, _, rfl, p, vc, _, M, rfl, g1.hk, g1.dc, _, rfl, ?_⟩
    rw [g.ic]
    refine iteF ⟨_, rfl, _, rfl, _, rfl, p, vt, vc, M, t, e, pl, l, hv, wd, ps, rfl, g1.hk, g1.ht, g1.em, g1.ed, g1.ch, _, rfl, ?_⟩
    rw [g.can]
    exact iteF (q H1 s1)
def lostD (t : List Int) (pl wd : Int) (ps : List PyData) : PyData := match lostN wd ps with
  | [] => .none
  | k :: _ => .int ((t[(pl + k).toNat]?).getD 0)
/-- the change that leads back -/
def cbD (M : List Ent) (t : List Int) (d : PyData) (pl wd : Int) (ps : List PyData) (hd : PyData) : PyData := match nbE M d with
  | none => .none
  | some x => .tuple [.str x.1, .int pl, lostD t pl wd ps, hd]
def spCB (K : PySem.W.Frag) (C : Addr) : Sp := fun vs H Q _ => ∃ p M vt vc t e pl l hd hv wd ps, vs = [.ref p, vt, vc] ∧ GC K C H p M vt vc t e pl l hd hv wd ps ∧ EntsZ K H M ∧ OfMenu M ∧ ∀ v' H', Same H H' → Dp K H' v' (cbD M t e.2.2 pl wd ps hd) → Q v' H'
theorem ok_change_back (T : Top K mg) : FnOk P w K mg base (L2.CX P w) 7 T.change_back.a T.change_back.d ["kinds", "text", "change"] (spCB K T.cKinds.c) := by
  refine T.change_back.f.okX sc_change_back (fun vs H Q E h => ?_) (fun cdv A outer s H vs Q E hr h => ?_)
  · obtain ⟨p, M, vt, vc, _, _, _, _, _, _, _, _, rfl, _⟩ := h
    rfl
  · obtain ⟨p, M, vt, vc, t, e, pl, l, hd, hv, wd, ps, rfl, g, hz, hm, q⟩ := h
    refine ⟨_, (pss_cons ((ps_asg (pv 2) (pg_tup rfl (pgs_cons (pg_name (i := 3) sc_change_back.nd rfl (Or.inl rfl)) (pgs_cons (pg_name (i := 4) sc_change_back.nd rfl (Or.inl rfl)) (pgs_cons (pg_name (i := 5) sc_change_back.nd rfl (Or.inl rfl)) (pgs_cons (pg_name (i := 6) sc_change_back.nd rfl (Or.inl rfl)) pgs_nil))))))) (pss_cons ((ps_set (i := 7) sc_change_back.nd rfl (Or.inl rfl) ((pe_call (ok_name_back T) (hr.mono (by decide)) (by rfl) T.name_back.m T.name_back.f.kp T.name_back.b .nil pX (pa_cons (pv 0) (pa_cons (pv 3) pa_nil)))))) (pss_cons ((ps_if ((pt_cmpR (op_isN) (pv 7) (pe_non) (nomark _))) ((pss_one ((ps_ret (pe_non))))) (pss_nil))) (pss_cons ((ps_set (i := 8) sc_change_back.nd rfl (Or.inl rfl) ((pe_call (ok_lost_numbers T) (hr.mono (by decide)) (by rfl) T.lost_numbers.m T.lost_numbers.f.kp T.lost_numbers.b .nil pX (pa_cons ((pe_ownIx (ok_Kinds_getitem T) (hr.mono (by decide)) T.Kinds_getitem.b pX T.Kinds_getitem.i T.Kinds_getitem.g T.kf.fn (pv 0) (pv 3) (fun _ _ => rfl))) pa_nil))))) (pss_one ((ps_ret ((pe_tup (pa_cons (pv 7) (pa_cons (pv 4) (pa_cons (pe_ifExp (pt_cmpR (op_neD hr.units) (pv 8) ((pe_lst pa_nil)) (by rfl)) (pe_ix (ix_tup) (pv 1) ((pe_op (op_add) (pv 4) ((pe_ix (ix_list) (pv 8) (pe_int) (fun _ _ => rfl))))) (fun _ _ => rfl)) pe_non) (pa_cons (pv 6) pa_nil))))))))))))), ?_⟩
    obtain ⟨ca, x, rfl, hca, hx⟩ := g.ch.here
    refine ⟨_, rfl, ca, _, rfl, hca, rfl, _, _, rfl, _, _, rfl, _, _, rfl, _, _, rfl, rfl, ?_⟩
    refine ⟨_, rfl, _, rfl, p, M, e, rfl, g.hk, hz, hm, g.em, fun H1 s1 => ?_⟩
    have g1 := g.same s1
    refine ⟨_, rfl, rfl, _, rfl, ?_⟩
    unfold cbD at q
    unfold nbV
    cases nb : nbE M e.2.2 with
    | none =>
      rw [nb] at q
      exact iteT (q _ _ s1 .non)
    | some y =>
      rw [nb] at q
      refine iteF ?_
      obtain ⟨dx, D0, hp, hD0, hg⟩ := id g1.hk
      have fe := findE_of hD0.ok.nd g.em
      have me := hm e g.em
      have dpe := hD0.ok.dp e g.em
      rw [g.ed] at me dpe
      refine ⟨_, rfl, _, rfl, p, dx, _, rfl, hp, p, _, .str e.1, M, rfl, g1.hk, .str _, fun y ey => ?_, fun z => by rw [fe] at z; cases z⟩
      rw [fe] at ey
      cases ey
      refine ⟨_, e.1, wd, ps, rfl, dpe, me, fun lp H2 s2 hlp => ?_⟩
      have g2 := g1.same s2
      obtain ⟨b, eb, hb⟩ := g2.ht
      subst eb
      have can := g.can
      unfold canD at can
      simp only [Bool.and_eq_true] at can
      have p0 := of_decide_eq_true can.1
      have p1 := of_decide_eq_true can.2.1
      have lost : ∀ k ∈ lostN wd ps, 0 ≤ k ∧ k < wd := fun k hk => by
        unfold lostN at hk
        obtain ⟨i, hi, e2⟩ := List.mem_filterMap.mp hk
        have := List.mem_range.mp hi
        split at e2
        · cases e2
        · cases e2
          omega
      have few : (lostN wd ps).length ≤ 2 := by
        have h1 := List.length_filterMap_le (fun i : Nat => if ps.any (isI (i : Nat)) = true then none else some ((i : Nat) : Int)) (List.range wd.toNat)
        rw [List.length_range] at h1
        have := (kok_of me).w2
        unfold lostN
        omega
      refine ⟨_, rfl, _, rfl, ?_⟩
      refine ⟨_, rfl, by show 0 ≤ sizeLine; decide, fun el hel => ?_⟩
      have s3 := same_upd (o := .lst []) (Same.refl H2) hel
      have hel3 : upd H2 el (.lst []) el = some (.lst []) := upd_same
      generalize upd H2 el (.lst []) = H3 at s3 hel3 ⊢
      refine ⟨.list ((lostN wd ps).map .int), .list [], .lst (SqL.of (s3 _ _ hlp)) (ints_all _), .lst (SqL.of hel3) .nil, shaped_ints _, by decide +kernel, _, rfl, ?_⟩
      have s13 := s1.trans (s2.trans s3)
      have hh3 := dp_same s13 g.hh
      unfold lostD at q
      cases hl : lostN wd ps with
      | nil =>
        rw [hl] at q
        refine iteF ⟨_, rfl, by show 4 ≤ sizeLine; decide, fun np hnp => ?_⟩
        have s4 := same_upd (o := .tup [.str y.1, .int pl, .non, hv]) (Same.refl H3) hnp
        exact q _ _ (s13.trans s4) (.tup (SqT.of upd_same) (.cons (.str _) (.cons (.int _) (.cons .non (.cons (dp_same s4 hh3) .nil)))))
      | cons k r =>
        rw [hl] at q hlp
        obtain ⟨k0, k1⟩ := lost k (by rw [hl]; exact List.mem_cons_self)
        have hlt : (pl + k).toNat < t.length := by omega
        have gt : (t.map V.int)[(pl + k).toNat]? = some (V.int ((t[(pl + k).toNat]?).getD 0)) := by
          rw [List.getElem?_map, List.getElem?_eq_getElem hlt]
          rfl
        have ek : pl + k = ((pl + k).toNat : Int) := by omega
        refine iteT ⟨_, rfl, _, rfl, _, rfl, lp, _, 0, _, rfl, rfl, SqL.of (s3 _ _ hlp), atI_nat (j := 0) rfl, _, _, rfl, rfl, b, _, _, _, rfl, rfl, sqT_same s3 hb, by rw [ek]; exact atI_nat gt, ?_⟩
        refine ⟨_, rfl, by show 4 ≤ sizeLine; decide, fun np hnp => ?_⟩
        have s4 := same_upd (o := .tup [.str y.1, .int pl, .int ((t[(pl + k).toNat]?).getD 0), hv]) (Same.refl H3) hnp
        exact q _ _ (s13.trans s4) (.tup (SqT.of upd_same) (.cons (.str _) (.cons (.int _) (.cons (.int _) (.cons (dp_same s4 hh3) .nil)))))
def spTk (K : PySem.W.Frag) (C : Addr) : Sp := fun vs H Q _ => ∃ p M vt vc t e pl l hd hv wd ps, vs = [.ref p, vt, vc] ∧ GC K C H p M vt vc t e pl l hd hv wd ps ∧ isTextD (.tuple (t.map .int)) = true ∧ EntsZ K H M ∧ OfMenu M ∧ ∀ v' H', Same H H' → Dp K H' v' (cbD M t e.2.2 pl wd ps hd) → Q v' H'
theorem ok_taken_back (T : Top K mg) : FnOk P w K mg base (L2.CX P w) 8 T.taken_back.a T.taken_back.d ["kinds", "text", "change"] (spTk K T.cKinds.c) := by
  refine T.taken_back.f.okX sc_taken_back (fun vs H Q E h => ?_) (fun cdv A outer s H vs Q E hr h => ?_)
  · obtain ⟨p, M, vt, vc, _, _, _, _, _, _, _, _, rfl, _⟩ := h
    rfl
  · obtain ⟨p, M, vt, vc, t, e, pl, l, hd, hv, wd, ps, rfl, g, tx, hz, hm, q⟩ := h
    refine ⟨_, (pss_cons (ps_expr (pe_call (ok_check_one T) (hr.mono (by decide)) (by rfl) T.check_one.m T.check_one.f.kp T.check_one.b .nil pX (pa_cons (pv 0) (pa_cons (pv 1) (pa_cons (pv 2) pa_nil))))) (pss_one ((ps_ret ((pe_call (ok_change_back T) (hr.mono (by decide)) (by rfl) T.change_back.m T.change_back.f.kp T.change_back.b .nil pX (pa_cons (pv 0) (pa_cons (pv 1) (pa_cons (pv 2) pa_nil))))))))), ?_⟩
    refine ⟨_, rfl, _, rfl, _, rfl, p, M, vt, vc, t, e, pl, l, hd, hv, wd, ps, rfl, g, tx, fun H1 s1 => ?_⟩
    exact ⟨_, rfl, _, rfl, _, rfl, p, M, vt, vc, t, e, pl, l, hd, hv, wd, ps, rfl, g.same s1, hz.same s1, hm, fun v' H' s' h' => q v' H' (s1.trans s') h'⟩
def spTd (K : PySem.W.Frag) (C : Addr) : Sp := fun vs H Q _ => ∃ p M vt vc t e pl l hd hv wd ps, vs = [.ref p, vt, vc] ∧ GC K C H p M vt vc t e pl l hd hv wd ps ∧ isTextD (.tuple (t.map .int)) = true ∧ ∀ v' H', Same H H' → (∃ a x, v' = .ref a ∧ SqT K H' a [.str e.1, .int ((t.length : Int) - pl - wd), x, hv] ∧ (x = .non ∧ l = .none ∨ ∃ n, x = .int n ∧ l = .int n)) → Q v' H'
theorem ok_turned (T : Top K mg) : FnOk P w K mg base (L2.CX P w) 8 T.turned.a T.turned.d ["kinds", "text", "change"] (spTd K T.cKinds.c) := by
  refine T.turned.f.okX sc_turned (fun vs H Q E h => ?_) (fun cdv A outer s H vs Q E hr h => ?_)
  · obtain ⟨p, M, vt, vc, _, _, _, _, _, _, _, _, rfl, _⟩ := h
    rfl
  · obtain ⟨p, M, vt, vc, t, e, pl, l, hd, hv, wd, ps, rfl, g, tx, q⟩ := h
    refine ⟨_, (pss_cons (ps_expr (pe_call (ok_check_one T) (hr.mono (by decide)) (by rfl) T.check_one.m T.check_one.f.kp T.check_one.b .nil pX (pa_cons (pv 0) (pa_cons (pv 1) (pa_cons (pv 2) pa_nil))))) (pss_cons ((ps_asg (pv 2) (pg_tup rfl (pgs_cons (pg_name (i := 3) sc_turned.nd rfl (Or.inl rfl)) (pgs_cons (pg_name (i := 4) sc_turned.nd rfl (Or.inl rfl)) (pgs_cons (pg_name (i := 5) sc_turned.nd rfl (Or.inl rfl)) (pgs_cons (pg_name (i := 6) sc_turned.nd rfl (Or.inl rfl)) pgs_nil))))))) (pss_one ((ps_ret ((pe_tup (pa_cons (pv 3) (pa_cons ((pe_op (op_sub) ((pe_op (op_sub) ((pe_callB call_len_seq (by rfl) T.bf.len_ PySem.boot_len (pa_cons (pv 1) pa_nil))) (pv 4))) ((pe_ix (ix_tup) ((pe_ownIx (ok_Kinds_getitem T) (hr.mono (by decide)) T.Kinds_getitem.b pX T.Kinds_getitem.i T.Kinds_getitem.g T.kf.fn (pv 0) (pv 3) (fun _ _ => rfl))) (pe_int) (fun _ _ => rfl))))) (pa_cons (pv 5) (pa_cons (pv 6) pa_nil))))))))))), ?_⟩
    refine ⟨_, rfl, _, rfl, _, rfl, p, M, vt, vc, t, e, pl, l, hd, hv, wd, ps, rfl, g, tx, fun H1 s1 => ?_⟩
    have g1 := g.same s1
    obtain ⟨ca, x, rfl, hca, hx⟩ := g1.ch.here
    refine ⟨_, rfl, ca, _, rfl, hca, rfl, _, _, rfl, _, _, rfl, _, _, rfl, _, _, rfl, rfl, ?_⟩
    obtain ⟨dx, D0, hp, hD0, hg⟩ := id g1.hk
    have fe := findE_of hD0.ok.nd g.em
    have dpe := hD0.ok.dp e g.em
    rw [g.ed] at dpe
    obtain ⟨ka, kb, xs, rx, h1, h2, h3⟩ := kind_val dpe
    obtain ⟨b, rfl, hb⟩ := g1.ht
    refine ⟨_, rfl, _, rfl, b, _, rfl, .inr hb, _, rfl, _, _, rfl, rfl, ?_⟩
    refine ⟨_, rfl, _, rfl, p, dx, _, rfl, hp, p, _, .str e.1, M, rfl, g1.hk, .str _, fun y ey => ?_, fun z => by rw [fe] at z; cases z⟩
    rw [fe] at ey
    cases ey
    rw [rx]
    refine ⟨ka, _, 0, _, rfl, rfl, h1, rfl, _, _, rfl, rfl, _, rfl, _, rfl, by show 4 ≤ sizeLine; decide, fun np hnp => ?_⟩
    rw [List.length_map]
    exact q _ _ (s1.trans (same_upd (Same.refl H1) hnp)) ⟨np, x, rfl, SqT.of upd_same, hx⟩
end
end K41

end

section
set_option Elab.async false
set_option linter.all false
set_option maxRecDepth 100000
set_option maxHeartbeats 4000000
/-! The list that leads back. -/
namespace K41
open PySem PySem.Spec PyProof.Rows L2 KX
theorem TextAt.updL {K : PySem.W.Frag} {H : Hp} {D : Addr} {vs ws : List V} {v : V} {t : List Int} (h : H D = some (.lst vs)) (ht : TextAt K H v t) : TextAt K (upd H D (.lst ws)) v t := by
  obtain ⟨a, rfl, hs⟩ := ht
  refine ⟨a, rfl, ?_⟩
  have ne : ∀ {u : HO}, H a = some u → (∀ l, u ≠ .lst l) → a ≠ D := fun {u} e h' z => by
    rw [z, h] at e
    exact h' _ (Option.some.inj e).symm
  rcases hs with (hs | ⟨o, hs⟩) | hs
  · exact .inl (.inl (by rw [upd_ne (ne hs fun l z => nomatch z)]; exact hs))
  · exact .inl (.inr ⟨o, by rw [upd_ne (ne hs fun l z => nomatch z)]; exact hs⟩)
  · exact .inr hs
theorem change_formZ {K : PySem.W.Frag} {C : Addr} {H : Hp} {p : Addr} {M : List Ent} {d : PyData} {v : V} (hk : KindsAt K C H p M) (h : isChangeD M d = true) (hv : Dp K H v d) :
    ∃ e pl l hd wd ps hv, e ∈ M ∧ d = .tuple [.str e.1, .int pl, l, hd] ∧ e.2.2 = .tuple [.int wd, .tuple ps] ∧ 0 ≤ wd ∧ ps.length ≤ 100 ∧ (hasNewD ps = true → isIntD l = true) ∧ ChangeAt K H v e.1 pl l hv ∧ Dp K H hv hd ∧ isIntD hd = true := by
  obtain ⟨dx, D, hp, hD, hg⟩ := hk
  unfold isChangeD at h
  split at h
  · rename_i n p' l hd
    rw [Bool.and_eq_true, Bool.and_eq_true, Bool.and_eq_true, Bool.and_eq_true] at h
    obtain ⟨h1, h2, h3, h4, h5⟩ := h
    obtain ⟨x, hx⟩ := Option.isSome_iff_exists.mp h1
    obtain ⟨e, em, rfl, rfl⟩ := findE_some hx
    obtain ⟨wd, ps, ed, w0, _, _⟩ := kind_form (hg e em)
    have nn : needsD M (.str e.1) = hasNewD ps := by
      show hasNewD (rowD M e.1) = _
      rw [(rowD_of hD.ok.nd em ed).1]
    have sml := hD.ok.sm e em
    rw [ed] at sml
    cases p' with
    | int pl =>
      cases hv with
      | tup hs ha =>
        cases ha with
        | cons a1 t1 =>
          cases a1
          cases t1 with
          | cons a2 t2 =>
            cases a2
            cases t2 with
            | cons a3 t3 =>
              cases t3 with
              | cons a4 t4 =>
                cases t4
                rw [nn] at h5
                refine ⟨e, pl, l, hd, wd, ps, _, em, rfl, ed, w0, sml, fun z => by rw [if_pos z] at h5; exact h5, ⟨_, _, rfl, hs, ?_⟩, a4, h3⟩
                by_cases z : hasNewD ps = true
                · rw [if_pos z] at h5
                  cases a3 <;> first
                    | exact .inr ⟨_, rfl, rfl⟩
                    | (simp [isIntD] at h5)
                · rw [if_neg z] at h5
                  cases a3 <;> first
                    | exact .inl ⟨rfl, rfl⟩
                    | (simp [noneD] at h5)
    | _ => simp [isIntD] at h2
  · cases h
/-- a change, or none -/
inductive ChD : PyData → Prop where
  | non : ChD .none
  | cut (z : Str) (p h : Int) (ok : PyData.strOk z = true) : ChD (.tuple [.str z, .int p, .none, .int h])
  | put (z : Str) (p n h : Int) (ok : PyData.strOk z = true) : ChD (.tuple [.str z, .int p, .int n, .int h])
theorem ChD.shape {d : PyData} (h : ChD d) : SeqAt.shaped (.list [d]) = true := by
  cases h with
  | non => decide +kernel
  | cut z p h ok => simp [ok, SeqAt.shaped, PyData.canLay0, PyData.canLayAll0, PyData.depth, PyData.depthAll]
  | put z p n h ok => simp [ok, SeqAt.shaped, PyData.canLay0, PyData.canLayAll0, PyData.depth, PyData.depthAll]
theorem ChD.flat {d : PyData} (h : ChD d) : flatD d = true := by cases h <;> rfl
theorem ChD.isNone {d : PyData} (h : ChD d) : PyData.eqv d .none = noneD d := by cases h <;> rfl
theorem menu_str : (menu.all fun m => PyData.strOk m.1) = true := by decide +kernel
theorem cb_form {M : List Ent} {t : List Int} {d : PyData} {pl wd : Int} {ps : List PyData} {h : Int} (hm : OfMenu M) : ChD (cbD M t d pl wd ps (.int h)) := by
  unfold cbD
  cases e : nbE M d with
  | none => exact .non
  | some x =>
    have ok : PyData.strOk x.1 = true := List.all_eq_true.mp menu_str _ (hm x (List.mem_of_find?_eq_some e))
    show ChD (.tuple [.str x.1, .int pl, lostD t pl wd ps, .int h])
    unfold lostD
    split
    · exact .cut _ _ _ ok
    · exact .put _ _ _ _ ok
theorem flat_chs : ∀ {bs : List PyData}, (∀ b ∈ bs, ChD b) → flatAll bs = true
  | [], _ => rfl
  | b :: r, h => by
    show (flatD b && flatAll r) = true
    rw [(h b List.mem_cons_self).flat, flat_chs fun x m => h x (List.mem_cons_of_mem _ m)]
    rfl
def backsZ (M : List Ent) : List Int → List PyData → List PyData
  | _, [] => []
  | t, .tuple [.str z, .int p, l, hd] :: r => cbD M t (entD M z) p (widthD M z) (rowD M z) hd :: backsZ M (behindD t (rowD M z) (widthD M z) p l) r
  | t, _ :: r => backsZ M t r
def lbD (M : List Ent) (t : List Int) (ds : List PyData) : PyData := if (backsZ M t ds).any noneD = true then .none else .list (backsZ M t ds).reverse
theorem dpAll_rev {K : PySem.W.Frag} {H : Hp} : ∀ {xs : List V} {ds : List PyData}, DpAll K H xs ds → DpAll K H xs.reverse ds.reverse
  | _, _, .nil => .nil
  | _, _, .cons h t => by
    rw [List.reverse_cons, List.reverse_cons]
    exact dpAll_snoc h (dpAll_rev t)
theorem runs_on {M : List Ent} {i : Nat} {t t' : List Int} {d : PyData} {r : List PyData} (h : runD M i t (d :: r) = .inr t') : ∃ t2, stepD M t d = some t2 ∧ runD M (i + 1) t2 r = .inr t' := by
  cases e : stepD M t d with
  | none => rw [runD_none e] at h; cases h
  | some t2 => exact ⟨t2, rfl, by rw [← runD_some e]; exact h⟩
theorem any_same {α : Type} {f g : α → Bool} : ∀ {l : List α}, (∀ x ∈ l, f x = g x) → l.any f = l.any g
  | [], _ => rfl
  | x :: r, h => by rw [List.any_cons, List.any_cons, h x List.mem_cons_self, any_same fun y m => h y (List.mem_cons_of_mem _ m)]
section
variable {P : Program} {w : World} {K : PySem.W.Frag} {mg : Str → Option Value} {base : Heap}
def spLB (K : PySem.W.Frag) (C : Addr) : Sp := fun vs H Q _ => ∃ p vt vc M t t' ds, vs = [.ref p, vt, vc] ∧ KindsAt K C H p M ∧ EntsZ K H M ∧ OfMenu M ∧ TextAt K H vt t ∧ isTextD (.tuple (t.map .int)) = true ∧ t.length ≤ 10 ∧ SeqD K H vc ds ∧ ds.length ≤ 6 ∧ badC M 0 ds = none ∧ runD M 0 t ds = .inr t' ∧
  ∀ v' H', Same H H' → Dp K H' v' (lbD M t ds) → Q v' H'
theorem ok_list_back (T : Top K mg) : FnOk P w K mg base (L2.CX P w) 8 T.list_back.a T.list_back.d ["kinds", "text", "changes"] (spLB K T.cKinds.c) := by
  refine T.list_back.f.okX sc_list_back (fun vs H Q E h => ?_) (fun cdv A outer s H vs Q E hr h => ?_)
  · obtain ⟨p, vt, vc, _, _, _, _, rfl, _⟩ := h
    rfl
  · obtain ⟨p, vt, vc, M, t, t', ds, rfl, hk, hz, hm, ht, tx, tl, hs, dl, bad, run, q⟩ := h
    refine ⟨_, (pss_cons (ps_expr (pe_call (ok_check_kinds T) (hr.mono (by decide)) (by rfl) T.check_kinds.m T.check_kinds.f.kp T.check_kinds.b .nil pX (pa_cons (pv 0) pa_nil))) (pss_cons (ps_expr (pe_call (ok_check_text T) (hr.mono (by decide)) (by rfl) T.check_text.m T.check_text.f.kp T.check_text.b .nil pX (pa_cons (pv 1) pa_nil))) (pss_cons (ps_expr (pe_call (ok_check_changes T) (hr.mono (by decide)) (by rfl) T.check_changes.m T.check_changes.f.kp T.check_changes.b .nil pX (pa_cons (pv 0) (pa_cons (pv 2) pa_nil)))) (pss_cons ((ps_set (i := 3) sc_list_back.nd rfl (Or.inl rfl) ((pe_lst pa_nil)))) (pss_cons ((ps_for pO rfl (pi_enumS (by rfl) T.bf.enumerate_ (pa_cons (pv 2) pa_nil)) (pg_tup rfl (pgs_cons (pg_name (i := 4) sc_list_back.nd rfl (Or.inl rfl)) (pgs_cons (pg_name (i := 5) sc_list_back.nd rfl (Or.inl rfl)) pgs_nil))) ((pss_one ((ps_if ((pt_cmpR (op_notN) (pv 5) (pe_non) (nomark _))) ((pss_cons ((ps_if (pt_not (pt_val ((pe_call (ok_can_do T) (hr.mono (by decide)) (by rfl) T.can_do.m T.can_do.f.kp T.can_do.b .nil pX (pa_cons (pv 0) (pa_cons (pv 1) (pa_cons (pv 5) pa_nil))))))) ((pss_one ((ps_raise rfl (takes_of rfl rfl rfl rfl) (pmk_oex T.oCannotDo T.CannotDo_init.i (fnTy T.CannotDo_init.g) (ok_CannotDo_init T) (hr.mono (by decide)) T.CannotDo_init.b .nil pF (by rfl) T.cCannotDo.m (pa_cons (pv 4) pa_nil)))))) (pss_nil))) (pss_cons ((ps_expr (pe_bm PySem.F.plainAttrs_list PySem.F.slot_list_append PySem.F.type_list_append mt_append (pv 3) (pa_cons ((pe_call (ok_change_back T) (hr.mono (by decide)) (by rfl) T.change_back.m T.change_back.f.kp T.change_back.b .nil pX (pa_cons (pv 0) (pa_cons (pv 1) (pa_cons (pv 5) pa_nil))))) pa_nil)))) (pss_one ((ps_set (i := 1) sc_list_back.nd rfl (Or.inl rfl) ((pe_call (ok_text_behind T) (hr.mono (by decide)) (by rfl) T.text_behind.m T.text_behind.f.kp T.text_behind.b .nil pX (pa_cons (pv 0) (pa_cons (pv 1) (pa_cons (pv 5) pa_nil))))))))))) (pss_nil))))))) (pss_one ((ps_ret (pe_ifExp (pt_cmpR (op_inD (hu65 hr)) (pe_non) (pv 3) (by rfl)) pe_non (pe_revL (pv 3))))))))))), ?_⟩
    obtain ⟨dx, D, hp, hD, hg⟩ := id hk
    refine ⟨_, rfl, _, rfl, .inl ⟨p, dx, _, rfl, hp, ?_⟩⟩
    refine ⟨_, rfl, vt, _, rfl, ht.dp, by show (t.map PyData.int).length ≤ 100; rw [List.length_map]; omega, fun H1 s1 => ?_⟩
    rw [tx, if_pos rfl]
    refine ⟨_, rfl, _, rfl, p, vc, M, rfl, hk.same s1, .inr ⟨ds, hs.same s1, ?_⟩⟩
    rw [bad]
    intro H2 s2
    refine ⟨by show 0 ≤ sizeLine; decide, fun st hst => ?_⟩
    have s3 := same_upd (o := .lst []) (Same.refl H2) hst
    have hst3 : upd H2 st (.lst []) st = some (.lst []) := upd_same
    generalize upd H2 st (.lst []) = H3 at s3 hst3 ⊢
    have s02 := s1.trans s2
    have s03 := s02.trans s3
    obtain ⟨d, hd, ed⟩ := hs.same s03
    obtain ⟨a, xs, rfl, hsq, ha⟩ := seq_val hd ed
    obtain ⟨d2, hd2, ed2⟩ := hs.same s02
    obtain ⟨a2, xs2, ea2, hsq2, ha2⟩ := seq_val hd2 ed2
    cases ea2
    have hlx := all_len ha2
    have st0 : ∀ {b : Addr} {u : HO}, H2 b = some u → b ≠ st := fun e z => by rw [z, hst] at e; cases e
    refine ⟨_, rfl, a, xs2, rfl, Same H2, ?seq, fun J G wk hG => for_it wk (fun i σ H4 => (∃ vn x4 x5 tn, σ = [some (.ref p), some vn, some (.ref a), some (.ref st), x4, x5] ∧ TextAt K H4 vn tn ∧ tn.length ≤ 10 + 3 * i ∧ runD M i tn (ds.drop i) = .inr t' ∧
        ∃ vs bs, H4 st = some (.lst vs) ∧ DpAll K H4 vs bs ∧ (∀ b ∈ bs, ChD b) ∧ bs.length ≤ i ∧ backsZ M t ds = bs ++ backsZ M tn (ds.drop i)) ∧ Same H2 H4)
      ⟨⟨vt, _, _, t, rfl, ht.same s03, by omega, run, [], [], hst3, .nil, (fun b h => by cases h), Nat.le_refl _, rfl⟩, s3⟩ (fun i σ H4 _ q4 => hG H4 q4.2) ?turn ?after⟩
    case seq =>
      rcases hsq2 with h | h
      · exact .inl ⟨s3.seq h, fun H4 s4 => s4.seq h⟩
      · exact .inr ⟨sqT_same s3 h, fun H4 s4 => sqT_same s4 h⟩
    case turn =>
      rintro i x σ H4 H4' hi ⟨⟨vn, x4, x5, tn, rfl, htn, hln, hrun, vs, bs, hvs, hab, hcb, hlb, hbk⟩, s4⟩ ⟨Tp, y0, y1, rfl, hT, rfl, e0, e1⟩
      cases e0
      have s5 := same_upd (o := .tup [.int (i : Nat), y1]) (Same.refl H4) hT
      refine ⟨Tp, _, rfl, SqT.of upd_same, rfl, _, _, rfl, _, _, rfl, rfl, ?_⟩
      generalize upd H4 Tp (.tup [.int (i : Nat), y1]) = H5 at s5 ⊢
      have s25 := s4.trans s5
      have s05 := s02.trans s25
      obtain ⟨di, hdi, hy⟩ := all_at (dpAll_same s25 ha2) i y1 e1
      have hcons := drop_ix hdi
      rw [hcons] at hrun hbk
      have okd := badC_all bad di (List.mem_of_getElem? hdi)
      have hvs5 := s5 _ _ hvs
      refine ⟨_, rfl, rfl, _, rfl, ?_⟩
      rw [none_eq hy]
      obtain ⟨t2, hstep, hrun2⟩ := runs_on hrun
      cases en : noneD di with
      | true =>
        have ed : di = .none := by cases di <;> first | rfl | (simp [noneD] at en)
        subst ed
        cases hstep
        exact iteF ⟨⟨vn, _, _, tn, rfl, htn.same s5, by omega, hrun2, vs, bs, hvs5, dpAll_same s5 hab, hcb, by omega, hbk⟩, s25⟩
      | false =>
        have ic : isChangeD M di = true := by
          unfold okC at okd
          rw [en, Bool.false_or] at okd
          exact okd
        have hk5 := hk.same s05
        have hz5 := hz.same s05
        obtain ⟨e, pl, l, hdd, wd, ps, hv, em, rfl, ed, w0, psl, hnl, hch, hhv, ihd⟩ := change_formZ hk5 ic hy
        have htn5 := htn.same s5
        obtain ⟨hrow, hwid⟩ := rowD_of hD.ok.nd em ed
        have hent := entD_of hD.ok.nd em
        have st5 : stepD M tn (.tuple [.str e.1, .int pl, l, hdd]) = if canD wd tn pl l = true then some (behindD tn ps wd pl l) else none := by
          show (if canD (widthD M e.1) tn pl l = true then some (behindD tn (rowD M e.1) (widthD M e.1) pl l) else none) = _
          rw [hrow, hwid]
        have can : canD wd tn pl l = true := by
          cases c : canD wd tn pl l with
          | true => rfl
          | false => rw [st5, c] at hstep; cases hstep
        rw [st5, if_pos can] at hstep
        have et2 : behindD tn ps wd pl l = t2 := Option.some.inj hstep
        have me := hm e em
        have ed' : e.2.2 = kindD wd ps := ed
        rw [ed'] at me
        have kok := kok_of me
        have i6 : i < 6 := by
          have := (List.getElem?_eq_some_iff.mp hdi).1
          omega
        obtain ⟨hh, ehh⟩ : ∃ h : Int, hdd = .int h := by
          cases hdd <;> first | exact ⟨_, rfl⟩ | (simp [isIntD] at ihd)
        subst ehh
        have g : GC K T.cKinds.c H5 p M vn y1 tn e pl l (.int hh) hv wd ps := ⟨hk5, htn5, by omega, em, ed', hch, hhv, hy, ic, can⟩
        refine iteT ⟨_, rfl, _, rfl, _, rfl, p, vn, y1, M, tn, e, pl, l, hv, wd, ps, rfl, hk5, htn5, em, ed, hch, _, rfl, ?_⟩
        rw [can]
        refine iteF ?_
        have canp := can
        unfold canD at canp
        simp only [Bool.and_eq_true] at canp
        have p0 := of_decide_eq_true canp.1
        have p1 := of_decide_eq_true canp.2.1
        refine ⟨_, rfl, .inl ⟨rfl, _, SqL.of hvs5⟩, _, rfl, _, rfl, _, rfl, p, M, vn, y1, tn, e, pl, l, .int hh, hv, wd, ps, rfl, g, hz5, hm, fun v' H6 s6 hv' => ?_⟩
        have hvs6 := s6 _ _ hvs5
        have cb := cb_form (t := tn) (d := e.2.2) (pl := pl) (wd := wd) (ps := ps) (h := hh) hm
        refine ⟨st, vs, _, rfl, rfl, hvs6, by rw [all_len hab]; exact small1000 (by omega), ?_⟩
        have sU : Same H2 (upd H6 st (.lst (vs ++ [v']))) := same_upd (s25.trans s6) hst
        have s0U := s02.trans sU
        have htU : TextAt K (upd H6 st (.lst (vs ++ [v']))) vn tn := TextAt.updL hvs6 (htn5.same s6)
        have hchU : ChangeAt K (upd H6 st (.lst (vs ++ [v']))) y1 e.1 pl l hv := by
          have := all_at (dpAll_same sU ha2) i y1 e1
          obtain ⟨d3, hd3, hy3⟩ := this
          have h2 := hch.same s6
          obtain ⟨ca, x, rfl, hca, hx⟩ := h2.here
          refine ⟨ca, x, rfl, ?_, hx⟩
          have ne : ∀ {u : HO}, H6 ca = some u → (∀ l, u ≠ .lst l) → ca ≠ st := fun {u} e h' z => by
            rw [z, hvs6] at e
            exact h' _ (Option.some.inj e).symm
          rcases hca with (hc | ⟨o, hc⟩) | hc
          · exact .inl (.inl (by rw [upd_ne (ne hc fun l z => nomatch z)]; exact hc))
          · exact .inl (.inr ⟨o, by rw [upd_ne (ne hc fun l z => nomatch z)]; exact hc⟩)
          · exact .inr hc
        have habU : DpAll K (upd H6 st (.lst (vs ++ [v']))) (vs ++ [v']) (bs ++ [cbD M tn e.2.2 pl wd ps (.int hh)]) :=
          dpAll_at hvs6 (dpAll_snoc hv' (dpAll_same (s5.trans s6) hab)) (flat_snoc cb.flat (flat_chs hcb))
        generalize hHU : upd H6 st (.lst (vs ++ [v'])) = HU at sU s0U htU hchU habU ⊢
        have hstU : HU st = some (.lst (vs ++ [v'])) := by rw [← hHU, upd_same]
        have bl := behind_len2 (t := tn) (ps := ps) (l := l) p0 w0
        have few := kok.few
        refine ⟨_, rfl, _, rfl, _, rfl, p, vn, y1, M, tn, e, pl, l, hv, wd, ps, rfl, hk.same s0U, htU, em, ed, hchU, by omega, p0, p1, hnl, fun b H7 s7 ht7 => ?_⟩
        refine ⟨⟨.ref b, _, _, _, rfl, ht7, by omega, by rw [et2]; exact hrun2, vs ++ [v'], bs ++ [cbD M tn e.2.2 pl wd ps (.int hh)], s7 _ _ hstU, dpAll_same s7 habU, fun c hc => (List.mem_append.mp hc).elim (hcb c) fun z => by rw [List.mem_singleton.mp z]; exact cb, by rw [List.length_append]; simp; omega, ?_⟩, sU.trans s7⟩
        rw [hbk, List.append_assoc]
        congr 1
        show cbD M tn (entD M e.1) pl (widthD M e.1) (rowD M e.1) (.int hh) :: backsZ M (behindD tn (rowD M e.1) (widthD M e.1) pl l) _ = _
        rw [hrow, hwid, hent]
        rfl
    case after =>
      rintro σ H4 ⟨⟨vn, x4, x5, tn, rfl, htn, hln, hrun, vs, bs, hvs, hab, hcb, hlb, hbk⟩, s4⟩
      have eb : backsZ M t ds = bs := by
        rw [hbk, hlx, List.drop_length]
        exact List.append_nil _
      have sh : SeqAt.shaped (.list bs) = true := shaped_all fun d hd => (hcb d hd).shape
      have s04 := s02.trans s4
      refine ⟨_, rfl, .none, bs, .non, .lst (SqL.of hvs) hab, by decide +kernel, sh, _, rfl, ?_⟩
      rw [any_same fun d hd => (hcb d hd).isNone]
      unfold lbD at q
      rw [eb] at q
      refine ite2 (fun c => ?_) (fun c => ?_)
      · rw [if_pos c] at q
        exact q _ _ s04 .non
      · rw [if_neg c] at q
        refine ⟨_, rfl, st, vs, rfl, SqL.of hvs, fun rp hrp => ?_⟩
        have s5 := same_upd (o := .lst vs.reverse) (Same.refl H4) hrp
        exact q _ _ (s04.trans s5) (.lst (SqL.of upd_same) (dpAll_rev (dpAll_same s5 hab)))
end
end K41

end

section
set_option Elab.async false
set_option linter.all false
set_option maxRecDepth 100000
set_option maxHeartbeats 4000000
/-! The law's own doing, and its kinds that lead back. -/
namespace K41
open PySem PySem.Spec PyProof.Rows L2 KX
theorem catA_of {K : PySem.W.Frag} {H : Hp} {a b : Addr} {xs ys : List V} {Q : VK} (ha : SqT K H a xs) (hb : SqT K H b ys) (sm : xs.length + ys.length ≤ sizeLine) (q : ∀ c H', Same H H' → SqT K H' c (xs ++ ys) → Q (.ref c) H') : rCatA K (.ref a) (.ref b) H Q := by
  refine ⟨a, b, xs, ys, rfl, rfl, ha, hb, sm, fun e => ?_, fun _ e => ?_, fun _ _ p hp => ?_⟩
  · refine q b H (Same.refl H) ?_
    rw [e]
    exact hb
  · refine q a H (Same.refl H) ?_
    rw [e, List.append_nil]
    exact ha
  · exact q p _ (same_upd (Same.refl H) hp) (SqT.of upd_same)
section
variable {P : Program} {w : World} {K : PySem.W.Frag} {mg : Str → Option Value} {base : Heap}
def spBh (K : PySem.W.Frag) : Sp := fun vs H Q _ => ∃ a L v vc t e pl l h wd ps, vs = [.ref a, v, vc] ∧ Told K H a L ∧ TextAt K H v t ∧ t.length ≤ 700 ∧ e ∈ L ∧ e.2.2 = .tuple [.int wd, .tuple ps] ∧ ps.all (isPartD wd) = true ∧ ps.length ≤ 100 ∧ 0 ≤ wd ∧ ChangeAt K H vc e.1 pl l h ∧
  (hasNewD ps = true → isIntD l = true) ∧ if canD wd t pl l = true then ∀ b H', Same H H' → TextAt K H' (.ref b) (behindD t ps wd pl l) → Q (.ref b) H' else Q .non H
theorem ok__law_behind (T : Top K mg) : FnOk P w K mg base (L2.CX P w) 1 T._law_behind.a T._law_behind.d ["told", "text", "change"] (spBh K) := by
  refine T._law_behind.f.okX sc__law_behind (fun vs H Q E h => ?_) (fun cdv A outer s H vs Q E hr h => ?_)
  · obtain ⟨a, L, v, vc, _, _, _, _, _, _, _, rfl, _⟩ := h
    rfl
  · obtain ⟨a, L, v, vc, t, e, pl, l, h, wd, ps, rfl, hL, ⟨b, rfl, hb⟩, sm, em, ed, hps, psl, hw0, ⟨a', x, rfl, hc, hx⟩, hn, q⟩ := h
    refine ⟨_, (pss_cons ((ps_if (PW.pt (pw_or (pt_cmpR (op_isN) (pv 1) (pe_non) (nomark _)) (pw_or1 (pt_cmpR (op_isN) (pv 2) (pe_non) (nomark _))))) ((pss_one ((ps_ret (pv 1))))) (pss_nil))) (pss_cons ((ps_asg (pv 2) (pg_tup rfl (pgs_cons (pg_name (i := 3) sc__law_behind.nd rfl (Or.inl rfl)) (pgs_cons (pg_name (i := 4) sc__law_behind.nd rfl (Or.inr rfl)) (pgs_cons (pg_name (i := 5) sc__law_behind.nd rfl (Or.inr rfl)) (pgs_cons (pg_name (i := 6) sc__law_behind.nd rfl (Or.inl rfl)) pgs_nil))))))) (pss_cons ((ps_asg ((pe_dget (hu_of hr) (pv 0) (pv 3) (fun _ _ => rfl))) (pg_tup rfl (pgs_cons (pg_name (i := 7) sc__law_behind.nd rfl (Or.inl rfl)) (pgs_cons (pg_name (i := 8) sc__law_behind.nd rfl (Or.inl rfl)) pgs_nil))))) (pss_cons ((ps_if (PW.pt (pw_or (pt_cmpR (op_lt) (pv 4) (pe_int) (nomark _)) (pw_or (pt_cmpR (op_gt) ((pe_op (op_add) (pv 4) (pv 7))) ((pe_callB call_len_seq (by rfl) T.bf.len_ PySem.boot_len (pa_cons (pv 1) pa_nil))) (nomark _)) (pw_or1 (PW.pt (pw_and (pt_cmpR (op_notN) (pv 5) (pe_non) (nomark _)) (pw_and1 (pt_cmpR (op_in_seq) (pv 5) (pv 1) (by rfl))))))))) ((pss_one ((ps_ret (pe_non))))) (pss_nil))) (pss_cons ((ps_setLc (i := 9) (own := [("part", 10)]) (g := gName 10) (tt := tYes) (by rfl) sc__law_behind.nd rfl rfl (sw_true rfl rfl rfl (by decide +kernel)) (pi_tup (pv 8)) (blkOk_by (N := n__law_behind) (sc := defScope s__law_behind) (by decide +kernel)) (fun _ _ _ _ _ => pg_name (i := 10) sc__law_behind.nd rfl (Or.inl rfl)) (fun _ _ _ _ _ => pts_nil) (fun _ _ _ _ _ => pe_ifExp (pt_cmpR (op_eq) (pv 10) (pe_str) (nomark _)) (pv 5) (pe_ix ((show IxR _ (rIxT K) from ix_tup)) (pv 1) ((pe_op (op_add) (pv 4) (pv 10))) (fun _ _ => rfl))))) (pss_one ((ps_ret ((pe_op (op_catA) ((pe_op (op_catA) (pe_slice sl_tupA (pv 1) po_none (po_some (pv 4))) ((pe_callTy (call_tuple_of) (by rfl) T.bf.tuple_ (by decide +kernel) (pa_cons (pv 9) pa_nil))))) (pe_slice sl_tupA (pv 1) (po_some (pe_op (op_add) (pv 4) (pv 7))) po_none))))))))))), ?_⟩
    have dp := hL.ok.dp e em
    rw [ed] at dp
    obtain ⟨ka, kb, xs, rx, h1, h2, h3⟩ := kind_val dp
    have hl := all_len h3
    have hg := hL.get em
    rw [rx] at hg
    refine ⟨_, rfl, rfl, _, rfl, _, rfl, rfl, _, rfl, iteF ?_⟩
    refine ⟨_, rfl, a', _, rfl, hc, rfl, _, _, rfl, _, _, rfl, _, _, rfl, _, _, rfl, rfl, ?_⟩
    refine ⟨_, rfl, _, rfl, a, _, rfl, hg, ka, _, rfl, h1, rfl, _, _, rfl, _, _, rfl, rfl, ?_⟩
    have hltn : (t.map V.int).length = t.length := List.length_map _
    have fin : canD wd t pl l = (decide (0 ≤ pl) && (decide (pl ≤ (t.length : Int) - wd) && !memD l t)) := rfl
    have no : canD wd t pl l = false → Q .non H := fun z => by
      rw [z, if_neg (by simp)] at q
      exact q
    refine ⟨_, rfl, _, _, rfl, rfl, _, rfl, ?_⟩
    refine ite2 (fun c1 => ?_) (fun c1 => ?_)
    · have c1 : pl < 0 := of_decide_eq_true c1
      exact no (by rw [fin, decide_eq_false (by omega)]; rfl)
    have p0 : 0 ≤ pl := by
      have c1 : ¬ pl < 0 := fun z => c1 (decide_eq_true z)
      omega
    refine ⟨_, rfl, _, rfl, _, _, rfl, rfl, _, rfl, b, _, rfl, .inr hb, _, _, rfl, rfl, _, rfl, ?_⟩
    rw [hltn]
    refine ite2 (fun c2 => ?_) (fun c2 => ?_)
    · have c2 : pl + wd > (t.length : Int) := of_decide_eq_true c2
      exact no (by rw [fin, decide_eq_false (by omega : ¬ pl ≤ (t.length : Int) - wd)]; simp)
    have p1 : pl ≤ (t.length : Int) - wd := by
      have c2 : ¬ pl + wd > (t.length : Int) := fun z => c2 (decide_eq_true z)
      omega
    have hln : hasNewD ps = true → ∃ n, x = .int n ∧ l = .int n := fun z => by
      rcases hx with ⟨_, rfl⟩ | hx
      · exact absurd (hn z) (by simp [isIntD])
      · exact hx
    have rest : memD l t = false → True := fun _ => trivial
    have hcan : memD l t = false → ∀ c H', Same H H' → TextAt K H' (.ref c) (behindD t ps wd pl l) → Q (.ref c) H' := fun z => by
      rw [fin, decide_eq_true p0, decide_eq_true p1, z, if_pos (by rfl)] at q
      exact q
    have hnot : memD l t = true → Q .non H := fun z => no (by rw [fin, z]; simp)
    clear q no fin
    obtain ⟨pn, rfl⟩ := Int.eq_ofNat_of_zero_le p0
    obtain ⟨wn, rfl⟩ := Int.eq_ofNat_of_zero_le hw0
    rcases hx with ⟨rfl, rfl⟩ | ⟨ln, rfl, rfl⟩
    · refine ⟨_, rfl, rfl, _, rfl, iteF ?_⟩
      have q := hcan rfl
      (
        refine ⟨_, rfl, kb, rfl, ⟨_, h2⟩, fun D2 hD2 => ?_⟩
        refine lc_mapT (xs := xs) (i := 10) (putV t (pn : Nat) V.non) (Same.refl H) h2 hD2 (by omega) (fun _ => rfl) (fun y hy H2 s2 Q1 q1 => ?_) fun H1 s1 hD3 => ?_
        · obtain ⟨dy, hdm, hdy⟩ := all_get h3 y hy
          have hpart := List.all_eq_true.mp hps dy hdm
          cases hdy with
          | str z =>
            refine ⟨_, rfl, rfl, _, rfl, ?_⟩
            have en : z = "new" := of_decide_eq_true hpart
            subst en
            exact iteT ⟨_, rfl, q1 H2 (Same.refl H2)⟩
          | int k =>
            have hk2 : 0 ≤ k ∧ k < (wn : Int) := by
              have hpart : (decide (0 ≤ k) && decide (k < (wn : Int))) = true := hpart
              simpa using hpart
            obtain ⟨kn, rfl⟩ := Int.eq_ofNat_of_zero_le hk2.1
            have hlt : pn + kn < t.length := by omega
            have e1 : ((pn : Int) + (kn : Int)) = ((pn + kn : Nat) : Int) := by omega
            refine ⟨_, rfl, rfl, _, rfl, iteF ?_⟩
            refine ⟨_, rfl, _, rfl, _, rfl, _, _, rfl, rfl, b, _, _, V.int t[pn + kn], rfl, rfl, sqT_same s2 hb, ?_, ?_⟩
            · rw [e1]
              refine atI_nat ?_
              rw [List.getElem?_map, List.getElem?_eq_getElem hlt]
              rfl
            · have := q1 H2 (Same.refl H2)
              show Q1 _ H2
              have e2 : putV t (pn : Nat) V.non (.int (kn : Nat)) = V.int t[pn + kn] := by
                show V.int _ = _
                rw [e1, Int.toNat_natCast, List.getElem?_eq_getElem hlt]
                rfl
              rw [← e2]
              exact this
          | non => simp [isPartD] at hpart
          | bl b => simp [isPartD] at hpart
          | lst a b => simp [isPartD] at hpart
          | tup a b => simp [isPartD] at hpart
        · rw [put_eq (t := t) (pl := (pn : Nat)) h3 hps hln] at hD3
          have e1 : ((pn : Int) + (wn : Int)) = ((pn + wn : Nat) : Int) := by omega
          refine ⟨_, rfl, _, rfl, _, rfl, ?_⟩
          refine slA_of (sqT_same s1 hb) fun b1 H2 s2 hb1 => ?_
          rw [cut_take (by omega)] at hb1
          refine ⟨_, rfl, D2, _, rfl, .inl ⟨SqL.of (s2 _ _ hD3), fun l2 hl2 => ?_⟩⟩
          have s3 : Same H2 (upd H2 l2 (.tup ((ps.map (partVal t (pn : Nat) PyData.none)).map V.int))) := same_upd (Same.refl _) hl2
          have hl2' : (upd H2 l2 (.tup ((ps.map (partVal t (pn : Nat) PyData.none)).map V.int))) l2 = some (.tup ((ps.map (partVal t (pn : Nat) PyData.none)).map V.int)) := upd_same
          generalize upd H2 l2 (.tup ((ps.map (partVal t (pn : Nat) PyData.none)).map V.int)) = H3 at s3 hl2' ⊢
          refine catA_of (sqT_same s3 hb1) (SqT.of hl2') ?_ fun c1 H4 s4 hc1 => ?_
          · rw [List.length_map, List.length_map, List.length_take, List.length_map]
            exact small (by omega)
          · refine ⟨_, rfl, ⟨_, rfl, _, rfl, _, _, rfl, rfl, _, rfl, ?_⟩⟩
            simp only [tNoPart]
            refine slA_of (sqT_same ((s1.trans s2).trans (s3.trans s4)) hb) fun b3 H5 s5 hb3 => ?_
            rw [e1, cut_drop] at hb3
            refine catA_of (sqT_same s5 hc1) hb3 ?_ fun c2 H6 s6 hc2 => ?_
            · rw [List.length_append, List.length_map, List.length_map, List.length_take, List.length_map, List.length_drop, List.length_map]
              exact small (by omega)
            · refine q c2 H6 (((s1.trans s2).trans s3).trans (s4.trans (s5.trans s6))) ⟨c2, rfl, ?_⟩
              unfold behindD
              rw [e1, Int.toNat_natCast, Int.toNat_natCast, List.map_append, List.map_append, List.map_take, List.map_drop, ← List.append_assoc]
              exact hc2
      )
    · have q := hcan
      refine ⟨_, rfl, rfl, _, rfl, iteT ⟨_, rfl, _, rfl, b, _, rfl, .inr hb, rfl, flat_ints t, _, rfl, ?_⟩⟩
      rw [if_neg (by simp), in_text t (.inr ⟨ln, rfl, rfl⟩)]
      refine ite2 (fun c3 => hnot c3) (fun c3 => ?_)
      have q := hcan (by simpa using c3)
      (
        refine ⟨_, rfl, kb, rfl, ⟨_, h2⟩, fun D2 hD2 => ?_⟩
        refine lc_mapT (xs := xs) (i := 10) (putV t (pn : Nat) (V.int ln)) (Same.refl H) h2 hD2 (by omega) (fun _ => rfl) (fun y hy H2 s2 Q1 q1 => ?_) fun H1 s1 hD3 => ?_
        · obtain ⟨dy, hdm, hdy⟩ := all_get h3 y hy
          have hpart := List.all_eq_true.mp hps dy hdm
          cases hdy with
          | str z =>
            refine ⟨_, rfl, rfl, _, rfl, ?_⟩
            have en : z = "new" := of_decide_eq_true hpart
            subst en
            exact iteT ⟨_, rfl, q1 H2 (Same.refl H2)⟩
          | int k =>
            have hk2 : 0 ≤ k ∧ k < (wn : Int) := by
              have hpart : (decide (0 ≤ k) && decide (k < (wn : Int))) = true := hpart
              simpa using hpart
            obtain ⟨kn, rfl⟩ := Int.eq_ofNat_of_zero_le hk2.1
            have hlt : pn + kn < t.length := by omega
            have e1 : ((pn : Int) + (kn : Int)) = ((pn + kn : Nat) : Int) := by omega
            refine ⟨_, rfl, rfl, _, rfl, iteF ?_⟩
            refine ⟨_, rfl, _, rfl, _, rfl, _, _, rfl, rfl, b, _, _, V.int t[pn + kn], rfl, rfl, sqT_same s2 hb, ?_, ?_⟩
            · rw [e1]
              refine atI_nat ?_
              rw [List.getElem?_map, List.getElem?_eq_getElem hlt]
              rfl
            · have := q1 H2 (Same.refl H2)
              show Q1 _ H2
              have e2 : putV t (pn : Nat) (V.int ln) (.int (kn : Nat)) = V.int t[pn + kn] := by
                show V.int _ = _
                rw [e1, Int.toNat_natCast, List.getElem?_eq_getElem hlt]
                rfl
              rw [← e2]
              exact this
          | non => simp [isPartD] at hpart
          | bl b => simp [isPartD] at hpart
          | lst a b => simp [isPartD] at hpart
          | tup a b => simp [isPartD] at hpart
        · rw [put_eq (t := t) (pl := (pn : Nat)) h3 hps hln] at hD3
          have e1 : ((pn : Int) + (wn : Int)) = ((pn + wn : Nat) : Int) := by omega
          refine ⟨_, rfl, _, rfl, _, rfl, ?_⟩
          refine slA_of (sqT_same s1 hb) fun b1 H2 s2 hb1 => ?_
          rw [cut_take (by omega)] at hb1
          refine ⟨_, rfl, D2, _, rfl, .inl ⟨SqL.of (s2 _ _ hD3), fun l2 hl2 => ?_⟩⟩
          have s3 : Same H2 (upd H2 l2 (.tup ((ps.map (partVal t (pn : Nat) (PyData.int ln))).map V.int))) := same_upd (Same.refl _) hl2
          have hl2' : (upd H2 l2 (.tup ((ps.map (partVal t (pn : Nat) (PyData.int ln))).map V.int))) l2 = some (.tup ((ps.map (partVal t (pn : Nat) (PyData.int ln))).map V.int)) := upd_same
          generalize upd H2 l2 (.tup ((ps.map (partVal t (pn : Nat) (PyData.int ln))).map V.int)) = H3 at s3 hl2' ⊢
          refine catA_of (sqT_same s3 hb1) (SqT.of hl2') ?_ fun c1 H4 s4 hc1 => ?_
          · rw [List.length_map, List.length_map, List.length_take, List.length_map]
            exact small (by omega)
          · refine ⟨_, rfl, ⟨_, rfl, _, rfl, _, _, rfl, rfl, _, rfl, ?_⟩⟩
            simp only [tNoPart]
            refine slA_of (sqT_same ((s1.trans s2).trans (s3.trans s4)) hb) fun b3 H5 s5 hb3 => ?_
            rw [e1, cut_drop] at hb3
            refine catA_of (sqT_same s5 hc1) hb3 ?_ fun c2 H6 s6 hc2 => ?_
            · rw [List.length_append, List.length_map, List.length_map, List.length_take, List.length_map, List.length_drop, List.length_map]
              exact small (by omega)
            · refine q c2 H6 (((s1.trans s2).trans s3).trans (s4.trans (s5.trans s6))) ⟨c2, rfl, ?_⟩
              unfold behindD
              rw [e1, Int.toNat_natCast, Int.toNat_natCast, List.map_append, List.map_append, List.map_take, List.map_drop, ← List.append_assoc]
              exact hc2
      )
end
end K41

end

section
set_option Elab.async false
set_option linter.all false
set_option maxRecDepth 100000
set_option maxHeartbeats 4000000
/-! The law's kinds that lead back. -/
namespace K41
open PySem PySem.Spec PyProof.Rows L2 KX
def lawBack (w : Int) (ps : List PyData) : PyData := if (decide (1 < (backRow w ps).countP newD) || decide (2 < ps.length)) = true then .none else kindD (ps.length : Nat) (backRow w ps)
theorem new_eqV {K : PySem.W.Frag} {H : Hp} {v : V} {ps : List PyData} {i : Nat} (h : Dp K H v (backPart ps i)) : eqV v (.str "new") = newD (backPart ps i) ∧ flatV v = true := by
  unfold backPart at h ⊢
  cases e : posD ps (i : Nat) with
  | none =>
    rw [e] at h
    cases h
    exact ⟨str_new "new", rfl⟩
  | some j =>
    rw [e] at h
    cases h
    exact ⟨rfl, rfl⟩
theorem new_count {K : PySem.W.Frag} {H : Hp} {ps : List PyData} : ∀ {l : List Nat} {vs : List V}, DpAll K H vs (l.map (backPart ps)) → vs.countP (fun z => eqV z (.str "new")) = (l.map (backPart ps)).countP newD ∧ vs.all flatV = true
  | [], _, .nil => ⟨rfl, rfl⟩
  | i :: l, _, .cons h t => by
    obtain ⟨i1, i2⟩ := new_count t
    obtain ⟨h1, h2⟩ := new_eqV h
    rw [List.countP_cons, i1, h1, List.map_cons, List.countP_cons]
    exact ⟨rfl, by rw [List.all_cons, h2, i2]; rfl⟩
section
variable {P : Program} {w : World} {K : PySem.W.Frag} {mg : Str → Option Value} {base : Heap}
def spLawBack (K : PySem.W.Frag) : Sp := fun vs H Q _ => ∃ v z wd ps, vs = [v] ∧ Dp K H v (kindD wd ps) ∧ (z, kindD wd ps) ∈ menu ∧ ∀ v' H', Same H H' → Dp K H' v' (lawBack wd ps) → Q v' H'
theorem ok__law_back (T : Top K mg) : FnOk P w K mg base (L2.CX P w) 1 T._law_back.a T._law_back.d ["kind"] (spLawBack K) := by
  refine T._law_back.f.okX sc__law_back (fun vs H Q E h => ?_) (fun cdv A outer s H vs Q E hr h => ?_)
  · obtain ⟨v, z, wd, ps, rfl, _⟩ := h
    rfl
  · obtain ⟨v, z, wd, ps, rfl, hv, hm, q⟩ := h
    obtain ⟨w0, w2, row, parts, few⟩ := kok_of hm
    obtain ⟨a, b, xs, rfl, ha, hb, hx⟩ := kind_val hv
    refine ⟨_, (pss_cons ((ps_asg (pv 0) (pg_tup rfl (pgs_cons (pg_name (i := 1) sc__law_back.nd rfl (Or.inl rfl)) (pgs_cons (pg_name (i := 2) sc__law_back.nd rfl (Or.inr rfl)) pgs_nil))))) (pss_cons ((ps_set (i := 3) sc__law_back.nd rfl (Or.inl rfl) ((pe_callTy (call_tupleZ) (by rfl) T.bf.tuple_ (by decide +kernel) (pa_cons ((pe_lc (own := [("part", 4)]) (g := gName 4) (tt := tYes) rfl sc__law_back.nd (pi_range1 (by rfl) T.bf.range_ (pa_cons (pv 1) pa_nil)) (blkOk_by (N := n__law_back) (sc := defScope s__law_back) (by decide +kernel)) (fun _ _ _ _ _ => pg_name (i := 4) sc__law_back.nd rfl (Or.inl rfl)) (fun _ _ _ _ _ => pts_nil) (fun _ _ _ _ _ => pe_ifExp (pt_cmpR (show OpR _ (compareOp .In) (rIn K false) from op_in_seq) (pv 4) (pv 2) (by rfl)) (show PE _ _ (tBM K "list" (rIndex K) (tCB (fun xs H Q => ∃ p ys, xs = [.ref p] ∧ (SqL K H p ys ∨ SqT K H p ys) ∧ ∀ l, H l = none → Q (.ref l) (upd H l (.lst ys))) (tCons (tVar 2) tNil)) (tCons (tVar 4) tNil)) from pe_bm PySem.F.plainAttrs_list PySem.F.slot_list_index PySem.F.type_list_index (show MtR _ "list.index" (rIndex K) from mt_index) (pe_callTy ((show CallR _ (.type "list") (fun xs H Q => ∃ p ys, xs = [.ref p] ∧ (SqL K H p ys ∨ SqT K H p ys) ∧ ∀ l, H l = none → Q (.ref l) (upd H l (.lst ys))) from call_list_of)) (by rfl) T.bf.list_ (by decide +kernel) (pa_cons (pv 2) pa_nil)) (pa_cons (pv 4) pa_nil)) pe_str))) pa_nil))))) (pss_one ((ps_ret (pe_ifExp (PW.pt (pw_or (pt_cmpR (op_gt) ((pe_bmT PySem.F.slot_tuple_count PySem.F.type_tuple_count mt_tcount (pv 3) (pa_cons pe_str pa_nil))) (pe_int) (nomark _)) (pw_or1 (pt_cmpR (op_gt) ((pe_callB call_len_seq (by rfl) T.bf.len_ PySem.boot_len (pa_cons (pv 2) pa_nil))) (pe_int) (nomark _))))) pe_non (pe_tup (pa_cons ((pe_callB call_len_seq (by rfl) T.bf.len_ PySem.boot_len (pa_cons (pv 2) pa_nil))) (pa_cons (pv 3) pa_nil))))))))), ?_⟩
    have lx := all_len hx
    refine ⟨_, rfl, a, _, rfl, ha, rfl, _, _, rfl, _, _, rfl, rfl, ?_⟩
    refine ⟨_, rfl, _, rfl, by omega, by omega, fun D hD => ?_⟩
    refine lc_rel (i := 4) (K := K) (walk_range (lo := 0) (n := wd.toNat)) (fun j d => d = backPart ps j) (fun _ _ => trivial) hD (by omega) (fun _ => rfl) ?elt ?done
    case elt =>
      rintro j x H1 H1' hj s1 ⟨rfl, rfl⟩
      refine ⟨Same.refl _, fun Q1 q1 => ?_⟩
      have hb1 := sqT_same s1 hb
      have hx1 := dpAll_same s1 hx
      have e0 : (0 : Int) + (j : Nat) = (j : Nat) := by omega
      simp only [e0]
      refine ⟨_, rfl, _, rfl, b, xs, rfl, .inr hb1, rfl, parts_flat hx1 parts, _, rfl, ?_⟩
      rw [if_neg (by decide), parts_any _ hx1 parts]
      refine ite2 (fun c => ?_) (fun c => ?_)
      · obtain ⟨k, e1, d, hd, hi, hno⟩ := pos_some c
        obtain ⟨y, hy, hdy⟩ := all_ix hx1 k d hd
        have pd := List.all_eq_true.mp parts d (List.mem_of_getElem? hd)
        refine ⟨_, rfl, b, xs, rfl, .inr hb1, fun l hl => ⟨.inl ⟨rfl, xs, SqL.of upd_same⟩, ?_⟩⟩
        have s2 := same_upd (o := .lst xs) (Same.refl H1') hl
        refine ⟨_, rfl, l, xs, _, k, y, rfl, rfl, SqL.of upd_same, rfl, parts_flat hx1 parts, hy, by rw [(part_eqV hdy pd _).1]; exact hi, fun m z' hm hz' => ?_, q1 _ (.int (k : Nat)) _ s2 (.int _) ?_ rfl⟩
        · obtain ⟨d', hd', hz⟩ := all_at hx1 m z' hz'
          rw [(part_eqV hz (List.all_eq_true.mp parts d' (List.mem_of_getElem? hd')) _).1]
          exact hno m d' hm hd'
        · unfold backPart
          rw [e1]
      · have c : ps.any (isI (j : Nat)) = false := by simpa using c
        refine q1 _ (.str "new") _ (Same.refl _) (.str _) ?_ rfl
        unfold backPart
        rw [pos_none c]
    case done =>
      intro H1 vs1 ds1 s1 hD1 ha1 hl1 hr1
      have ed : ds1 = backRow wd ps := by
        unfold backRow
        refine List.ext_getElem? fun j => ?_
        by_cases hj : j < wd.toNat
        · have e1 : ds1[j]? = some (ds1[j]'(by omega)) := List.getElem?_eq_getElem (by omega)
          have e2 := hr1 j _ e1
          rw [e1, e2, List.getElem?_map, List.getElem?_range hj]
          rfl
        · rw [List.getElem?_eq_none (by omega), List.getElem?_eq_none (by rw [List.length_map, List.length_range]; omega)]
      subst ed
      refine ⟨D, vs1, rfl, SqL.of hD1, fun l o hl ho => ?_⟩
      have s2 : Same H1 (upd H1 l (.frz o (.tup vs1))) := same_upd (Same.refl H1) hl
      have z2 : TupZ (upd H1 l (.frz o (.tup vs1))) l vs1 := TupZ.new ho
      generalize upd H1 l (.frz o (.tup vs1)) = H2 at s2 z2 ⊢
      have ha2 := dpAll_same s2 ha1
      obtain ⟨cnt, flt⟩ := new_count (l := List.range wd.toNat) ha2
      have s02 := s1.trans s2
      have hb2 := sqT_same s02 hb
      unfold lawBack at q
      refine ⟨_, rfl, ⟨l, vs1, rfl, z2⟩, l, vs1, _, rfl, rfl, z2.sq, rfl, flt, _, _, rfl, rfl, _, rfl, ?_⟩
      rw [cnt]
      have fold : (List.map (backPart ps) (List.range wd.toNat)) = backRow wd ps := rfl
      rw [fold]
      refine ite2 (fun c => ?_) (fun c => ?_)
      · have c : 1 < (backRow wd ps).countP newD := by
          have := of_decide_eq_true c
          omega
        rw [if_pos (by rw [decide_eq_true c]; rfl)] at q
        exact iteT (q _ _ s02 .non)
      · have c : ¬ 1 < (backRow wd ps).countP newD := fun z => c (decide_eq_true (by omega))
        rw [decide_eq_false c, Bool.false_or] at q
        refine ⟨_, rfl, b, xs, rfl, .inr hb2, _, _, rfl, rfl, _, rfl, ?_⟩
        rw [lx]
        refine ite2 (fun c2 => ?_) (fun c2 => ?_)
        · have c2 : 2 < ps.length := by
            have := of_decide_eq_true c2
            omega
          rw [if_pos (decide_eq_true c2)] at q
          exact q _ _ s02 .non
        · have c2 : ¬ 2 < ps.length := fun z => c2 (decide_eq_true (by omega))
          rw [if_neg (by rw [decide_eq_false c2]; decide)] at q
          refine ⟨_, rfl, b, xs, rfl, .inr hb2, _, rfl, by show 2 ≤ sizeLine; decide, fun p hp => ?_⟩
          have s3 := same_upd (o := .tup [.int (xs.length : Nat), .ref l]) (Same.refl H2) hp
          rw [lx] at s3 ⊢
          exact q _ _ (s02.trans s3) (.tup (SqT.of upd_same) (.cons (.int _) (.cons (.tup (z2.same s3).sq (dpAll_same s3 ha2)) .nil)))
end
end K41

end

section
set_option Elab.async false
set_option linter.all false
set_option maxRecDepth 100000
set_option maxHeartbeats 4000000
/-! The mathematics of changes that lead back, and of texts that are turned. -/
namespace K41
open PySem PySem.Spec PyProof.Rows L2 KX
theorem eqv_one {d : PyData} (h : SeqAt.shaped d = true) : PyData.eqv d d = true := SeqAt.eqv_refl d (SeqAt.canLay_of_shaped h)
theorem badP_ok : ∀ (l : List (Str × PyData)) (seen : List PyData), (∀ e ∈ l, isKindD e.2 = true) → (∀ z ∈ seen, ∀ e ∈ l, PyData.eqv z e.2 = false) → l.Pairwise (fun a b => PyData.eqv a.2 b.2 = false) → badP seen l = false
  | [], _, _, _, _ => rfl
  | e :: r, seen, h1, h2, h3 => by
    have hs : (seen.any fun z => PyData.eqv z e.2) = false := List.any_eq_false.mpr fun z hz => by
      rw [h2 z hz e List.mem_cons_self]
      simp
    obtain ⟨p1, p2⟩ := List.pairwise_cons.mp h3
    show (if (isKindD e.2 && !(seen.any fun z => PyData.eqv z e.2)) = true then badP (seen ++ [e.2]) r else true) = false
    rw [h1 e List.mem_cons_self, hs]
    show badP (seen ++ [e.2]) r = false
    refine badP_ok r _ (fun x hx => h1 x (List.mem_cons_of_mem _ hx)) (fun z hz x hx => ?_) p2
    rcases List.mem_append.mp hz with hz | hz
    · exact h2 z hz x (List.mem_cons_of_mem _ hx)
    · rw [List.mem_singleton.mp hz]
      exact p1 x hx
theorem menu_ne : (menu.all fun a => menu.all fun b => (a.1 == b.1) || !(PyData.eqv a.2 b.2)) = true := by decide +kernel
theorem turn_ne : (menu.all fun a => menu.all fun b => (a.1 == b.1) || !(PyData.eqv (turnK a.2) (turnK b.2))) = true := by decide +kernel
theorem turn_ok : (menu.all fun m => SeqAt.shaped (.list [turnK m.2]) && (smallB (turnK m.2) && (isKindD (turnK m.2)))) = true := by decide +kernel
theorem turn_two {z : Str} {d : PyData} (h : (z, d) ∈ menu) : turnK (turnK d) = d := by
  simp only [menu, menuK, List.map_cons, List.map_nil, List.mem_cons, List.not_mem_nil, or_false, Prod.mk.injEq] at h
  rcases h with ⟨_, rfl⟩ | ⟨_, rfl⟩ | ⟨_, rfl⟩ | ⟨_, rfl⟩ | ⟨_, rfl⟩ | ⟨_, rfl⟩ | ⟨_, rfl⟩ | ⟨_, rfl⟩ <;> rfl
theorem ne_of_all {f : PyData → PyData} (h : (menu.all fun a => menu.all fun b => (a.1 == b.1) || !(PyData.eqv (f a.2) (f b.2))) = true) {a b : Str × PyData} (ha : a ∈ menu) (hb : b ∈ menu) (ne : a.1 ≠ b.1) : PyData.eqv (f a.2) (f b.2) = false := by
  have := List.all_eq_true.mp (List.all_eq_true.mp h a ha) b hb
  rw [Bool.or_eq_true] at this
  rcases this with e | e
  · exact absurd (beq_iff_eq.mp e) ne
  · simpa using e
structure Drawn (L : List Ent) : Prop where
  om : OfMenu L
  so : sortedS (L.map (·.1)) = true
  nd : (L.map (·.1)).Nodup
  pos : 0 < L.length
  few : L.length ≤ 4
theorem mem_pairs {L : List Ent} (om : OfMenu L) {m : Str × PyData} (h : m ∈ pairsE L) : m ∈ menu := by
  obtain ⟨e, he, rfl⟩ := List.mem_map.mp h
  exact om e he
theorem nd_pairs {L : List Ent} (nd : (L.map (·.1)).Nodup) : (pairsE L).Pairwise fun a b => a.1 ≠ b.1 := by
  have : ((pairsE L).map (·.1)).Nodup := by rw [fst_pairs]; exact nd
  exact List.pairwise_map.mp this
theorem Drawn.good {L : List Ent} (d : Drawn L) : GoodL (pairsE L) where
  so := by rw [fst_pairs]; exact d.so
  nd := by rw [fst_pairs]; exact d.nd
  pos := by rw [len_pairs]; exact d.pos
  few := by rw [len_pairs]; exact d.few
  nm m h := (menu_of (mem_pairs d.om h)).nm
  sh m h := (menu_of (mem_pairs d.om h)).sh
  sm m h := (menu_of (mem_pairs d.om h)).sm
  kd m h := (menu_of (mem_pairs d.om h)).kd
  bad := badP_ok _ [] (fun m h => (menu_of (mem_pairs d.om h)).kd) (fun z hz => by cases hz) ((nd_pairs d.nd).imp_of_mem fun ha hb ne => ne_of_all (f := id) menu_ne (mem_pairs d.om ha) (mem_pairs d.om hb) ne)
theorem fst_turn {l : List (Str × PyData)} : (l.map turnP).map (·.1) = l.map (·.1) := by
  rw [List.map_map]
  rfl
theorem turn_fact {m : Str × PyData} (h : m ∈ menu) : SeqAt.shaped (.list [turnK m.2]) = true ∧ smallD (turnK m.2) ∧ isKindD (turnK m.2) = true := by
  have := List.all_eq_true.mp turn_ok m h
  simp only [Bool.and_eq_true] at this
  exact ⟨this.1, smallB_ok this.2.1, this.2.2⟩
theorem Drawn.turn {L : List Ent} (d : Drawn L) : GoodL ((pairsE L).map turnP) where
  so := by rw [fst_turn, fst_pairs]; exact d.so
  nd := by rw [fst_turn, fst_pairs]; exact d.nd
  pos := by rw [List.length_map, len_pairs]; exact d.pos
  few := by rw [List.length_map, len_pairs]; exact d.few
  nm m h := by
    obtain ⟨x, hx, rfl⟩ := List.mem_map.mp h
    exact (menu_of (mem_pairs d.om hx)).nm
  sh m h := by
    obtain ⟨x, hx, rfl⟩ := List.mem_map.mp h
    exact (turn_fact (mem_pairs d.om hx)).1
  sm m h := by
    obtain ⟨x, hx, rfl⟩ := List.mem_map.mp h
    exact (turn_fact (mem_pairs d.om hx)).2.1
  kd m h := by
    obtain ⟨x, hx, rfl⟩ := List.mem_map.mp h
    exact (turn_fact (mem_pairs d.om hx)).2.2
  bad := badP_ok _ [] (fun m h => by
    obtain ⟨x, hx, rfl⟩ := List.mem_map.mp h
    exact (turn_fact (mem_pairs d.om hx)).2.2) (fun z hz => by cases hz) (List.pairwise_map.mpr ((nd_pairs d.nd).imp_of_mem fun ha hb ne => ne_of_all turn_ne (mem_pairs d.om ha) (mem_pairs d.om hb) ne))
theorem Drawn.turn2 {L : List Ent} (d : Drawn L) : ((pairsE L).map turnP).map turnP = pairsE L := by
  rw [List.map_map]
  refine (List.map_congr_left fun m h => ?_).trans (List.map_id _)
  show (m.1, turnK (turnK m.2)) = m
  rw [turn_two (z := m.1) (mem_pairs d.om h)]
def lawBackD : PyData → PyData
  | .tuple [.int w, .tuple ps] => lawBack w ps
  | d => d
theorem law_back_same : (menu.all fun m => menu.all fun x => PyData.eqv x.2 (lawBackD m.2) == PyData.eqv x.2 (backOf m.2)) = true := by decide +kernel
theorem law_shaped : (menu.all fun m => SeqAt.shaped (lawBackD m.2)) = true := by decide +kernel
theorem back_same {m x : Str × PyData} (hm : m ∈ menu) (hx : x ∈ menu) : PyData.eqv x.2 (lawBackD m.2) = PyData.eqv x.2 (backOf m.2) := by
  have := List.all_eq_true.mp (List.all_eq_true.mp law_back_same m hm) x hx
  exact beq_iff_eq.mp this
theorem find_same {α : Type} {f g : α → Bool} : ∀ {l : List α}, (∀ x ∈ l, f x = g x) → l.find? f = l.find? g
  | [], _ => rfl
  | x :: r, h => by
    have hx := h x List.mem_cons_self
    have ih := find_same fun y m => h y (List.mem_cons_of_mem _ m)
    by_cases c : f x = true
    · rw [List.find?_cons_of_pos c, List.find?_cons_of_pos (by rw [← hx]; exact c)]
    · rw [List.find?_cons_of_neg c, List.find?_cons_of_neg (by rw [← hx]; exact c), ih]
/-! ### windows -/
def pvM (m : List Int) (l : PyData) : PyData → Int
  | .str _ => match l with
    | .int n => n
    | _ => 0
  | .int k => (m[k.toNat]?).getD 0
  | _ => 0
theorem split_of {wd pl : Int} {t : List Int} {l : PyData} (h : canD wd t pl l = true) (w0 : 0 ≤ wd) : ∃ a m b, t = a ++ (m ++ b) ∧ pl = (a.length : Nat) ∧ wd = (m.length : Nat) ∧ memD l t = false := by
  unfold canD at h
  simp only [Bool.and_eq_true] at h
  have p0 := of_decide_eq_true h.1
  have p1 := of_decide_eq_true h.2.1
  refine ⟨t.take pl.toNat, (t.drop pl.toNat).take wd.toNat, (t.drop pl.toNat).drop wd.toNat, by rw [List.take_append_drop, List.take_append_drop], ?_, ?_, by simpa using h.2.2⟩
  · rw [List.length_take]
    omega
  · rw [List.length_take, List.length_drop]
    omega
theorem can_split {a m b : List Int} {l : PyData} : canD (m.length : Nat) (a ++ (m ++ b)) (a.length : Nat) l = !memD l (a ++ (m ++ b)) := by
  unfold canD
  rw [decide_eq_true (by omega : (0 : Int) ≤ (a.length : Nat)), decide_eq_true (by rw [List.length_append, List.length_append]; omega : ((a.length : Nat) : Int) ≤ ((a ++ (m ++ b)).length : Nat) - (m.length : Nat)), Bool.true_and, Bool.true_and]
theorem part_split {a m b : List Int} {l : PyData} {d : PyData} (h : isPartD (m.length : Nat) d = true) : partVal (a ++ (m ++ b)) (a.length : Nat) l d = pvM m l d := by
  cases d with
  | int k =>
    have h : (decide (0 ≤ k) && decide (k < (m.length : Nat))) = true := h
    simp only [Bool.and_eq_true, decide_eq_true_eq] at h
    show ((a ++ (m ++ b))[(((a.length : Nat) : Int) + k).toNat]?).getD 0 = (m[k.toNat]?).getD 0
    have e : (((a.length : Nat) : Int) + k).toNat = a.length + k.toNat := by omega
    rw [e, List.getElem?_append_right (by omega), Nat.add_sub_cancel_left, List.getElem?_append_left (by omega)]
  | str z => rfl
  | none => rfl
  | bool b => rfl
  | list xs => rfl
  | tuple xs => rfl
  | dict xs => rfl
theorem behind_split {a m b : List Int} {l : PyData} {ps : List PyData} (h : ps.all (isPartD (m.length : Nat)) = true) : behindD (a ++ (m ++ b)) ps (m.length : Nat) (a.length : Nat) l = a ++ (ps.map (pvM m l) ++ b) := by
  unfold behindD
  have e : (((a.length : Nat) : Int) + (m.length : Nat)).toNat = a.length + m.length := by omega
  rw [e, Int.toNat_natCast, List.take_left' rfl, ← List.append_assoc a m b, List.drop_left' (by rw [List.length_append])]
  rw [List.append_assoc a m b]
  congr 2
  exact List.map_congr_left fun d hd => part_split (List.all_eq_true.mp h d hd)
theorem mem_int {n : Int} {t : List Int} : memD (.int n) t = decide (n ∈ t) := rfl
theorem nodup_window {a m b m' : List Int} (h : (a ++ (m ++ b)).Nodup) (h' : m'.Nodup) (k : ∀ x ∈ m', x ∈ m ∨ (x ∉ a ∧ x ∉ b)) : (a ++ (m' ++ b)).Nodup := by
  rw [List.nodup_append] at h ⊢
  obtain ⟨h1, h2, h3⟩ := h
  rw [List.nodup_append] at h2 ⊢
  obtain ⟨h4, h5, h6⟩ := h2
  refine ⟨h1, ⟨h', h5, fun x hx y hy e => ?_⟩, fun x hx y hy e => ?_⟩
  · rcases k x hx with z | z
    · exact h6 x z y hy e
    · exact z.2 (e ▸ hy)
  · rcases List.mem_append.mp hy with hy | hy
    · rcases k y hy with z | z
      · exact h3 x hx y (List.mem_append_left _ z) e
      · exact z.1 (e ▸ hx)
    · exact h3 x hx y (List.mem_append_right _ hy) e
end K41

end

section
set_option Elab.async false
set_option linter.all false
set_option maxRecDepth 100000
set_option maxHeartbeats 4000000
/-! One change back; one change turned; changes in a row. -/
namespace K41
open PySem PySem.Spec PyProof.Rows L2 KX
theorem menu_pairs : (menu.all fun m => menu.all fun x => !(PyData.eqv x.2 (backOf m.2)) || [(("cut" : Str), ("put" : Str)), ("put", "cut"), ("set", "set"), ("swap", "swap")].contains (m.1, x.1)) = true := by decide +kernel
theorem at_cut : (("cut" : Str), kindD 1 []) ∈ menu := by simp [menu, menuK]
theorem at_put : (("put" : Str), kindD 0 [.str "new"]) ∈ menu := by simp [menu, menuK]
theorem at_set : (("set" : Str), kindD 1 [.str "new"]) ∈ menu := by simp [menu, menuK]
theorem at_swap : (("swap" : Str), kindD 2 [.int 1, .int 0]) ∈ menu := by simp [menu, menuK]
theorem kind_inj {w w' : Int} {ps ps' : List PyData} (h : kindD w ps = kindD w' ps') : w = w' ∧ ps = ps' := by
  unfold kindD at h
  cases h
  exact ⟨rfl, rfl⟩
/-- letters as a kind needs them -/
def fitL (ps : List PyData) (l : PyData) : Prop := if hasNewD ps = true then ∃ n, l = .int n else l = .none
/-- what leads back, in one of four ways -/
theorem back_ways {z y : Str} {wd w' : Int} {ps ps' : List PyData} (h : (z, kindD wd ps) ∈ menu) (h' : (y, kindD w' ps') ∈ menu) (e : PyData.eqv (kindD w' ps') (backOf (kindD wd ps)) = true) :
    (wd = 1 ∧ ps = [] ∧ w' = 0 ∧ ps' = [.str "new"]) ∨ (wd = 0 ∧ ps = [.str "new"] ∧ w' = 1 ∧ ps' = []) ∨ (wd = 1 ∧ ps = [.str "new"] ∧ w' = 1 ∧ ps' = [.str "new"]) ∨ (wd = 2 ∧ ps = [.int 1, .int 0] ∧ w' = 2 ∧ ps' = [.int 1, .int 0]) := by
  have := List.all_eq_true.mp (List.all_eq_true.mp menu_pairs _ h) _ h'
  rw [e] at this
  have this : [(("cut" : Str), ("put" : Str)), ("put", "cut"), ("set", "set"), ("swap", "swap")].contains (z, y) = true := this
  simp only [List.contains_cons, List.contains_nil, Bool.or_false, Bool.or_eq_true, beq_iff_eq, Prod.mk.injEq] at this
  rcases this with ⟨rfl, rfl⟩ | ⟨rfl, rfl⟩ | ⟨rfl, rfl⟩ | ⟨rfl, rfl⟩
  · obtain ⟨a, b⟩ := kind_inj (menu_fun h at_cut)
    obtain ⟨c, d⟩ := kind_inj (menu_fun h' at_put)
    exact .inl ⟨a, b, c, d⟩
  · obtain ⟨a, b⟩ := kind_inj (menu_fun h at_put)
    obtain ⟨c, d⟩ := kind_inj (menu_fun h' at_cut)
    exact .inr (.inl ⟨a, b, c, d⟩)
  · obtain ⟨a, b⟩ := kind_inj (menu_fun h at_set)
    obtain ⟨c, d⟩ := kind_inj (menu_fun h' at_set)
    exact .inr (.inr (.inl ⟨a, b, c, d⟩))
  · obtain ⟨a, b⟩ := kind_inj (menu_fun h at_swap)
    obtain ⟨c, d⟩ := kind_inj (menu_fun h' at_swap)
    exact .inr (.inr (.inr ⟨a, b, c, d⟩))
theorem len1 {m : List Int} (h : (1 : Int) = (m.length : Nat)) : ∃ y, m = [y] := List.length_eq_one_iff.mp (by omega)
theorem len0 {m : List Int} (h : (0 : Int) = (m.length : Nat)) : m = [] := List.length_eq_zero_iff.mp (by omega)
theorem len2 {m : List Int} (h : (2 : Int) = (m.length : Nat)) : ∃ y z, m = [y, z] := by
  match m, h with
  | [y, z], _ => exact ⟨y, z, rfl⟩
  | [], h => simp at h
  | [_], h => simp at h
  | _ :: _ :: _ :: _, h => simp at h; omega
theorem lost_1 : lostN 1 [] = [0] := by decide +kernel
theorem lost_0 : lostN 0 [.str "new"] = [] := by decide +kernel
theorem lost_s : lostN 1 [.str "new"] = [0] := by decide +kernel
theorem lost_2 : lostN 2 [.int 1, .int 0] = [] := by decide +kernel
/-- done and led back -/
theorem back_can {wd w' pl : Int} {ps ps' : List PyData} {t : List Int} {l : PyData} (nd : t.Nodup) (can : canD wd t pl l = true) (fit : fitL ps l)
    (e : (wd = 1 ∧ ps = [] ∧ w' = 0 ∧ ps' = [.str "new"]) ∨ (wd = 0 ∧ ps = [.str "new"] ∧ w' = 1 ∧ ps' = []) ∨ (wd = 1 ∧ ps = [.str "new"] ∧ w' = 1 ∧ ps' = [.str "new"]) ∨ (wd = 2 ∧ ps = [.int 1, .int 0] ∧ w' = 2 ∧ ps' = [.int 1, .int 0])) :
    canD w' (behindD t ps wd pl l) pl (lostD t pl wd ps) = true ∧ behindD (behindD t ps wd pl l) ps' w' pl (lostD t pl wd ps) = t ∧ fitL ps' (lostD t pl wd ps) := by
  have w0 : 0 ≤ wd := by rcases e with h | h | h | h <;> (rw [h.1]; decide)
  obtain ⟨a, m, b, rfl, rfl, ew, hl⟩ := split_of can w0
  rcases e with ⟨rfl, rfl, rfl, rfl⟩ | ⟨rfl, rfl, rfl, rfl⟩ | ⟨rfl, rfl, rfl, rfl⟩ | ⟨rfl, rfl, rfl, rfl⟩
  · obtain ⟨y, rfl⟩ := len1 ew
    have b1 : behindD (a ++ ([y] ++ b)) [] 1 (a.length : Nat) l = a ++ ([] ++ b) := behind_split (m := [y]) rfl
    have lo : lostD (a ++ ([y] ++ b)) (a.length : Nat) 1 [] = .int y := by
      unfold lostD
      rw [lost_1]
      simp
    rw [b1, lo]
    have c1 : canD 0 (a ++ ([] ++ b)) (a.length : Nat) (.int y) = !memD (.int y) (a ++ ([] ++ b)) := can_split (m := [])
    refine ⟨?_, ?_, ?_⟩
    · rw [c1, mem_int]
      have : y ∉ a ++ ([] ++ b) := by
        intro h
        simp only [List.nil_append, List.mem_append] at h
        rw [List.nodup_append] at nd
        rcases h with h | h
        · exact nd.2.2 y h y (by simp) rfl
        · rw [List.nodup_append] at nd
          exact nd.2.1.2.2 y (by simp) y h rfl
      rw [decide_eq_false this]
      rfl
    · exact behind_split (m := []) rfl
    · exact ⟨y, rfl⟩
  · have em := len0 ew
    subst em
    obtain ⟨n, rfl⟩ : ∃ n, l = .int n := fit
    have b1 : behindD (a ++ ([] ++ b)) [.str "new"] 0 (a.length : Nat) (.int n) = a ++ ([n] ++ b) := behind_split (m := []) rfl
    have lo : lostD (a ++ ([] ++ b)) (a.length : Nat) 0 [.str "new"] = .none := by
      unfold lostD
      rw [lost_0]
    rw [b1, lo]
    have c1 : canD 1 (a ++ ([n] ++ b)) (a.length : Nat) .none = !memD .none (a ++ ([n] ++ b)) := can_split (m := [n])
    exact ⟨c1, behind_split (m := [n]) rfl, rfl⟩
  · obtain ⟨y, rfl⟩ := len1 ew
    obtain ⟨n, rfl⟩ : ∃ n, l = .int n := fit
    have b1 : behindD (a ++ ([y] ++ b)) [.str "new"] 1 (a.length : Nat) (.int n) = a ++ ([n] ++ b) := behind_split (m := [y]) rfl
    have lo : lostD (a ++ ([y] ++ b)) (a.length : Nat) 1 [.str "new"] = .int y := by
      unfold lostD
      rw [lost_s]
      simp
    rw [b1, lo]
    have c1 : canD 1 (a ++ ([n] ++ b)) (a.length : Nat) (.int y) = !memD (.int y) (a ++ ([n] ++ b)) := can_split (m := [n])
    refine ⟨?_, behind_split (m := [n]) rfl, ⟨y, rfl⟩⟩
    rw [c1, mem_int]
    have hn : n ∉ a ++ ([y] ++ b) := by
      rw [mem_int] at hl
      exact of_decide_eq_false hl
    have : y ∉ a ++ ([n] ++ b) := by
      intro h
      simp only [List.mem_append, List.mem_singleton] at h
      rw [List.nodup_append] at nd
      rcases h with h | h | h
      · exact nd.2.2 y h y (by simp) rfl
      · exact hn (by rw [h]; simp)
      · have n2 := nd.2.1
        rw [List.nodup_append] at n2
        exact n2.2.2 y (by simp) y h rfl
    rw [decide_eq_false this]
    rfl
  · obtain ⟨y, z, rfl⟩ := len2 ew
    have b1 : behindD (a ++ ([y, z] ++ b)) [.int 1, .int 0] 2 (a.length : Nat) l = a ++ ([z, y] ++ b) := behind_split (m := [y, z]) rfl
    have lo : lostD (a ++ ([y, z] ++ b)) (a.length : Nat) 2 [.int 1, .int 0] = .none := by
      unfold lostD
      rw [lost_2]
    rw [b1, lo]
    have c1 : canD 2 (a ++ ([z, y] ++ b)) (a.length : Nat) .none = !memD .none (a ++ ([z, y] ++ b)) := can_split (m := [z, y])
    exact ⟨c1, behind_split (m := [z, y]) rfl, rfl⟩
/-- a change's text has all its letters once -/
theorem behind_nodup {z : Str} {wd pl : Int} {ps : List PyData} {t : List Int} {l : PyData} (h : (z, kindD wd ps) ∈ menu) (nd : t.Nodup) (can : canD wd t pl l = true) (fit : fitL ps l) : (behindD t ps wd pl l).Nodup := by
  obtain ⟨a, m, b, rfl, rfl, ew, hl⟩ := split_of can (kok_of h).w0
  have bs := behind_split (a := a) (m := m) (b := b) (l := l) (ps := ps) (by rw [← ew]; exact (kok_of h).parts)
  rw [← ew] at bs
  rw [bs]
  have new : ∀ n, l = .int n → n ∉ a ++ (m ++ b) := fun n e => by
    rw [e, mem_int] at hl
    exact of_decide_eq_false hl
  have nm : m.Nodup := by
    rw [List.nodup_append] at nd
    have := nd.2.1
    rw [List.nodup_append] at this
    exact this.1
  simp only [menu, menuK, List.map_cons, List.map_nil, List.mem_cons, List.not_mem_nil, or_false, Prod.mk.injEq] at h
  rcases h with ⟨_, h⟩ | ⟨_, h⟩ | ⟨_, h⟩ | ⟨_, h⟩ | ⟨_, h⟩ | ⟨_, h⟩ | ⟨_, h⟩ | ⟨_, h⟩ <;> obtain ⟨rfl, rfl⟩ := kind_inj h
  · exact nodup_window nd (by simp) (by simp)
  · obtain ⟨n, rfl⟩ : ∃ n, l = .int n := fit
    have := new n rfl
    refine nodup_window nd (by simp) fun x hx => .inr ?_
    have hx : x = n := by simpa [pvM] using hx
    subst hx
    exact ⟨fun q => this (List.mem_append_left _ q), fun q => this (List.mem_append_right _ (List.mem_append_right _ q))⟩
  · obtain ⟨n, rfl⟩ : ∃ n, l = .int n := fit
    have := new n rfl
    obtain ⟨y, z, rfl⟩ := len2 ew
    have e : [PyData.int 1, .str "new"].map (pvM [y, z] (.int n)) = [z, n] := rfl
    rw [e]
    refine nodup_window nd ?_ fun x hx => ?_
    · have : z ≠ n := fun q => this (by rw [← q]; simp)
      simp [this]
    · simp only [List.mem_cons, List.not_mem_nil, or_false] at hx
      rcases hx with rfl | rfl
      · exact .inl (by simp)
      · exact .inr ⟨fun q => this (List.mem_append_left _ q), fun q => this (List.mem_append_right _ (List.mem_append_right _ q))⟩
  · exact nodup_window nd (by simp) (by simp)
  · obtain ⟨n, rfl⟩ : ∃ n, l = .int n := fit
    have := new n rfl
    refine nodup_window nd (by simp) fun x hx => .inr ?_
    have hx : x = n := by simpa [pvM] using hx
    subst hx
    exact ⟨fun q => this (List.mem_append_left _ q), fun q => this (List.mem_append_right _ (List.mem_append_right _ q))⟩
  · obtain ⟨n, rfl⟩ : ∃ n, l = .int n := fit
    have := new n rfl
    refine nodup_window nd (by simp) fun x hx => .inr ?_
    have hx : x = n := by simpa [pvM] using hx
    subst hx
    exact ⟨fun q => this (List.mem_append_left _ q), fun q => this (List.mem_append_right _ (List.mem_append_right _ q))⟩
  · obtain ⟨y, z, rfl⟩ := len2 ew
    have e : [PyData.int 1, .int 0].map (pvM [y, z] l) = [z, y] := rfl
    rw [e]
    refine nodup_window nd ?_ fun x hx => .inl ?_
    · simp only [List.nodup_cons, List.mem_singleton, List.not_mem_nil, not_false_eq_true, and_true, List.nodup_nil] at nm ⊢
      exact fun q => nm q.symm
    · simp only [List.mem_cons, List.not_mem_nil, or_false] at hx ⊢
      exact hx.symm
  · obtain ⟨n, rfl⟩ : ∃ n, l = .int n := fit
    have hn := new n rfl
    obtain ⟨y, z, rfl⟩ := len2 ew
    have e : [PyData.int 1, .str "new", .int 0].map (pvM [y, z] (.int n)) = [z, n, y] := rfl
    rw [e]
    have zn : z ≠ n := fun q => hn (by rw [← q]; simp)
    have yn : y ≠ n := fun q => hn (by rw [← q]; simp)
    refine nodup_window nd ?_ fun x hx => ?_
    · simp only [List.nodup_cons, List.mem_cons, List.not_mem_nil, or_false, not_false_eq_true, and_true, List.nodup_nil, not_or] at nm ⊢
      exact ⟨⟨zn, fun q => nm q.symm⟩, fun q => yn q.symm⟩
    · simp only [List.mem_cons, List.not_mem_nil, or_false] at hx
      rcases hx with rfl | rfl | rfl
      · exact .inl (by simp)
      · exact .inr ⟨fun q => hn (List.mem_append_left _ q), fun q => hn (List.mem_append_right _ (List.mem_append_right _ q))⟩
      · exact .inl (by simp)
/-- the text read backwards -/
theorem turn_pv {m : List Int} {l d : PyData} (h : isPartD (m.length : Nat) d = true) : pvM m.reverse l (turnPart (m.length : Nat) d) = pvM m l d := by
  cases d with
  | int k =>
    have h : (decide (0 ≤ k) && decide (k < (m.length : Nat))) = true := h
    simp only [Bool.and_eq_true, decide_eq_true_eq] at h
    show (m.reverse[(((m.length : Nat) : Int) - 1 - k).toNat]?).getD 0 = (m[k.toNat]?).getD 0
    have e : (((m.length : Nat) : Int) - 1 - k).toNat = m.length - 1 - k.toNat := by omega
    rw [e, List.getElem?_reverse (by omega)]
    congr 2
    omega
  | str z => rfl
  | none => rfl
  | bool b => rfl
  | list xs => rfl
  | tuple xs => rfl
  | dict xs => rfl
theorem turn_can {z : Str} {wd pl : Int} {ps : List PyData} {t : List Int} {l : PyData} (h : (z, kindD wd ps) ∈ menu) (can : canD wd t pl l = true) :
    canD wd t.reverse ((t.length : Nat) - pl - wd) l = true ∧ behindD t.reverse (turnRow wd ps) wd ((t.length : Nat) - pl - wd) l = (behindD t ps wd pl l).reverse := by
  have kok := kok_of h
  obtain ⟨a, m, b, rfl, rfl, rfl, hl⟩ := split_of can kok.w0
  have er : (a ++ (m ++ b)).reverse = b.reverse ++ (m.reverse ++ a.reverse) := by simp
  have ep : (((a ++ (m ++ b)).length : Nat) : Int) - (a.length : Nat) - (m.length : Nat) = (b.reverse.length : Nat) := by
    rw [List.length_append, List.length_append, List.length_reverse]
    omega
  have em : ((m.length : Nat) : Int) = (m.reverse.length : Nat) := by rw [List.length_reverse]
  have memr : memD l (b.reverse ++ (m.reverse ++ a.reverse)) = memD l (a ++ (m ++ b)) := by
    rw [← er]
    cases l <;> first | rfl | (rw [mem_int, mem_int]; exact decide_eq_decide.mpr List.mem_reverse)
  have tp : (turnRow (m.length : Nat) ps).all (isPartD (m.reverse.length : Nat)) = true := by
    obtain ⟨_, _, kd⟩ := turn_fact h
    obtain ⟨w', ps', e', _, _, row⟩ := kind_form kd
    have e' : kindD (m.length : Nat) (turnRow (m.length : Nat) ps) = kindD w' ps' := e'
    obtain ⟨h1, h2⟩ := kind_inj e'
    rw [← em, h2, h1]
    exact row_parts row
  have bs := behind_split (a := a) (m := m) (b := b) (l := l) (ps := ps) kok.parts
  have bs2 := behind_split (a := b.reverse) (m := m.reverse) (b := a.reverse) (l := l) (ps := turnRow (m.length : Nat) ps) tp
  have cs := can_split (a := b.reverse) (m := m.reverse) (b := a.reverse) (l := l)
  rw [← em] at bs2 cs
  rw [er, ep]
  refine ⟨by rw [cs, memr, hl]; rfl, ?_⟩
  rw [bs2, bs]
  have tm : (turnRow (m.length : Nat) ps).map (pvM m.reverse l) = (ps.map (pvM m l)).reverse := by
    unfold turnRow
    rw [List.map_map, ← List.map_reverse]
    exact List.map_congr_left fun d hd => turn_pv (List.all_eq_true.mp kok.parts d (List.mem_reverse.mp hd))
  rw [tm]
  simp
end K41

end

section
set_option Elab.async false
set_option linter.all false
set_option maxRecDepth 100000
set_option maxHeartbeats 4000000
/-! Changes in a row; kinds that are equal; words for the law's def. -/
namespace K41
open PySem PySem.Spec PyProof.Rows L2 KX
theorem run_snoc {M : List Ent} {t1 t2 : List Int} {d : PyData} (h2 : stepD M t1 d = some t2) : ∀ {ds : List PyData} {i : Nat} {t : List Int}, runD M i t ds = .inr t1 → runD M i t (ds ++ [d]) = .inr t2
  | [], i, t, h => by
    cases h
    exact runD_some (r := []) h2
  | x :: r, i, t, h => by
    obtain ⟨t3, e1, e2⟩ := runs_on h
    exact (runD_some (r := r ++ [d]) e1).trans (run_snoc h2 e2)
theorem run_any {M : List Ent} {t1 : List Int} : ∀ {ds : List PyData} {i j : Nat} {t : List Int}, runD M i t ds = .inr t1 → runD M j t ds = .inr t1
  | [], _, _, _, h => h
  | x :: r, i, j, t, h => by
    obtain ⟨t3, e1, e2⟩ := runs_on h
    exact (runD_some (r := r) e1).trans (run_any e2)
theorem step_eq {M : List Ent} {t t2 : List Int} {z : Str} {p : Int} {l h : PyData} (e : stepD M t (.tuple [.str z, .int p, l, h]) = some t2) : t2 = behindD t (rowD M z) (widthD M z) p l := by
  have e : (if canD (widthD M z) t p l = true then some (behindD t (rowD M z) (widthD M z) p l) else none) = some t2 := e
  split at e
  · exact (Option.some.inj e).symm
  · cases e
theorem backs_snoc {M : List Ent} {t1 : List Int} {d : PyData} : ∀ {ds : List PyData} {i : Nat} {t : List Int}, (∀ x ∈ ds, ChD x) → runD M i t ds = .inr t1 → backsZ M t (ds ++ [d]) = backsZ M t ds ++ backsZ M t1 [d]
  | [], i, t, _, h => by
    cases h
    rfl
  | x :: r, i, t, c, h => by
    obtain ⟨t3, e1, e2⟩ := runs_on h
    have ih := backs_snoc (d := d) (fun y m => c y (List.mem_cons_of_mem _ m)) e2
    have cx := c x List.mem_cons_self
    cases cx with
    | non =>
      cases e1
      exact ih
    | cut z p hh ok =>
      rw [step_eq e1] at ih
      show _ :: backsZ M _ (r ++ [d]) = _ :: backsZ M _ r ++ _
      rw [ih]
      rfl
    | put z p n hh ok =>
      rw [step_eq e1] at ih
      show _ :: backsZ M _ (r ++ [d]) = _ :: backsZ M _ r ++ _
      rw [ih]
      rfl
theorem badC_none {M : List Ent} : ∀ {ds : List PyData} {i : Nat}, (∀ d ∈ ds, okC M d = true) → badC M i ds = none
  | [], _, _ => rfl
  | d :: r, i, h => by
    rw [badC_ok (h d List.mem_cons_self)]
    exact badC_none fun x m => h x (List.mem_cons_of_mem _ m)
theorem ps_by {X : Cx} {st : Stmt} {t t' : TS} (h : PS X st t) (c : ∀ D σ H, t' D σ H → t D σ H) : PS X st t' := ⟨fun pins s σ H D I k => h.run pins s σ H D I (c D σ H k)⟩
/-- a statement that is never reached -/
theorem ps_dead {X : Cx} {st : Stmt} : PS X st (fun _ _ _ => False) := ⟨fun _ _ _ _ _ _ h => h.elim⟩
theorem nd_text {t : List Int} (h : t.Nodup) : isTextD (.tuple (t.map .int)) = true := by
  have e : (t.map PyData.int).map keyD = t.map fun n => (Sum.inl n : Key) := by
    rw [List.map_map]
    rfl
  have n : (t.map fun n => (Sum.inl n : Key)).Nodup := by
    rw [List.nodup_iff_pairwise_ne, List.pairwise_map]
    exact (List.nodup_iff_pairwise_ne.mp h).imp fun ne z => ne (Sum.inl.inj z)
  have all : (t.map PyData.int).all isIntD = true := by
    rw [List.all_map]
    exact List.all_eq_true.mpr fun _ _ => rfl
  show ((t.map PyData.int).all isIntD && decide (nDiff ((t.map PyData.int).map keyD) ((t.map PyData.int).map keyD).length = (t.map PyData.int).length)) = true
  rw [all, e, Bool.true_and]
  refine decide_eq_true ?_
  have := (nDiff_nodup (t.map fun n => (Sum.inl n : Key)) _ (Nat.le_refl _)).mpr (by rw [List.take_length]; exact n)
  rw [this, List.length_map, List.length_map]
theorem hu66 {k : Nat} {A : Around} (r : Room k A) : A.units + 66 < cLine := by have := r.un; omega
section
variable {P : Program} {w : World} {K : PySem.W.Frag} {mg : Str → Option Value} {base : Heap}
theorem Fun.ok0 {x qual : Str} {st : Stmt} {f : Addr} {fd : FuncData} {N ps : List Str} {k : Nat} {sp : Sp} (F : Fun K x qual st f fd) (S : FnScope N ps (defScope st)) (len : ∀ vs H Q E, sp vs H Q E → vs.length = ps.length)
    (hbody : ∀ (cdv : Value) (A : Around) (outer : List Env) (s : Shared) (H : Hp) (vs : List V) (Q : VK) (E : XK), Room k (A.deeper (envOfC qual (defScope st) s.heap.objs.size f cdv)) → sp vs H Q E →
      ∃ t, PSs (cxOf CX0 P w K mg base N qual (defScope st) f cdv A outer s H E) (defBody st) t ∧ t { nx := fun _ H' => Q .non H', rt := Q } (L2.start N vs) H) : FnOk P w K mg base CX0 (k + 1) f fd ps sp := by
  obtain ⟨oc, od, kV, doc, pm, an, cdv, ct, osl, rfl, lk, hcd⟩ := F.ex
  exact fn_of lk hcd S len fun A outer s H vs Q E hr hsp => hbody cdv A outer s H vs Q E hr hsp
theorem pOg {CX : CXT} {N : List Str} {qual : Str} {scope : Scope} {f : Addr} {cd : Value} {A : Around} {outer : List Env} {s : Shared} {H : Hp} {E : XK} : PassesOwn (model P w) (cxOf CX P w K mg base N qual scope f cd A outer s H E).A (cxOf CX P w K mg base N qual scope f cd A outer s H E).env (cxOf CX P w K mg base N qual scope f cd A outer s H E).xe := passes_of rfl
/-- two kinds that tell the same -/
def spEqD (K : PySem.W.Frag) (C : Addr) : Sp := fun vs H Q _ => ∃ p q M N, vs = [.ref p, .ref q] ∧ KindsAt K C H p M ∧ KindsAt K C H q N ∧ pairsE M = pairsE N ∧ Q (.bl true) H
theorem ok_Kinds_eqD (T : Top K mg) : FnOk P w K mg base (L2.CX P w) 1 T.Kinds_eq.a T.Kinds_eq.d ["self", "other"] (spEqD K T.cKinds.c) := by
  refine T.Kinds_eq.f.okX sc_Kinds_eq (fun vs H Q E h => ?_) (fun cdv A outer s H vs Q E hr h => ?_)
  · obtain ⟨p, q, M, N, rfl, _⟩ := h
    rfl
  · obtain ⟨p, q, M, N, rfl, ⟨dx, D, hp, hD, hg⟩, ⟨dx2, D2, hp2, hD2, hg2⟩, e, k⟩ := h
    refine ⟨_, (pss_one ((ps_ret (pe_and (pe_callB call_isi (by rfl) T.bf.isinstance_ (by decide +kernel) (pa_cons (pv 1) (pa_cons (pe_glob (x := "Kinds") (v := .ref T.cKinds.c) (by rfl) T.cKinds.m rfl) pa_nil))) (pe_one (pe_cmpR (op_eqDD (hu66 hr)) (pe_fld (pv 0) rfl) (pe_fld (pv 1) rfl) (by rfl))))))), ?_⟩
    refine ⟨_, rfl, _, .ref _, _, _, true, rfl, .own _, ins_ty T hp2, kit_self, _, rfl, iteT ?_⟩
    refine ⟨_, rfl, p, _, dx, _, _, rfl, hp, T.kf.cls, T.kf.told, rfl, _, rfl, q, _, dx2, _, _, rfl, hp2, T.kf.cls, T.kf.told, rfl, D, D2, _, _, rfl, rfl, hD.at_, hD2.at_, ?_, fun x hx => ?_, k⟩
    · have := congrArg List.length e
      rw [len_pairs, len_pairs] at this
      rw [kvs_len, kvs_len, this]
    · obtain ⟨y, hy, rfl⟩ := List.mem_map.mp hx
      have : (y.1, y.2.2) ∈ pairsE N := by rw [← e]; exact List.mem_map.mpr ⟨y, hy, rfl⟩
      obtain ⟨y2, hy2, e2⟩ := List.mem_map.mp this
      obtain ⟨e3, e4⟩ := Prod.mk.inj e2
      refine ⟨y2.2.1, y.2.2, y2.2.2, ?_, hD.ok.dp y hy, hD2.ok.dp y2 hy2, shaped_el (hD.ok.sh y hy), shaped_el (hD2.ok.sh y2 hy2), ?_⟩
      · have := val_of hD2.ok.nd hy2
        rw [e3] at this
        exact this
      · rw [e4]
        exact eqv_one (shaped_el (hD.ok.sh y hy))
end
end K41

end

section
set_option Elab.async false
set_option linter.all false
set_option maxRecDepth 100000
set_option maxHeartbeats 4000000
/-! list(reversed(a list)): a new list. -/
namespace KX
open PySem PySem.Spec PyProof.Rows L2
def listO (acc : Array Value) (c : Nat) : Obj := { cls := .type "list", dict := none, data := .seq acc c, slots := #[] }
section
variable {prog : Program} {w : World} {A : Around} {s : Shared}
/-- `it` walks the list `l` from its end -/
structure AtEnd (h : Heap) (it l : Addr) (xs : Array Value) : Prop where
  cur : h.IsRevIter it l ((xs.size : Int) - 1)
  seq : h.IsList l xs
  ne : l ≠ it
theorem AtEnd.up {h h' : Heap} {it l : Addr} {xs : Array Value} (a : AtEnd h it l xs) (k : ∀ b o, h.get? b = some o → h'.get? b = some o) : AtEnd h' it l xs := by
  refine ⟨a.cur.at fun o e => k _ o e, ?_, a.ne⟩
  obtain ⟨o, e, rest⟩ := a.seq
  exact ⟨o, k _ o e, rest⟩
theorem fill_rev {R : Result → Shared → Prop} {it l S : Addr} {xs : Array Value} {c₀ : Nat} (hh : A.handled = none) (a : AtEnd s.heap it l xs) (n1 : S ≠ it) (n2 : S ≠ l) (few : xs.size ≤ sizeLine) (hS : s.heap.get? S = some (listO #[] c₀))
    (fin : ∀ h' tk acc c, (∀ b o, b ≠ S → b ≠ it → s.heap.get? b = some o → h'.get? b = some o) → h'.get? S = some (listO acc c) → ItemsOf (fun i v => xs[xs.size - 1 - i]? = some v) acc xs.size → R (.ok (.ret .none)) { s with heap := h', toks := tk }) :
    wpAny (model prog w) A.in1 (Builtin.List.listExtendWith (.ref S) (.ref it) .none)
      (fun x s' => match x with | .done f => R (.ok f) s' | .again c' => c'.quiet = true ∧ codeAny (model prog w) A c' R s') (fun e s' => R (.error e) s') s := by
  have W := (Walks.listRev (prog := prog) (w := w) (A := A.in1) hh it l a.ne xs).toS
  have hT : s.TypeIs (.ref it) "list_reverseiterator" := Heap.IsRevIter.typeIs a.cur
  have same : Builtin.List.listSameRef (.ref S) (.ref it) = false := by simp [Builtin.List.listSameRef, n1]
  have out : S ∉ [it, l] := fun h => by
    rcases List.mem_cons.mp h with e | h
    · exact n1 e
    · exact n2 (List.mem_singleton.mp h)
  unfold Builtin.List.listExtendWith
  refine wpAny_bind (wpAny_typeOf hT ?_)
  rw [if_neg (by rw [same]; decide)]
  refine wpAny_bind (wpAny_pyIter_revIter a.cur (wpAny_bind (wpAny_holding ?_)))
  unfold Builtin.List.listLengthHint
  refine wpAny_bind (wpAny_specialOf hT RT.nolen_lri (wpAny_bind (wpAny_specialOf hT RT.hint_lri ?_)))
  generalize hid : ("list_reverseiterator.__length_hint__" : String) = id0
  wp_delta
  rw [show splitId id0 = some ("list_reverseiterator", "__length_hint__") from by rw [← hid]; decide +kernel]
  subst hid
  refine wpAny_bind (wpAny_isInstance (b := true) hT (by rw [isSubtype_type]; kernel_rfl) (wpAny_pure ?_))
  rw [if_neg (by decide)]
  have z : ((xs.size : Nat) : Int) - 1 - ((0 : Nat) : Int) = (xs.size : Int) - 1 := by omega
  refine wpAny_pure ⟨plainId_quiet F.plain_extend_loop _, codeAny_extend_loopS W few S out .none xs.size 0 _ #[] c₀ rfl (Nat.zero_le _) ⟨Nat.zero_le _, by rw [z]; exact a.cur, a.seq⟩ hS (ItemsOf.nil _) fun s' acc c hm hS' items => ?_⟩
  rw [Moved.eq_with hm]
  refine fin s'.heap s'.toks acc c (fun b o b1 b2 e => hm.heap b o (fun m => ?_) e) hS' items
  rcases List.mem_cons.mp m with e' | m
  · exact b1 e'
  · exact b2 (List.mem_singleton.mp m)
theorem init_rev {R : Result → Shared → Prop} {it l S : Addr} {xs : Array Value} (hh : A.handled = none) (a : AtEnd s.heap it l xs) (n1 : S ≠ it) (n2 : S ≠ l) (few : xs.size ≤ sizeLine) (hS : s.heap.get? S = some (listO #[] 0))
    (fin : ∀ h' tk acc c, (∀ b o, b ≠ S → b ≠ it → s.heap.get? b = some o → h'.get? b = some o) → h'.get? S = some (listO acc c) → ItemsOf (fun i v => xs[xs.size - 1 - i]? = some v) acc xs.size → R (.ok (.ret .none)) { s with heap := h', toks := tk }) :
    wpAny (model prog w) A.in1 (Builtin.«list.__init__» ⟨[.ref S, .ref it], []⟩)
      (fun x s' => match x with | .done f => R (.ok f) s' | .again c' => c'.quiet = true ∧ codeAny (model prog w) A c' R s') (fun e s' => R (.error e) s') s := by
  show wpAny _ _ (Builtin.List.listItems (.ref S) >>= fun old => Builtin.List.listUpdate (.ref S) (fun _ => #[]) >>= fun _ => letGo old.toList.reverse >>= fun _ => Builtin.List.listExtendWith (.ref S) (.ref it) .none) _ _ s
  unfold Builtin.List.listItems
  refine wpAny_bind (wpAny_bind (wpAny_seqItems hS rfl (wpAny_pure ?_)))
  show wpAny _ _ (updateSeq S (fun _ => #[]) >>= fun _ => letGo (#[] : Array Value).toList.reverse >>= fun _ => Builtin.List.listExtendWith (.ref S) (.ref it) .none) _ _ s
  have old : ∀ b o, b ≠ S → s.heap.get? b = some o → (s.heap.update S (Obj.mapSeq (fun _ => (#[] : Array Value)))).get? b = some o := fun b o nb e => (Heap.get?_update_other _ _ (Ne.symm nb)).trans e
  refine wpAny_bind (wpAny_updateSeq hS rfl (wpAny_bind (wpAny_letGo ?_)))
  have a2 : AtEnd (s.heap.update S (Obj.mapSeq (fun _ => (#[] : Array Value)))) it l xs := by
    refine ⟨a.cur.at fun o e => old _ o (Ne.symm n1) e, ?_, a.ne⟩
    obtain ⟨o, e, rest⟩ := a.seq
    exact ⟨o, old _ o (Ne.symm n2) e, rest⟩
  exact fill_rev (c₀ := 0) hh a2 n1 n2 few (Heap.get?_update_self _ hS rfl) fun h' tk acc c k e items => fin h' tk acc c (fun b o b1 b2 q => k b o b1 b2 (old b o b1 q)) e items
theorem call_list_rev {E : Value → Shared → Prop} {Q : Value → Shared → Prop} {it l : Addr} {xs : Array Value} (hh : A.handled = none) (a : AtEnd s.heap it l xs) (few : xs.size ≤ sizeLine)
    (fin : ∀ h' tk acc c, (∀ b o, b ≠ it → s.heap.get? b = some o → h'.get? b = some o) → h'.get? s.heap.objs.size = some (listO acc c) → ItemsOf (fun i v => xs[xs.size - 1 - i]? = some v) acc xs.size → Q (.ref s.heap.objs.size) { s with heap := h', toks := tk }) :
    wpAny (model prog w) A (call (.type "list") [.ref it]) Q E s := by
  obtain ⟨oi, hoi, _⟩ := id a.cur
  obtain ⟨ol, hol, _⟩ := id a.seq
  refine callType_codes (Q₁ := fun obj s₁ => obj = .ref s.heap.objs.size ∧ s₁ = { s with heap := s.heap.push (listO #[] 0) }) F.called_list (F.typeCall_list_1 _) F.entry_list_init
    (code_list_new _ ⟨rfl, rfl⟩) fun obj s₁ h₁ => ?_
  obtain ⟨rfl, rfl⟩ := h₁
  have up : ∀ b o, s.heap.get? b = some o → (s.heap.push (listO #[] 0)).get? b = some o := fun b o e => Heap.get?_push_of_some _ e
  have hS : (s.heap.push (listO #[] 0)).get? s.heap.objs.size = some (listO #[] 0) := Heap.get?_push_size _ rfl
  refine ⟨⟨_, hS, rfl⟩, F.args_list_init_2 _ _, init_rev (A := A.in1) hh (a.up up) (Nat.ne_of_gt (Heap.lt_size hoi)) (Nat.ne_of_gt (Heap.lt_size hol)) few hS fun h' tk acc c k e items => ⟨rfl, fin h' tk acc c (fun b o b2 q => k b o (Nat.ne_of_lt (Heap.lt_size q)) b2 (up b o q)) e items⟩⟩
end
/-- list(reversed(x)), x a list: a new list -/
def tLstRev (K : PySem.W.Frag) (te : TE) : TE := fun σ H Q => te σ H fun v H1 => ∃ (a : Addr) (xs : List V), v = .ref a ∧ SqL K H1 a xs ∧ ∀ q, H1 q = none → Q (.ref q) (upd H1 q (.lst xs.reverse))
theorem pe_lstRev {X : Cx} {e : Expr} {te : TE} {p p2 pos pos2 : Pos} (hc : X.calm = true) (hg : Gl X "list") (hm : X.mg "list" = none) (hv : bootBuiltins "list" = some (.type "list")) (hg2 : Gl X "reversed") (hm2 : X.mg "reversed" = none) (he : PE X e te)
    (hs : starEach [e] X.env = (false, eval e X.env) :: starEach [] X.env := by rfl)
    (hs2 : starEach [.Call (.Name "reversed" p2) [e] [] pos2] X.env = (false, eval (.Call (.Name "reversed" p2) [e] [] pos2) X.env) :: starEach [] X.env := by rfl) :
    PE X (.Call (.Name "list" p) [.Call (.Name "reversed" p2) [e] [] pos2] [] pos) (tLstRev X.K te) := by
  refine ⟨fun pins s σ H Q I h => ?_⟩
  refine Call_ (ld_blt I hg hm hv (PyProof.Rows.callWith_type1 (args_cons (Call_ (ld_blt I hg2 hm2 PyProof.Rows.boot_reversed (PyProof.Rows.callWith_type1 (args_cons (thn (he.run pins s σ H _ I h) fun u s1 ⟨v, H1, I1, r1, q1⟩ => args_nil ?_) hs) hs rfl))) hs2) hs2 rfl))
  obtain ⟨a, xs, ev, hq, q⟩ := q1
  subst ev
  cases r1
  obtain ⟨its, rv, p', hz⟩ := I1.list hq
  have few : its.toArray.size ≤ sizeLine := by rw [List.size_toArray, ← rv.length]; exact hz
  refine call_reversed_list p'.isList (args_nil ?_)
  have k0 : ∀ b o, s1.heap.get? b = some o → (s1.heap.push (revObj a ((its.toArray.size : Int) - 1))).get? b = some o := fun b o e => Heap.get?_push_of_some _ e
  have I2 : Inv X pins σ H1 { s1 with heap := s1.heap.push (revObj a ((its.toArray.size : Int) - 1)) } := I1.kept (t' := s1.toks) k0
  obtain ⟨f0, f1, f2, f3, f4, f5⟩ := I1.fpOk (H' := H1) (b := s1.heap.objs.size) (Nat.le_refl _) (I1.hok.fresh (Nat.le_refl _))
  obtain ⟨ol, hol, _⟩ := id p'.isList
  have far : AtEnd (s1.heap.push (revObj a ((its.toArray.size : Int) - 1))) s1.heap.objs.size a its.toArray := ⟨⟨_, Heap.get?_push_size _ rfl, rfl, rfl⟩, p'.isList.push _, Nat.ne_of_lt (Heap.lt_size hol)⟩
  refine call_list_rev (s := { s1 with heap := s1.heap.push (revObj a ((its.toArray.size : Int) - 1)) }) (I1.ok.hd hc) far few fun h' tk acc c k new items => ?_
  have fr2 := I2.hok.fresh (Nat.le_refl _)
  have I3 : Inv X pins σ (upd H1 (s1.heap.push (revObj a ((its.toArray.size : Int) - 1))).objs.size (.lst xs.reverse)) { s1 with heap := h', toks := tk } := by
    refine Inv.turnedNew (s := { s1 with heap := s1.heap.push (revObj a ((its.toArray.size : Int) - 1)) }) (t' := tk) (ch := [s1.heap.objs.size]) I2 (fun b o nb e => k b o (fun z => nb (by rw [z]; exact List.mem_singleton.mpr rfl)) e) (fun b m => ?_) (Nat.le_refl _) ⟨by rw [List.length_reverse]; exact hz, acc.toList, c, RT.vals_rev rv items, ?_⟩
    · rw [List.mem_singleton.mp m]
      exact ⟨f0, f1, f2, f3, f4, f5⟩
    · rw [Array.toArray_toList]
      exact new
  exact ⟨.ref _, _, I3, rfl, q _ fr2⟩
end KX

end

section
set_option Elab.async false
set_option linter.all false
set_option maxRecDepth 100000
set_option maxHeartbeats 4000000
/-! Words for the law's loops. -/
namespace K41
open PySem PySem.Spec PyProof.Rows L2 KX
theorem frz_get {H : Hp} {d : Addr} {od : Obj} {L : List Ent} {e : Ent} (h : H d = some (.frz od (.dK (kvsT L)))) (nd : (L.map (·.1)).Nodup) (m : e ∈ L) : DGet H d (.str e.1) (some e.2.1) :=
  .inl ⟨kvsT L, Sum.inr e.1, .inr ⟨od, h⟩, rfl, (val_of nd m).symm⟩
theorem unlock_same {H H' : Hp} {d : Addr} {u : HO} {od : Obj} (hd : H d = some u) (s : Same (upd H d (.frz od u)) H') : Same H (upd H' d u) := fun b v h => by
  by_cases e : b = d
  · subst e
    rw [hd] at h
    cases h
    exact upd_same
  · rw [upd_ne e]
    exact s b v (by rw [upd_ne e]; exact h)
theorem EntsZ.dk {K : PySem.W.Frag} {H : Hp} {D : Addr} {k0 : List (Key × V)} {o : HO} {L : List Ent} (h : EntsZ K H L) (hD : H D = some (.dK k0)) : EntsZ K (upd H D o) L := fun e m => by
  obtain ⟨w, ps, h1, h2⟩ := h e m
  exact ⟨w, ps, h1, h2.dk hD⟩
/-- the names that the law finds -/
def gsL (L : List Ent) (d : PyData) : List Str := L.filterMap fun x => if PyData.eqv x.2.2 (lawBackD d) = true then some x.1 else none
theorem gs_filt {L : List Ent} {d : PyData} : (L.filterMap fun x => if PyData.eqv x.2.2 (lawBackD d) = true then some (V.str x.1) else none) = (gsL L d).map V.str := by
  unfold gsL
  rw [List.map_filterMap]
  refine congrArg (fun f => List.filterMap f L) (funext fun x => ?_)
  by_cases c : PyData.eqv x.2.2 (lawBackD d) = true
  · rw [if_pos c, if_pos c]
    rfl
  · rw [if_neg c, if_neg c]
    rfl
theorem gs_mem {L : List Ent} {d : PyData} {z : Str} (h : z ∈ gsL L d) : ∃ x ∈ L, x.1 = z := by
  obtain ⟨x, hx, e⟩ := List.mem_filterMap.mp h
  split at e
  · exact ⟨x, hx, Option.some.inj e⟩
  · cases e
theorem strs_dp {K : PySem.W.Frag} {H : Hp} : ∀ {M : List Str}, DpAll K H (M.map V.str) (M.map PyData.str)
  | [] => .nil
  | e :: r => .cons (.str _) strs_dp
theorem gs_shape {L : List Ent} {d : PyData} (om : OfMenu L) : SeqAt.shaped (.list ((gsL L d).map PyData.str)) = true := shaped_all fun x hx => by
  obtain ⟨z, hz, rfl⟩ := List.mem_map.mp hx
  obtain ⟨e, he, rfl⟩ := gs_mem hz
  have ok : PyData.strOk e.1 = true := List.all_eq_true.mp menu_str _ (om e he)
  simp [ok, SeqAt.shaped, PyData.canLay0, PyData.canLayAll0, PyData.depth, PyData.depthAll]
/-- the first of them is what leads back -/
theorem gs_first {L : List Ent} {e : Ent} (om : OfMenu L) (em : e ∈ L) : (gsL L e.2.2 = [] ∧ nbV L e.2.2 = .non) ∨ ∃ z r, gsL L e.2.2 = z :: r ∧ nbV L e.2.2 = .str z := by
  have ff : nbE L e.2.2 = L.find? fun x => PyData.eqv x.2.2 (lawBackD e.2.2) := find_same fun x hx => (back_same (om e em) (om x hx)).symm
  unfold nbV
  rw [ff]
  unfold gsL
  generalize lawBackD e.2.2 = b
  clear ff em om
  induction L with
  | nil => exact .inl ⟨rfl, rfl⟩
  | cons x r ih =>
    by_cases c : PyData.eqv x.2.2 b = true
    · rw [List.filterMap_cons, if_pos c, List.find?_cons_of_pos (p := fun x : Ent => PyData.eqv x.2.2 b) c]
      exact .inr ⟨_, _, rfl, rfl⟩
    · rw [List.filterMap_cons, if_neg c, List.find?_cons_of_neg (p := fun x : Ent => PyData.eqv x.2.2 b) c]
      exact ih
theorem eqv_nil {b : PyData} : PyData.eqv (.list []) (.list []) = true := by decide +kernel
theorem eqv_cons {x : PyData} {xs : List PyData} : PyData.eqv (.list (x :: xs)) (.list []) = false := by
  simp [PyData.eqv, PyData.eqvAll]
end K41

end

section
set_option Elab.async false
set_option linter.all false
set_option maxRecDepth 100000
set_option maxHeartbeats 4000000
/-! One turn of the law's loop: the change, its way back, the kinds turned. -/
namespace K41
open PySem PySem.Spec PyProof.Rows L2 KX
theorem ok_change {K : PySem.W.Frag} {C : Addr} {H : Hp} {p : Addr} {M : List Ent} {e : Ent} {wd pl : Int} {l : PyData} {ps : List PyData} {h : Nat} (hk : KindsAt K C H p M) (em : e ∈ M) (ed : e.2.2 = kindD wd ps) (fit : fitL ps l) :
    isChangeD M (.tuple [.str e.1, .int pl, l, .int (h : Nat)]) = true := by
  obtain ⟨dx, D, h1, h2, h3⟩ := hk
  have n2 := findE_of h2.ok.nd em
  have n1 : needsD M (.str e.1) = hasNewD ps := by
    show hasNewD (rowD M e.1) = _
    rw [(rowD_of h2.ok.nd em ed).1]
  show ((findE M (.str e.1)).isSome && (true && (true && (decide ((0 : Int) ≤ (h : Nat)) && (if needsD M (.str e.1) = true then isIntD l else noneD l))))) = true
  rw [n1, n2, decide_eq_true (by omega : (0 : Int) ≤ (h : Nat))]
  unfold fitL at fit
  by_cases c : hasNewD ps = true
  · rw [if_pos c] at fit ⊢
    obtain ⟨n, rfl⟩ := fit
    rfl
  · rw [if_neg c] at fit ⊢
    subst fit
    rfl
theorem step_is {M : List Ent} {t : List Int} {e : Ent} {pl wd : Int} {l hd : PyData} {ps : List PyData} (nd : (M.map (·.1)).Nodup) (em : e ∈ M) (ed : e.2.2 = kindD wd ps) (can : canD wd t pl l = true) : stepD M t (.tuple [.str e.1, .int pl, l, hd]) = some (behindD t ps wd pl l) := by
  obtain ⟨hrow, hwid⟩ := rowD_of nd em ed
  show (if canD (widthD M e.1) t pl l = true then some (behindD t (rowD M e.1) (widthD M e.1) pl l) else none) = _
  rw [hrow, hwid, if_pos can]
theorem fit_ch {z : Str} {ps : List PyData} {pl h : Int} {l : PyData} (ok : PyData.strOk z = true) (fit : fitL ps l) : ChD (.tuple [.str z, .int pl, l, .int h]) := by
  unfold fitL at fit
  split at fit
  · obtain ⟨n, rfl⟩ := fit
    exact .put _ _ _ _ ok
  · subst fit
    exact .cut _ _ _ ok
theorem menu_strOk {z : Str} {d : PyData} (h : (z, d) ∈ menu) : PyData.strOk z = true := List.all_eq_true.mp menu_str _ h
/-- what leads back stands among the kinds, and does -/
theorem back_step {L : List Ent} {e y : Ent} {wd pl : Int} {ps : List PyData} {t : List Int} {l : PyData} (om : OfMenu L) (em : e ∈ L) (ed : e.2.2 = kindD wd ps) (nb : nbE L e.2.2 = some y) (nd : t.Nodup) (can : canD wd t pl l = true) (fit : fitL ps l) :
    y ∈ L ∧ ∃ w' ps', y.2.2 = kindD w' ps' ∧ canD w' (behindD t ps wd pl l) pl (lostD t pl wd ps) = true ∧ behindD (behindD t ps wd pl l) ps' w' pl (lostD t pl wd ps) = t ∧ fitL ps' (lostD t pl wd ps) := by
  have ym : y ∈ L := List.mem_of_find?_eq_some nb
  have ye : PyData.eqv y.2.2 (backOf e.2.2) = true := by
    have := List.find?_some nb
    exact this
  have me := om e em
  have my := om y ym
  obtain ⟨w', ps', ey, _⟩ := kind_form (menu_of my).kd
  have ey : y.2.2 = kindD w' ps' := ey
  rw [ed] at me ye
  rw [ey] at my ye
  obtain ⟨h1, h2, h3⟩ := back_can (l := l) nd can fit (back_ways me my ye)
  exact ⟨ym, w', ps', ey, h1, h2, h3⟩
theorem turned_mem {L M : List Ent} (e : pairsE M = (pairsE L).map turnP) {x : Ent} {wd : Int} {ps : List PyData} (hx : x ∈ L) (ed : x.2.2 = kindD wd ps) : ∃ y ∈ M, y.1 = x.1 ∧ y.2.2 = kindD wd (turnRow wd ps) := by
  have h1 : turnP (x.1, x.2.2) ∈ pairsE M := by
    rw [e]
    exact List.mem_map_of_mem (List.mem_map.mpr ⟨x, hx, rfl⟩)
  obtain ⟨y, hy, ey⟩ := List.mem_map.mp h1
  rw [ed] at ey
  have ey : (y.1, y.2.2) = (x.1, kindD wd (turnRow wd ps)) := ey
  exact ⟨y, hy, (Prod.mk.inj ey).1, (Prod.mk.inj ey).2⟩
theorem seq_join {t1 t2 t3 : TS} {D : Ends} {σ : L2.St} {H : Hp} {R : Hp → Prop} (h1 : ∀ N : L2.St → Hp → Prop, (∀ H', R H' → N σ H') → t1 { D with nx := t2 { D with nx := N } } σ H) (h2 : ∀ H', R H' → t3 D σ H') : tSeq t1 (tSeq t2 t3) D σ H := h1 (t3 D) h2
section
variable {P : Program} {w : World} {K : PySem.W.Frag} {mg : Str → Option Value} {base : Heap}
/-- done, of one change that can be done -/
theorem done_one (T : Top K mg) {H : Hp} {p : Addr} {M : List Ent} {vt vc : V} {t : List Int} {e : Ent} {pl wd : Int} {l hd : PyData} {ps : List PyData} {Q : VK} {E : XK} (hk : KindsAt K T.cKinds.c H p M) (ht : TextAt K H vt t) (nt : t.Nodup) (tl : t.length ≤ 50) (em : e ∈ M) (ed : e.2.2 = kindD wd ps)
    (dc : Dp K H vc (.tuple [.str e.1, .int pl, l, hd])) (ic : isChangeD M (.tuple [.str e.1, .int pl, l, hd]) = true) (can : canD wd t pl l = true) (q : ∀ v' H', Same H H' → TextAt K H' v' (behindD t ps wd pl l) → Q v' H') : spDone T [.ref p, vt, vc] H Q E := by
  refine ⟨_, _, _, rfl, fun a H' s ha => ⟨_, _, _, rfl, .inr ⟨p, M, rfl, hk.same s, .inr ⟨t, ht.same s, nd_text nt, tl, .inr ⟨[.tuple [.str e.1, .int pl, l, hd]], ⟨.list [.tuple [.str e.1, .int pl, l, hd]], .lst (SqL.of ha) (.cons (dp_same s dc) .nil), .inl rfl⟩, by show 1 ≤ 6; decide, ?_⟩⟩⟩⟩⟩
  have nd : (M.map (·.1)).Nodup := by
    obtain ⟨_, D, _, hD, _⟩ := hk
    exact hD.ok.nd
  rw [badC_none (M := M) (ds := [.tuple [.str e.1, .int pl, l, hd]]) fun d m => by
    rw [List.mem_singleton.mp m]
    unfold okC
    rw [ic, Bool.or_true]]
  show (match runD M 0 t [.tuple [.str e.1, .int pl, l, hd]] with
    | .inl i => Raises1 H' E T.cCannotDo.c "place" (.int (i : Nat))
    | .inr t' => ∀ v' H2, Same H' H2 → TextAt K H2 v' t' → Q v' H2)
  rw [runD_some (r := []) (step_is nd em ed can)]
  exact fun v' H2 s2 h2 => q v' H2 (s.trans s2) h2
end
/-- where the loop stands -/
structure LoopAt (K : PySem.W.Frag) (L : List Ent) (t0 : List Int) (H6 : Hp) (c8 c10 : Addr) (i : Nat) (H : Hp) (hv : V) (tn : List Int) (vs : List V) (ds : List PyData) (ws : List V) (bs : List PyData) : Prop where
  same : Same H6 H
  text : TextAt K H hv tn
  nod : tn.Nodup
  len : tn.length ≤ 7 + 3 * i
  h8 : H c8 = some (.lst vs)
  h10 : H c10 = some (.lst ws)
  ad : DpAll K H vs ds
  ab : DpAll K H ws bs
  cd : ∀ d ∈ ds, ChD d
  cb : ∀ b ∈ bs, ChD b
  ld : ds.length ≤ i
  lb : bs.length ≤ i
  okd : ∀ d ∈ ds, okC L d = true
  run : runD L 0 t0 ds = .inr tn
  bk : bs = backsZ L t0 ds
  way : bs.any noneD = false → runD L 0 tn bs.reverse = .inr t0 ∧ ∀ b ∈ bs, okC L b = true
theorem LoopAt.next {K : PySem.W.Frag} {L : List Ent} {t0 : List Int} {H6 : Hp} {c8 c10 : Addr} {i : Nat} {H H' : Hp} {hv : V} {tn : List Int} {vs : List V} {ds : List PyData} {ws : List V} {bs : List PyData} (h : LoopAt K L t0 H6 c8 c10 i H hv tn vs ds ws bs) (s : Same H H') : LoopAt K L t0 H6 c8 c10 (i + 1) H' hv tn vs ds ws bs :=
  ⟨h.same.trans s, h.text.same s, h.nod, by have := h.len; omega, s _ _ h.h8, s _ _ h.h10, dpAll_same s h.ad, dpAll_same s h.ab, h.cd, h.cb, by have := h.ld; omega, by have := h.lb; omega, h.okd, h.run, h.bk, h.way⟩
theorem backs_one {M : List Ent} {t : List Int} {e : Ent} {pl wd : Int} {l hd : PyData} {ps : List PyData} (nd : (M.map (·.1)).Nodup) (em : e ∈ M) (ed : e.2.2 = kindD wd ps) : backsZ M t [.tuple [.str e.1, .int pl, l, hd]] = [cbD M t e.2.2 pl wd ps hd] := by
  obtain ⟨hrow, hwid⟩ := rowD_of nd em ed
  show [cbD M t (entD M e.1) pl (widthD M e.1) (rowD M e.1) hd] = _
  rw [hrow, hwid, entD_of nd em]
theorem LoopAt.more {K : PySem.W.Frag} {C kp : Addr} {L : List Ent} {t0 : List Int} {H6 : Hp} {c8 c10 : Addr} {i : Nat} {H : Hp} {hv v13 v14 v4 : V} {tn : List Int} {vs : List V} {ds : List PyData} {ws : List V} {bs : List PyData} {e : Ent} {pl wd : Int} {l : PyData} {ps : List PyData} {h3 : Nat}
    (h : LoopAt K L t0 H6 c8 c10 i H hv tn vs ds ws bs) (hk : KindsAt K C H kp L) (n8 : H6 c8 = none) (n10 : H6 c10 = none) (ne : c10 ≠ c8) (om : OfMenu L) (em : e ∈ L) (ed : e.2.2 = kindD wd ps) (fit : fitL ps l) (can : canD wd tn pl l = true)
    (d13 : Dp K H v13 (.tuple [.str e.1, .int pl, l, .int (h3 : Nat)])) (d14 : Dp K H v14 (cbD L tn e.2.2 pl wd ps (.int (h3 : Nat)))) (t4 : TextAt K H v4 (behindD tn ps wd pl l)) :
    LoopAt K L t0 H6 c8 c10 (i + 1) (upd (upd H c8 (.lst (vs ++ [v13]))) c10 (.lst (ws ++ [v14]))) v4 (behindD tn ps wd pl l) (vs ++ [v13]) (ds ++ [.tuple [.str e.1, .int pl, l, .int (h3 : Nat)]]) (ws ++ [v14]) (bs ++ [cbD L tn e.2.2 pl wd ps (.int (h3 : Nat))]) := by
  have nd : (L.map (·.1)).Nodup := by
    obtain ⟨_, D, _, hD, _⟩ := id hk
    exact hD.ok.nd
  have me := om e em
  have me' := me
  rw [ed] at me'
  have kok := kok_of me'
  have cd13 : ChD (.tuple [.str e.1, .int pl, l, .int (h3 : Nat)]) := fit_ch (menu_strOk me) fit
  have cb14 : ChD (cbD L tn e.2.2 pl wd ps (.int (h3 : Nat))) := cb_form om
  have u10 : upd H c8 (.lst (vs ++ [v13])) c10 = some (.lst ws) := by rw [upd_ne ne]; exact h.h10
  have fd : flatAll ds = true := flat_chs h.cd
  have fb : flatAll bs = true := flat_chs h.cb
  have st := step_is (hd := .int (h3 : Nat)) nd em ed can
  have can' := can
  unfold canD at can'
  simp only [Bool.and_eq_true] at can'
  have p0 := of_decide_eq_true can'.1
  refine ⟨same_upd (same_upd h.same n8) n10, TextAt.updL u10 (TextAt.updL h.h8 t4), behind_nodup me' h.nod can fit, ?_, by rw [upd_ne (Ne.symm ne)]; exact upd_same, upd_same, ?_, ?_, ?_, ?_, ?_, ?_, ?_, ?_, ?_, ?_⟩
  · have b2 := behind_len2 (t := tn) (ps := ps) (l := l) p0 kok.w0
    have := h.len
    have := kok.few
    omega
  · exact dpAll_at u10 (dpAll_at h.h8 (dpAll_snoc d13 h.ad) (flat_snoc cd13.flat fd)) (flat_snoc cd13.flat fd)
  · exact dpAll_at u10 (dpAll_at h.h8 (dpAll_snoc d14 h.ab) (flat_snoc cb14.flat fb)) (flat_snoc cb14.flat fb)
  · exact fun d m => (List.mem_append.mp m).elim (h.cd d) fun z => by rw [List.mem_singleton.mp z]; exact cd13
  · exact fun d m => (List.mem_append.mp m).elim (h.cb d) fun z => by rw [List.mem_singleton.mp z]; exact cb14
  · rw [List.length_append]
    have := h.ld
    simp
    omega
  · rw [List.length_append]
    have := h.lb
    simp
    omega
  · exact fun d m => (List.mem_append.mp m).elim (h.okd d) fun z => by
      rw [List.mem_singleton.mp z]
      unfold okC
      rw [ok_change hk em ed fit, Bool.or_true]
  · exact run_snoc st h.run
  · rw [backs_snoc h.cd h.run, backs_one nd em ed, ← h.bk]
  · intro z
    rw [List.any_append, Bool.or_eq_false_iff] at z
    obtain ⟨z1, z2⟩ := z
    obtain ⟨w1, w2⟩ := h.way z1
    have z2 : noneD (cbD L tn e.2.2 pl wd ps (.int (h3 : Nat))) = false := by
      have : (noneD (cbD L tn e.2.2 pl wd ps (.int (h3 : Nat))) || false) = false := z2
      rw [Bool.or_false] at this
      exact this
    unfold cbD at z2 ⊢
    cases nb : nbE L e.2.2 with
    | none => rw [nb] at z2; cases z2
    | some y =>
      obtain ⟨ym, w', ps', ey, c1, c2, c3⟩ := back_step om em ed nb h.nod can fit
      have st2 := step_is (hd := .int (h3 : Nat)) nd ym ey c1
      rw [c2] at st2
      refine ⟨?_, fun b m => (List.mem_append.mp m).elim (w2 b) fun z => ?_⟩
      · rw [List.reverse_append]
        exact (runD_some (r := bs.reverse) st2).trans (run_any w1)
      · rw [List.mem_singleton.mp z]
        unfold okC
        rw [ok_change hk ym ey c3, Bool.or_true]
/-- the law's text -/
def textS (r : Nat) : List Int := (List.range (r + 1)).map fun k : Nat => 1 + (k : Int)
theorem textS_len (r : Nat) : (textS r).length = r + 1 := by
  unfold textS
  rw [List.length_map, List.length_range]
theorem textS_nodup (r : Nat) : (textS r).Nodup := by
  unfold textS
  rw [List.nodup_iff_pairwise_ne, List.pairwise_map]
  exact (List.nodup_iff_pairwise_ne.mp List.nodup_range).imp fun ne z => ne (by omega)
theorem rg_text (r : Nat) : some (HO.tup (rgV 1 (2 + (r : Nat)))) = some (HO.tup ((textS r).map V.int)) := by
  unfold rgV textS
  have e : (2 + ((r : Nat) : Int) - 1).toNat = r + 1 := by omega
  rw [e, List.map_map]
  rfl
theorem tif_join {tt : TT} {te1 te2 : TE} {σ : L2.St} {H : Hp} {Q : VK} {R : V → Hp → Prop} (h1 : ∀ Q1 : VK, (∀ x H', R x H' → Q1 x H') → tIf tt te1 te2 σ H Q1) (h2 : ∀ x H', R x H' → Q x H') : tIf tt te1 te2 σ H Q := h1 Q h2
theorem cb_val {K : PySem.W.Frag} {H : Hp} {v : V} {z : Str} {p : Int} {l : PyData} {h : Int} (d : Dp K H v (.tuple [.str z, .int p, l, .int h])) : ∃ a x, v = .ref a ∧ SqT K H a [.str z, .int p, x, .int h] ∧ Dp K H x l := by
  cases d with
  | tup hs ha =>
    cases ha with
    | cons a1 t1 =>
      cases a1
      cases t1 with
      | cons a2 t2 =>
        cases a2
        cases t2 with
        | cons a3 t3 =>
          cases t3 with
          | cons a4 t4 =>
            cases a4
            cases t4
            exact ⟨_, _, rfl, hs, a3⟩
theorem letter_dp {K : PySem.W.Frag} {H : Hp} {x : V} {l : PyData} (h : x = .non ∧ l = .none ∨ ∃ n, x = .int n ∧ l = .int n) : Dp K H x l := by
  rcases h with ⟨rfl, rfl⟩ | ⟨n, rfl, rfl⟩
  · exact .non
  · exact .int n
theorem fit_int {ps : List PyData} {l : PyData} (fit : fitL ps l) (h : hasNewD ps = true) : isIntD l = true := by
  unfold fitL at fit
  rw [if_pos h] at fit
  obtain ⟨n, rfl⟩ := fit
  rfl
theorem g_in {i : Nat} {v : V} {σ : L2.St} {H : Hp} {N : L2.St → Hp → Prop} (h : N (σ.set i (some v)) H) : gName i v σ H N := h
theorem seq_joinE {t1 t2 t3 : TS} {D : Ends} {σ : L2.St} {H : Hp} {R : Hp → Prop} {r : V → Hp → Prop} {b c : L2.St → Hp → Prop} (h1 : ∀ N : L2.St → Hp → Prop, (∀ H', R H' → N σ H') → t1 { D with nx := t2 { D with nx := N } } σ H) (h2 : ∀ H', R H' → t3 D σ H') : Ends.nx ⟨tSeq t1 (tSeq t2 t3) D, r, b, c⟩ σ H := h1 (t3 D) h2
theorem new_turn {w : Int} {d : PyData} : newD (turnPart w d) = newD d := by cases d <;> rfl
theorem fit_turn {w : Int} {ps : List PyData} {l : PyData} (h : fitL ps l) : fitL (turnRow w ps) l := by
  have e : hasNewD (turnRow w ps) = hasNewD ps := by
    unfold hasNewD turnRow
    rw [List.any_map, List.any_reverse]
    exact any_same fun d _ => new_turn
  unfold fitL at h ⊢
  rw [e]
  exact h
theorem text_rev {K : PySem.W.Frag} {H : Hp} {q : Addr} {t : List Int} : TextAt K (upd H q (.tup (t.map V.int).reverse)) (.ref q) t.reverse := ⟨q, rfl, SqT.of (by rw [upd_same, List.map_reverse])⟩
theorem ch_of {K : PySem.W.Frag} {H : Hp} {c : Addr} {z : Str} {p h : Int} {x : V} {l : PyData} (s : SqT K H c [.str z, .int p, x, .int h]) (hx : x = .non ∧ l = .none ∨ ∃ n, x = .int n ∧ l = .int n) : ChangeAt K H (.ref c) z p l (.int h) ∧ Dp K H (.ref c) (.tuple [.str z, .int p, l, .int h]) :=
  ⟨⟨c, x, rfl, s, hx⟩, .tup s (.cons (.str _) (.cons (.int _) (.cons (letter_dp hx) (.cons (.int _) .nil))))⟩
theorem tail_shape {l : PyData} {h : Int} {x : V} (hx : x = .non ∧ l = .none ∨ ∃ n, x = .int n ∧ l = .int n) : SeqAt.shaped (.tuple [l, .int h]) = true := by
  rcases hx with ⟨_, rfl⟩ | ⟨n, _, rfl⟩ <;> simp [SeqAt.shaped, PyData.canLay0, PyData.canLayAll0, PyData.depth, PyData.depthAll]
theorem nodup_rev {t : List Int} (h : t.Nodup) : t.reverse.Nodup := by
  rw [List.nodup_iff_pairwise_ne, List.pairwise_reverse]
  exact (List.nodup_iff_pairwise_ne.mp h).imp fun ne z => ne z.symm
end K41

end

section

set_option Elab.async false
set_option linter.all false
set_option maxRecDepth 100000
set_option maxHeartbeats 8000000
/-! The law. -/
namespace K41
open PySem PySem.Spec PyProof.Rows L2 KX
section
variable {P : Program} {w : World} {K : PySem.W.Frag} {mg : Str → Option Value} {base : Heap}
def spLaw (K : PySem.W.Frag) : Sp := fun vs H Q _ => ∃ (a : Addr) (ns : List Int), vs = [.ref a] ∧ SqL K H a (ns.map V.int) ∧ ns.length ≤ 63 ∧ ∀ H', Q (.bl true) H'
theorem ok_law (T : Top K mg) : FnOk P w K mg base CX0 24 T.law_.a T.law_.d ["script"] (spLaw K) := by
  refine K41.Fun.ok0 T.law_.f sc_law (fun vs H Q E h => ?_) (fun cdv A outer s H vs Q E hr h => ?_)
  · obtain ⟨a, ns, rfl, _⟩ := h
    rfl
  · obtain ⟨a, ns, rfl, hs, hl, q⟩ := h
    refine ⟨_, (pss_cons ((ps_set (i := 1) sc_law.nd rfl (Or.inr rfl) ((pe_call (ok__law_some_kinds T) (hr.mono (by decide)) (by rfl) T._law_some_kinds.m T._law_some_kinds.f.kp T._law_some_kinds.b .nil passL (pa_cons (pv 0) (pa_cons (pe_int) (pa_cons (pe_int) pa_nil))))))) (pss_cons ((ps_if ((pt_cmpR (op_gt) ((pe_callB call_lenD (by rfl) T.bf.len_ PySem.boot_len (pa_cons (pv 1) pa_nil))) (pe_int) (nomark _))) ((pss_one (ps_dead))) (pss_nil))) (pss_cons ((ps_set (i := 2) sc_law.nd rfl (Or.inl rfl) ((pe_make T.kf.mkK (ok_Kinds_init T) (hr.mono (by decide)) (by rfl) T.cKinds.m T.Kinds_init.b .nil passL (pa_cons (pv 1) pa_nil))))) (pss_cons (ps_lock (ps_for pOg rfl (pi_keys (pv 1)) (pg_name (i := 3) sc_law.nd rfl (Or.inl rfl)) (pss_cons ((ps_set (i := 4) sc_law.nd rfl (Or.inr rfl) ((pe_call (ok__law_back T) (hr.mono (by decide)) (by rfl) T._law_back.m T._law_back.f.kp T._law_back.b .nil passL (pa_cons ((pe_dget (hu_of hr) (pv 1) (pv 3) (fun _ _ => rfl))) pa_nil))))) (pss_cons ((ps_setLc (i := 6) (own := [("other", 5)]) (g := gName 5) (by rfl) sc_law.nd rfl rfl (sw_true rfl rfl rfl (by decide +kernel)) (pi_list (pe_callB (cr_sortedS) (by rfl) T.bf.sorted_ (by decide +kernel) (pa_cons ((pe_callTy (call_listD rfl) (by rfl) T.bf.list_ (by decide +kernel) (pa_cons (pv 1) pa_nil))) pa_nil))) (blkOk_by (N := n_law) (sc := defScope s_law) (by decide +kernel)) (fun _ _ _ _ _ => pg_name (i := 5) sc_law.nd rfl (Or.inl rfl)) (fun _ _ _ _ _ => pts_one ((pt_cmpR (show OpR _ _ (rEqD K) from op_eqD hr.units) (pe_dget (hu_of hr) (pv 1) (pv 5) (fun _ _ => rfl)) (pv 4) (by rfl)))) (fun _ _ _ _ _ => pv 5))) (pss_one ((ps_if ((pt_cmpR (op_ne) ((pe_call (ok_kind_back T) (hr.mono (by decide)) (by rfl) T.kind_back.m T.kind_back.f.kp T.kind_back.b .nil passL (pa_cons (pv 2) (pa_cons (pv 3) pa_nil)))) (pe_ifExp (pt_cmpR (op_neD hr.units) (pv 6) ((pe_lst pa_nil)) (by rfl)) (pe_ix (show IxR _ (rIxL K) from ix_list) (pv 6) (pe_int) (fun _ _ => rfl)) pe_non) (nomark _))) ((pss_one ((ps_ret (pe_bl))))) (pss_nil)))))))) (pss_cons (ps_asg (pe_tup (pa_cons (pe_tupRg rfl (by rfl) T.bf.tuple_ (prg_2 (by rfl) T.bf.range_ pe_int (pe_op (op_add) (pe_int) ((pe_call (ok__law_draw T) (hr.mono (by decide)) (by rfl) T._law_draw.m T._law_draw.f.kp T._law_draw.b .nil passL (pa_cons (pv 0) (pa_cons (pe_int) (pa_cons (pe_int) pa_nil)))))))) (pa_cons ((pe_lst pa_nil)) (pa_cons (pe_non) (pa_cons ((pe_lst pa_nil)) pa_nil))))) (pg_tup rfl (pgs_cons (pg_name (i := 7) sc_law.nd rfl (Or.inl rfl)) (pgs_cons (pg_name (i := 8) sc_law.nd rfl (Or.inl rfl)) (pgs_cons (pg_name (i := 9) sc_law.nd rfl (Or.inl rfl)) (pgs_cons (pg_name (i := 10) sc_law.nd rfl (Or.inl rfl)) pgs_nil)))))) (pss_cons ((ps_set (i := 9) sc_law.nd rfl (Or.inl rfl) (pv 7))) (pss_cons ((ps_for pOg rfl (pi_range1 (by rfl) T.bf.range_ (pa_cons pe_int pa_nil)) (pg_name (i := 11) sc_law.nd rfl (Or.inl rfl)) (pss_cons ((ps_set (i := 12) sc_law.nd rfl (Or.inl rfl) ((pe_callB (cr_sortedS) (by rfl) T.bf.sorted_ (by decide +kernel) (pa_cons ((pe_callTy (call_listD rfl) (by rfl) T.bf.list_ (by decide +kernel) (pa_cons (pv 1) pa_nil))) pa_nil))))) (pss_cons ((ps_set (i := 3) sc_law.nd rfl (Or.inl rfl) ((pe_ix (show IxR _ (rIxL K) from ix_list) (pv 12) ((pe_call (ok__law_draw T) (hr.mono (by decide)) (by rfl) T._law_draw.m T._law_draw.f.kp T._law_draw.b .nil passL (pa_cons (pv 0) (pa_cons ((pe_op (op_add) (pe_int) ((pe_op (op_mul) (pe_int) (pv 11))))) (pa_cons ((pe_callB (show CallR _ (.builtin "len") (fun xs H Q => ∃ p ys, xs = [.ref p] ∧ (SqL K H p ys ∨ SqT K H p ys) ∧ Q (.int ys.length) H) from call_len_seq) (by rfl) T.bf.len_ PySem.boot_len (pa_cons (pv 12) pa_nil))) pa_nil))))) (fun _ _ => rfl))))) (pss_cons ((ps_set (i := 13) sc_law.nd rfl (Or.inl rfl) ((pe_tup (pa_cons (pv 3) (pa_cons ((pe_call (ok__law_draw T) (hr.mono (by decide)) (by rfl) T._law_draw.m T._law_draw.f.kp T._law_draw.b .nil passL (pa_cons (pv 0) (pa_cons ((pe_op (op_add) (pe_int) ((pe_op (op_mul) (pe_int) (pv 11))))) (pa_cons ((pe_op (op_add) ((pe_callB (show CallR _ (.builtin "len") (fun xs H Q => ∃ p ys, xs = [.ref p] ∧ (SqL K H p ys ∨ SqT K H p ys) ∧ Q (.int ys.length) H) from call_len_seq) (by rfl) T.bf.len_ PySem.boot_len (pa_cons (pv 9) pa_nil))) (pe_int))) pa_nil))))) (pa_cons (pe_ifExp (pt_cmpR (show OpR _ (compareOp .In) (rIn K false) from op_in_seq) (pe_str) ((pe_ix (show IxR _ (rIxT K) from ix_tup) ((pe_dget (hu_of hr) (pv 1) (pv 3) (fun _ _ => rfl))) (pe_int) (fun _ _ => rfl))) (by rfl)) (pe_op (op_add) (pe_int) (pv 11)) pe_non) (pa_cons ((pe_call (ok__law_draw T) (hr.mono (by decide)) (by rfl) T._law_draw.m T._law_draw.f.kp T._law_draw.b .nil passL (pa_cons (pv 0) (pa_cons ((pe_op (op_add) (pe_int) ((pe_op (op_mul) (pe_int) (pv 11))))) (pa_cons (pe_int) pa_nil))))) pa_nil)))))))) (pss_cons ((ps_set (i := 4) sc_law.nd rfl (Or.inr rfl) ((pe_call (ok__law_behind T) (hr.mono (by decide)) (by rfl) T._law_behind.m T._law_behind.f.kp T._law_behind.b .nil passL (pa_cons (pv 1) (pa_cons (pv 9) (pa_cons (pv 13) pa_nil))))))) (pss_cons ((ps_if ((pt_cmpR (op_isN) (pv 4) (pe_non) (nomark _))) ((pss_one (ps_continue))) (pss_nil))) (pss_cons ((ps_set (i := 14) sc_law.nd rfl (Or.inl rfl) ((pe_call (ok_taken_back T) (hr.mono (by decide)) (by rfl) T.taken_back.m T.taken_back.f.kp T.taken_back.b .nil passL (pa_cons (pv 2) (pa_cons (pv 9) (pa_cons (pv 13) pa_nil))))))) (pss_cons ((ps_if ((pt_cmpR (op_ne) ((pe_cmpR (op_isN) (pv 14) (pe_non) (nomark _))) ((pe_cmpR (op_isN) ((pe_call (ok_kind_back T) (hr.mono (by decide)) (by rfl) T.kind_back.m T.kind_back.f.kp T.kind_back.b .nil passL (pa_cons (pv 2) (pa_cons (pv 3) pa_nil)))) (pe_non) (nomark _))) (nomark _))) ((pss_one ((ps_ret (pe_bl))))) (pss_nil))) (pss_cons ((ps_if (PW.pt (pw_and (pt_cmpR (op_notN) (pv 14) (pe_non) (nomark _)) (pw_and1 (PW.pt (pw_or (pt_cmpR (op_ne) ((pe_ix (show IxR _ (rIxT K) from ix_tup) (pv 14) (pe_int) (fun _ _ => rfl))) ((pe_ix (show IxR _ (rIxT K) from ix_tup) (pv 13) (pe_int) (fun _ _ => rfl))) (nomark _)) (pw_or (pt_cmpR (op_ne) ((pe_ix (show IxR _ (rIxT K) from ix_tup) (pv 14) (pe_int) (fun _ _ => rfl))) ((pe_call (ok_kind_back T) (hr.mono (by decide)) (by rfl) T.kind_back.m T.kind_back.f.kp T.kind_back.b .nil passL (pa_cons (pv 2) (pa_cons (pv 3) pa_nil)))) (nomark _)) (pw_or1 (pt_cmpR (op_neD hr.units) ((pe_call (ok_done T) (hr.mono (by decide)) (by rfl) T.done.m T.done.f.kp T.done.b .nil passL (pa_cons (pv 2) (pa_cons (pv 4) (pa_cons (pv 14) pa_nil))))) (pv 9) (by rfl))))))))) ((pss_one ((ps_ret (pe_bl))))) (pss_nil))) (pss_cons ((ps_set (i := 5) sc_law.nd rfl (Or.inl rfl) ((pe_call (ok_turned T) (hr.mono (by decide)) (by rfl) T.turned.m T.turned.f.kp T.turned.b .nil passL (pa_cons (pv 2) (pa_cons (pv 9) (pa_cons (pv 13) pa_nil))))))) (pss_cons ((ps_if ((pt_cmpR (op_neD hr.units) ((pe_call (ok_done T) (hr.mono (by decide)) (by rfl) T.done.m T.done.f.kp T.done.b .nil passL (pa_cons ((pe_call (ok_turned_kinds T) (hr.mono (by decide)) (by rfl) T.turned_kinds.m T.turned_kinds.f.kp T.turned_kinds.b .nil passL (pa_cons (pv 2) pa_nil))) (pa_cons ((show PE _ _ (RT.tTupRev K _) from RT.pe_tupRev rfl (by rfl) T.bf.tuple_ (by rfl) T.bf.reversed_ (pe_callTy (show CallR _ (.type "list") (fun xs H Q => ∃ p ys, xs = [.ref p] ∧ (SqL K H p ys ∨ SqT K H p ys) ∧ ∀ l, H l = none → Q (.ref l) (upd H l (.lst ys))) from call_list_of) (by rfl) T.bf.list_ (by decide +kernel) (pa_cons (pv 9) pa_nil)))) (pa_cons (pv 5) pa_nil))))) ((show PE _ _ (RT.tTupRev K _) from RT.pe_tupRev rfl (by rfl) T.bf.tuple_ (by rfl) T.bf.reversed_ (pe_callTy (show CallR _ (.type "list") (fun xs H Q => ∃ p ys, xs = [.ref p] ∧ (SqL K H p ys ∨ SqT K H p ys) ∧ ∀ l, H l = none → Q (.ref l) (upd H l (.lst ys))) from call_list_of) (by rfl) T.bf.list_ (by decide +kernel) (pa_cons (pv 4) pa_nil)))) (by rfl))) ((pss_one ((ps_ret (pe_bl))))) (pss_nil))) (pss_cons ((ps_if ((pt_cmpR (op_neD hr.units) (pe_slice sl_tupA (pv 5) (po_some pe_int) po_none) (pe_slice sl_tupA (pv 13) (po_some pe_int) po_none) (by rfl))) ((pss_one ((ps_ret (pe_bl))))) (pss_nil))) (pss_cons ((ps_if ((pt_cmpR (op_ne) ((pe_ix (show IxR _ (rIxT K) from ix_tup) (pv 5) (pe_int) (fun _ _ => rfl))) (pv 3) (nomark _))) ((pss_one ((ps_ret (pe_bl))))) (pss_nil))) (pss_cons ((ps_if ((pt_cmpR (op_neD hr.units) ((pe_call (ok_turned T) (hr.mono (by decide)) (by rfl) T.turned.m T.turned.f.kp T.turned.b .nil passL (pa_cons ((pe_call (ok_turned_kinds T) (hr.mono (by decide)) (by rfl) T.turned_kinds.m T.turned_kinds.f.kp T.turned_kinds.b .nil passL (pa_cons (pv 2) pa_nil))) (pa_cons ((show PE _ _ (RT.tTupRev K _) from RT.pe_tupRev rfl (by rfl) T.bf.tuple_ (by rfl) T.bf.reversed_ (pe_callTy (show CallR _ (.type "list") (fun xs H Q => ∃ p ys, xs = [.ref p] ∧ (SqL K H p ys ∨ SqT K H p ys) ∧ ∀ l, H l = none → Q (.ref l) (upd H l (.lst ys))) from call_list_of) (by rfl) T.bf.list_ (by decide +kernel) (pa_cons (pv 9) pa_nil)))) (pa_cons (pv 5) pa_nil))))) (pv 13) (by rfl))) ((pss_one ((ps_ret (pe_bl))))) (pss_nil))) (pss_cons ((ps_expr (pe_bm PySem.F.plainAttrs_list PySem.F.slot_list_append PySem.F.type_list_append mt_append (pv 8) (pa_cons (pv 13) pa_nil)))) (pss_cons ((ps_expr (pe_bm PySem.F.plainAttrs_list PySem.F.slot_list_append PySem.F.type_list_append mt_append (pv 10) (pa_cons (pv 14) pa_nil)))) (pss_one ((ps_set (i := 9) sc_law.nd rfl (Or.inl rfl) (pv 4))))))))))))))))))))) (pss_cons ((ps_set (i := 15) sc_law.nd rfl (Or.inl rfl) ((pe_call (ok_list_back T) (hr.mono (by decide)) (by rfl) T.list_back.m T.list_back.f.kp T.list_back.b .nil passL (pa_cons (pv 2) (pa_cons (pv 7) (pa_cons (pe_ifExp (pt_cmpR (op_eq) ((pe_call (ok__law_draw T) (hr.mono (by decide)) (by rfl) T._law_draw.m T._law_draw.f.kp T._law_draw.b .nil passL (pa_cons (pv 0) (pa_cons (pe_int) (pa_cons (pe_int) pa_nil))))) (pe_int) (nomark _)) (pv 8) (pe_callTy (call_tuple_of) (by rfl) T.bf.tuple_ (by decide +kernel) (pa_cons (pv 8) pa_nil))) pa_nil))))))) (pss_cons ((ps_if ((pt_cmpR (op_ne) ((pe_cmpR (op_isN) (pv 15) (pe_non) (nomark _))) ((pe_cmpR (op_inD (hu65 hr)) (pe_non) (pv 10) (by rfl))) (nomark _))) ((pss_one ((ps_ret (pe_bl))))) (pss_nil))) (pss_cons ((ps_if (PW.pt (pw_and (pt_cmpR (op_notN) (pv 15) (pe_non) (nomark _)) (pw_and1 (PW.pt (pw_or (pt_cmpR (op_neD hr.units) (pv 15) ((show PE _ _ (tLstRev K _) from pe_lstRev rfl (by rfl) T.bf.list_ (by rfl) (by rfl) T.bf.reversed_ (pe_callTy (show CallR _ (.type "list") (fun xs H Q => ∃ p ys, xs = [.ref p] ∧ (SqL K H p ys ∨ SqT K H p ys) ∧ ∀ l, H l = none → Q (.ref l) (upd H l (.lst ys))) from call_list_of) (by rfl) T.bf.list_ (by decide +kernel) (pa_cons (pv 10) pa_nil)))) (by rfl)) (pw_or1 (pt_cmpR (op_neD hr.units) ((pe_call (ok_done_all T) (hr.mono (by decide)) (by rfl) T.done_all.m T.done_all.f.kp T.done_all.b .nil passL (pa_cons (pv 2) (pa_cons (pv 9) (pa_cons (pv 15) pa_nil))))) (pv 7) (by rfl)))))))) ((pss_one ((ps_ret (pe_bl))))) (pss_nil))) (pss_cons ((ps_set (i := 4) sc_law.nd rfl (Or.inr rfl) ((pe_call (ok_turned_kinds T) (hr.mono (by decide)) (by rfl) T.turned_kinds.m T.turned_kinds.f.kp T.turned_kinds.b .nil passL (pa_cons (pv 2) pa_nil))))) (pss_cons (ps_lock (ps_for pOg rfl (pi_keys (pv 1)) (pg_name (i := 3) sc_law.nd rfl (Or.inl rfl)) (pss_cons ((ps_asg ((pe_dget (hu_of hr) (pv 1) (pv 3) (fun _ _ => rfl))) (pg_tup rfl (pgs_cons (pg_name (i := 16) sc_law.nd rfl (Or.inr rfl)) (pgs_cons (pg_name (i := 17) sc_law.nd rfl (Or.inl rfl)) pgs_nil))))) (pss_one ((ps_if ((pt_cmpR (op_neD hr.units) ((pe_ownIx (ok_Kinds_getitem T) (hr.mono (by decide)) T.Kinds_getitem.b passL T.Kinds_getitem.i T.Kinds_getitem.g T.kf.fn (pv 4) (pv 3) (fun _ _ => rfl))) ((pe_tup (pa_cons (pv 16) (pa_cons ((pe_callTy (call_tuple_of) (by rfl) T.bf.tuple_ (by decide +kernel) (pa_cons ((pe_lc (own := [("part", 18)]) (g := gName 18) (tt := tYes) rfl sc_law.nd ((show PI _ _ _ (RT.iRevA K _) from RT.pi_revA (by rfl) T.bf.reversed_ (pe_callTy (show CallR _ (.type "list") (fun xs H Q => ∃ p ys, xs = [.ref p] ∧ (SqL K H p ys ∨ SqT K H p ys) ∧ ∀ l, H l = none → Q (.ref l) (upd H l (.lst ys))) from call_list_of) (by rfl) T.bf.list_ (by decide +kernel) (pa_cons (pv 17) pa_nil)))) (blkOk_by (N := n_law) (sc := defScope s_law) (by decide +kernel)) (fun _ _ _ _ _ => pg_name (i := 18) sc_law.nd rfl (Or.inl rfl)) (fun _ _ _ _ _ => pts_nil) (fun _ _ _ _ _ => pe_ifExp (pt_cmpR (op_eq) (pv 18) (pe_str) (nomark _)) (pv 18) (pe_op (op_sub) ((pe_op (op_sub) (pv 16) (pe_int))) (pv 18))))) pa_nil))) pa_nil)))) (by rfl))) ((pss_one ((ps_ret (pe_bl))))) (pss_nil))))))) (pss_one ((ps_ret (pe_and (pe_cmpR (op_ownEq (ok_Kinds_eqD T) (hr.mono (by decide)) T.Kinds_eq.b passL T.Kinds_eq.i T.Kinds_eq.g) ((pe_call (ok_turned_kinds T) (hr.mono (by decide)) (by rfl) T.turned_kinds.m T.turned_kinds.f.kp T.turned_kinds.b .nil passL (pa_cons (pv 4) pa_nil))) (pv 2) (by rfl)) (pe_and (pe_cmpR (op_eqD hr.units) ((pe_call (ok_list_back T) (hr.mono (by decide)) (by rfl) T.list_back.m T.list_back.f.kp T.list_back.b .nil passL (pa_cons (pv 2) (pa_cons (pv 7) (pa_cons ((pe_lst pa_nil)) pa_nil))))) ((pe_lst pa_nil)) (by rfl)) (pe_one (pe_or (pe_cmpR (op_inD (hu65 hr)) (pe_non) (pv 10) (by rfl)) (pe_one (pe_cmpR (op_eqD hr.units) ((pe_call (ok_list_back T) (hr.mono (by decide)) (by rfl) T.list_back.m T.list_back.f.kp T.list_back.b .nil passL (pa_cons (pv 2) (pa_cons (pv 7) (pa_cons ((pe_op (op_cat) ((pe_lst (pa_cons (pe_non) pa_nil))) (pv 8))) pa_nil))))) (pv 15) (by rfl)))))))))))))))))))))), ?_⟩
    refine ⟨_, rfl, a, 0, 4, ns, rfl, hs, hl, by decide, by decide, by decide, by decide, fun d L H1 s1 hT hZ om so pos few => ?_⟩
    have few : L.length ≤ 4 := by omega
    have dr : Drawn L := ⟨om, so, hT.ok.nd, pos, few⟩
    refine ⟨_, rfl, d, _, rfl, hT.at_, _, _, rfl, rfl, _, rfl, ?_⟩
    rw [kvs_len, decide_eq_false (by omega)]
    refine iteF ?_
    refine ⟨_, rfl, fun kp kdx hkp hkdx kne => make_good dr.good hT hkp hkdx fun H2 s2 hkn => ⟨rfl, ?_⟩⟩
    have hT2 := hT.same s2
    have hZ2 := hZ.same s2
    have hk2 := hkn.at_
    have hs2 := (s1.trans s2).seq hs
    have nd := dr.nd
    clear hkp hkdx kne
    -- every kind's way back
    refine ⟨d, _, hT2.at_, by trivial, fun od => ?_⟩
    have lk : upd H2 d (.frz od (.dK (kvsT L))) d = some (.frz od (.dK (kvsT L))) := upd_same
    refine ⟨_, rfl, d, od, rfl, .inl ⟨kvsT L, lk, ?_⟩⟩
    refine for_it walk_keys (fun i σ H4 => (∃ x3 x4 x6, σ = [some (.ref a), some (.ref d), some (.ref kp), x3, x4, none, x6, none, none, none, none, none, none, none, none, none, none, none, none]) ∧ Same (upd H2 d (.frz od (.dK (kvsT L)))) H4)
      ⟨⟨_, _, _, rfl⟩, Same.refl _⟩ (fun i σ H4 _ p => p.2 _ _ lk) ?turn1 ?after1
    case turn1 =>
      have hkL : KindsAt K T.cKinds.c (upd H2 d (.frz od (.dK (kvsT L)))) kp L := hkn.lock hT.at_ hT2.at_
      have hZL : EntsZ K (upd H2 d (.frz od (.dK (kvsT L)))) L := hZ2.dk hT2.at_
      generalize upd H2 d (.frz od (.dK (kvsT L))) = HL at lk hkL hZL ⊢
      rintro i x σ H4 H4' hi ⟨⟨x3, x4, x6, rfl⟩, s4⟩ ⟨rfl, k, v, hkv, rfl⟩
      have hkv : (L.map fun e : Ent => ((Sum.inr e.1 : Key), e.2.1))[i]? = some (k, v) := hkv
      rw [List.getElem?_map] at hkv
      obtain ⟨e, he, ek⟩ := Option.map_eq_some_iff.mp hkv
      cases ek
      have em : e ∈ L := List.mem_of_getElem? he
      obtain ⟨wd, ps, ed, kz⟩ := hZL e em
      have me := om e em
      have me' := me
      rw [ed] at me'
      refine ⟨_, rfl, _, rfl, d, _, rfl, frz_get (s4 _ _ lk) nd em, e.2.1, e.1, wd, ps, rfl, (kz.same s4).dp, me', fun v' H5 s5 hv' => ?_⟩
      have hv' : Dp K H5 v' (lawBackD e.2.2) := by rw [ed]; exact hv'
      have s05 := s4.trans s5
      refine ⟨_, rfl, d, kvsT L, rfl, .inr ⟨od, s05 _ _ lk⟩, fun l1 hl1 => ?_⟩
      have en : (kvsT L).map (fun kv => kV kv.1) = (L.map (·.1)).map V.str := by rw [kvs_keys, List.map_map]; rfl
      rw [en]
      have sA := same_upd (o := .lst ((L.map (·.1)).map V.str)) (Same.refl H5) hl1
      have hlA : (upd H5 l1 (.lst ((L.map (·.1)).map V.str))) l1 = some (.lst ((L.map (·.1)).map V.str)) := upd_same
      generalize upd H5 l1 (.lst ((L.map (·.1)).map V.str)) = HA at sA hlA ⊢
      refine ⟨l1, L.map (·.1), rfl, SqL.of hlA, by rw [List.length_map]; omega, fun ys nm pm sy hnm => ?_⟩
      have ey : ys = L.map (·.1) := sorted_one sy so pm
      subst ey
      have sB := same_upd (o := .lst ((L.map (·.1)).map V.str)) (Same.refl HA) hnm
      have hnB : (upd HA nm (.lst ((L.map (·.1)).map V.str))) nm = some (.lst ((L.map (·.1)).map V.str)) := upd_same
      generalize upd HA nm (.lst ((L.map (·.1)).map V.str)) = HB at sB hnB ⊢
      have s0B := s05.trans (sA.trans sB)
      have hvB := dp_same (sA.trans sB) hv'
      refine ⟨nm, rfl, ⟨_, SqL.of hnB⟩, fun D hD => ?_⟩
      refine lc_filt (i := 5) (walk_list (K := K) (a := nm) (xs := (L.map (·.1)).map V.str)) (fun j => (L[j]?).bind fun x => if PyData.eqv x.2.2 (lawBackD e.2.2) = true then some (V.str x.1) else none) (fun H6 s6 => SqL.of (s6 _ _ hnB)) hD (by rw [List.length_map, List.length_map]; omega) (fun _ => rfl) ?elt1 ?done1
      case elt1 =>
        rintro j x H6 H6' hj s6 ⟨rfl, hx⟩
        have hx : (L.map fun e : Ent => V.str e.1)[j]? = some x := by rw [List.map_map] at hx; exact hx
        obtain ⟨x, hj, rfl⟩ := idx_map hx
        have xm : x ∈ L := List.mem_of_getElem? hj
        have s06 := s0B.trans s6
        refine ⟨Same.refl _, fun Q1 Q2 q1 q2 => ?_⟩
        refine ⟨_, rfl, _, rfl, d, _, rfl, frz_get (s06 _ _ lk) nd xm, _, rfl, x.2.2, lawBackD e.2.2, ((hZL.same s06).dp x xm), dp_same s6 hvB, shaped_el ((dr.good.ents (fun x m => (hZL.same s06).dp x m)).sh x xm), List.all_eq_true.mp law_shaped _ me, _, rfl, ?_⟩
        rw [hj] at q1 q2
        by_cases c : PyData.eqv x.2.2 (lawBackD e.2.2) = true
        · rw [c]
          exact iteT ⟨_, rfl, q2 _ (by simp [c]) _ (Same.refl _)⟩
        · have c : PyData.eqv x.2.2 (lawBackD e.2.2) = false := by simpa using c
          rw [c]
          exact iteF (q1 (by simp [c]) _ (Same.refl _))
      case done1 =>
        intro H6 s6 hD6
        rw [List.length_map, List.length_map, range_filt L _ L.length (Nat.le_refl _), List.take_length, gs_filt] at hD6
        have s06 := s0B.trans s6
        refine ⟨_, rfl, _, rfl, kp, L, e, rfl, hkL.same s06, hZL.same s06, om, em, fun H7 s7 => ?_⟩
        have hs7 := gs_shape (d := e.2.2) om
        refine ⟨_, rfl, by show 0 ≤ sizeLine; decide, fun b hb => ⟨.list ((gsL L e.2.2).map PyData.str), .list [], .lst (SqL.of (by rw [upd_ne (ne_of_none (s7 _ _ hD6) hb)]; exact s7 _ _ hD6)) strs_dp, .lst (SqL.of upd_same) .nil, hs7, by decide +kernel, _, rfl, ?_⟩⟩
        have s8 := same_upd (o := .lst []) (Same.refl H7) hb
        have hD8 := s8 _ _ (s7 _ _ hD6)
        have s08 := (s06.trans s7).trans s8
        generalize upd H7 b (.lst []) = H8 at s8 hD8 s08 ⊢
        rcases gs_first om em with ⟨g, nb⟩ | ⟨z, r, g, nb⟩
        · rw [g, nb]
          refine iteF ⟨rfl, _, rfl, iteF ⟨⟨_, _, _, rfl⟩, s08⟩⟩
        · rw [g] at hD8
          rw [g, nb]
          have ne : (!PyData.eqv (.list ((z :: r).map PyData.str)) (.list [])) = true := by rw [List.map_cons, eqv_cons]; rfl
          rw [ne]
          refine iteT ⟨_, rfl, D, _, _, _, rfl, rfl, SqL.of hD8, atI_nat (j := 0) rfl, rfl, _, rfl, ?_⟩
          rw [decide_eq_true rfl]
          exact iteF ⟨⟨_, _, _, rfl⟩, s08⟩
    case after1 =>
      rintro σ H4 ⟨⟨x3, x4, x6, rfl⟩, s4⟩
      refine ⟨s4 _ _ lk, ?_⟩
      have s3 := unlock_same hT2.at_ s4
      generalize upd H4 d (.dK (kvsT L)) = H3 at s3 ⊢
      clear s4 lk
      have hs3 := s3.seq hs2
      refine ⟨_, rfl, a, 10, 7, ns, rfl, hs3, hl, by decide, by decide, by decide, fun r H5 s5 r7 => ?_⟩
      refine ⟨_, _, rfl, rfl, _, _, rfl, rfl, ?_, fun tx htx => ?_⟩
      · exact RgOk.of_le (by decide) (by omega) (by decide) (by omega)
      have s6 := same_upd (o := .tup (rgV 1 (2 + (r : Nat)))) (Same.refl H5) htx
      have hx6 : TextAt K (upd H5 tx (.tup (rgV 1 (2 + (r : Nat))))) (.ref tx) (textS r) := ⟨tx, rfl, SqT.of (by rw [upd_same, rg_text])⟩
      generalize upd H5 tx (.tup (rgV 1 (2 + (r : Nat)))) = H6 at s6 hx6 ⊢
      refine ⟨by show 0 ≤ sizeLine; decide, fun c8 hc8 => ⟨by show 0 ≤ sizeLine; decide, fun c10 hc10 => ⟨by show 4 ≤ sizeLine; decide, fun tp htp => ⟨tp, _, rfl, SqT.of upd_same, rfl, _, _, rfl, _, _, rfl, _, _, rfl, _, _, rfl, rfl, ?_⟩⟩⟩⟩
      have ne : c10 ≠ c8 := fun z => by rw [z, upd_same] at hc10; cases hc10
      have n10 : H6 c10 = none := by rw [upd_ne ne] at hc10; exact hc10
      have st := same_upd (o := .tup [.ref tx, .ref c8, .non, .ref c10]) (Same.refl _) htp
      have h8 := st c8 _ (show upd (upd H6 c8 (.lst [])) c10 (.lst []) c8 = some (.lst []) by rw [upd_ne (Ne.symm ne)]; exact upd_same)
      have h10 := st c10 _ (show upd (upd H6 c8 (.lst [])) c10 (.lst []) c10 = some (.lst []) from upd_same)
      have s67 := (same_upd (same_upd (Same.refl H6) hc8) n10).trans st
      generalize upd (upd (upd H6 c8 (.lst [])) c10 (.lst [])) tp (.tup [.ref tx, .ref c8, .non, .ref c10]) = H7 at st h8 h10 s67 ⊢
      clear st htp hc10
      have s26 := s3.trans (s5.trans s6)
      have hT6 := hT2.same s26
      have hZ6 := hZ2.same s26
      have hk6 := hk2.same s26
      have hs6 := s26.seq hs2
      have lt0 : (textS r).length ≤ 7 := by rw [textS_len]; omega
      have nt0 := textS_nodup r
      refine ⟨_, rfl, _, rfl, by decide, by decide, ?_⟩
      refine for_it (walk_range (lo := 0) (n := 5)) (fun i σ H' => ∃ x3 x4 x5 x6 hv x11 x12 x13 x14 tn vs ds ws bs, σ = [some (.ref a), some (.ref d), some (.ref kp), x3, x4, x5, x6, some (.ref tx), some (.ref c8), some hv, some (.ref c10), x11, x12, x13, x14, none, none, none, none] ∧
          LoopAt K L (textS r) H6 c8 c10 i H' hv tn vs ds ws bs)
        ⟨_, _, _, _, _, _, _, _, _, _, _, _, _, _, rfl, ⟨s67, hx6.same s67, nt0, by omega, h8, h10, .nil, .nil, (fun d m => by cases m), (fun d m => by cases m), Nat.le_refl _, Nat.le_refl _, (fun d m => by cases m), rfl, rfl, fun _ => ⟨rfl, fun b m => by cases m⟩⟩⟩ (fun _ _ _ _ _ => trivial) ?turn2 ?after2
      case turn2 =>
        rintro i x σ H8 H8' hi ⟨x3, x4, x5, x6, hv, x11, x12, x13, x14, tn, vs, ds, ws, bs, rfl, la⟩ ⟨rfl, rfl⟩
        have s8 := la.same
        have hT8 := hT6.same s8
        have hk8 := hk6.same s8
        refine ⟨_, rfl, d, kvsT L, rfl, .inl hT8.at_, fun l1 hl1 => ?_⟩
        have en : (kvsT L).map (fun kv => kV kv.1) = (L.map (·.1)).map V.str := by rw [kvs_keys, List.map_map]; rfl
        rw [en]
        have sA := same_upd (o := .lst ((L.map (·.1)).map V.str)) (Same.refl H8') hl1
        have hlA : (upd H8' l1 (.lst ((L.map (·.1)).map V.str))) l1 = some (.lst ((L.map (·.1)).map V.str)) := upd_same
        generalize upd H8' l1 (.lst ((L.map (·.1)).map V.str)) = HA at sA hlA ⊢
        refine ⟨l1, L.map (·.1), rfl, SqL.of hlA, by rw [List.length_map]; omega, fun ys nm pm sy hnm => ?_⟩
        have ey : ys = L.map (·.1) := sorted_one sy so pm
        subst ey
        have sB := same_upd (o := .lst ((L.map (·.1)).map V.str)) (Same.refl HA) hnm
        have hnB : (upd HA nm (.lst ((L.map (·.1)).map V.str))) nm = some (.lst ((L.map (·.1)).map V.str)) := upd_same
        generalize upd HA nm (.lst ((L.map (·.1)).map V.str)) = HB at sB hnB ⊢
        have s8B := sA.trans sB
        have s6B := s8.trans s8B
        have hs8 := s6B.seq hs6
        have hTB := hT6.same s6B
        have htB := la.text.same s8B
        have llen : (((L.map (·.1)).map V.str).length : Int) = (L.length : Nat) := by rw [List.length_map, List.length_map]
        refine ⟨_, rfl, _, rfl, _, rfl, _, _, rfl, rfl, by unfold CMul; omega, _, _, rfl, rfl, _, rfl, nm, _, rfl, .inl (SqL.of hnB), a, _, _, ns, rfl, hs8, hl, by omega, by omega, by omega, fun r1 HC sC r1l => ?_⟩
        rw [llen] at r1l
        have r1l : r1 < L.length := by omega
        obtain ⟨e, he⟩ : ∃ e, L[r1]? = some e := ⟨_, List.getElem?_eq_getElem r1l⟩
        have em : e ∈ L := List.mem_of_getElem? he
        refine ⟨nm, _, _, .str e.1, rfl, rfl, SqL.of (sC _ _ hnB), atI_nat (j := r1) (by rw [List.getElem?_map, List.getElem?_map, he]; rfl), ?_⟩
        have s6C := s6B.trans sC
        obtain ⟨wd, ps, ed, kz⟩ := hZ6 e em
        have me := om e em
        have me' := me
        rw [ed] at me'
        have kok := kok_of me'
        have htC := htB.same sC
        obtain ⟨th, rfl, hth⟩ := id la.text
        have hthC := sqT_same (s8B.trans sC) hth
        have ltn : ((tn.map V.int).length : Int) = (tn.length : Nat) := by rw [List.length_map]
        refine ⟨_, rfl, _, rfl, _, rfl, _, _, rfl, rfl, by unfold CMul; omega, _, _, rfl, rfl, _, rfl, th, _, rfl, .inr hthC, _, _, rfl, rfl, a, _, _, ns, rfl, s6C.seq hs6, hl, by omega, by omega, by omega, fun r2 HD sD r2l => ?_⟩
        rw [ltn] at r2l
        have s6D := s6C.trans sD
        have hTD := hT6.same s6D
        refine tif_join (R := fun x H' => Same HD H' ∧ ∃ l, (x = .non ∧ l = .none ∨ ∃ n, x = .int n ∧ l = .int n) ∧ fitL ps l) (fun Q1 q1 => ?letter) ?_
        case letter =>
          obtain ⟨ka, kb, xs, rx, h1, h2, h3⟩ := kind_val (kz.same s6D).dp
          obtain ⟨f1, f2⟩ := new_in h3 kok.parts
          have hg := hTD.get em
          rw [rx] at hg
          refine ⟨_, rfl, _, rfl, d, _, rfl, hg, ka, _, 1, _, rfl, rfl, h1, rfl, kb, xs, rfl, .inr h2, rfl, f1, _, rfl, ?_⟩
          rw [if_neg (by decide), f2]
          refine ite2 (fun c => ?_) (fun c => ?_)
          · exact ⟨_, rfl, _, _, rfl, rfl, q1 _ _ ⟨Same.refl _, _, .inr ⟨_, rfl, rfl⟩, by unfold fitL; rw [if_pos c]; exact ⟨_, rfl⟩⟩⟩
          · exact q1 _ _ ⟨Same.refl _, _, .inl ⟨rfl, rfl⟩, by unfold fitL; rw [if_neg c]⟩
        rintro x HE ⟨sE, l, hxl, fit⟩
        have s6E := s6D.trans sE
        refine ⟨_, rfl, _, rfl, _, _, rfl, rfl, by unfold CMul; omega, _, _, rfl, rfl, a, _, _, ns, rfl, s6E.seq hs6, hl, by omega, by omega, by omega, fun r3 HF sF r3l => ⟨by show 4 ≤ sizeLine; decide, fun c13 hc13 => ?_⟩⟩
        have s6F := s6E.trans sF
        have sG := same_upd (o := .tup [.str e.1, .int (r2 : Nat), x, .int (r3 : Nat)]) (Same.refl HF) hc13
        have hG13 : SqT K (upd HF c13 (.tup [.str e.1, .int (r2 : Nat), x, .int (r3 : Nat)])) c13 [.str e.1, .int (r2 : Nat), x, .int (r3 : Nat)] := SqT.of upd_same
        generalize upd HF c13 (.tup [.str e.1, .int (r2 : Nat), x, .int (r3 : Nat)]) = HG at sG hG13 ⊢
        have s6G := s6F.trans sG
        have s8G := (s8B.trans sC).trans ((sD.trans sE).trans (sF.trans sG))
        have chG : ChangeAt K HG (.ref c13) e.1 (r2 : Nat) l (.int (r3 : Nat)) := ⟨c13, x, rfl, hG13, hxl⟩
        have dcG : Dp K HG (.ref c13) (.tuple [.str e.1, .int (r2 : Nat), l, .int (r3 : Nat)]) := .tup hG13 (.cons (.str _) (.cons (.int _) (.cons (letter_dp hxl) (.cons (.int _) .nil))))
        have lla := la.len
        refine ⟨_, rfl, _, rfl, _, rfl, d, L, _, _, tn, e, (r2 : Nat), l, .int (r3 : Nat), wd, ps, rfl, hT6.same s6G, la.text.same s8G, by omega, em, ed, kok.parts, by have := kok.few; omega, kok.w0, chG, fit_int fit, ?_⟩
        refine ite2 (fun can => ?_) (fun can => ?_)
        · intro b HH sH htH
          refine ⟨_, rfl, rfl, _, rfl, iteF ?_⟩
          have s6H := s6G.trans sH
          have s8H := s8G.trans sH
          have hkH := hk6.same s6H
          have hZH := hZ6.same s6H
          have ic := ok_change (pl := (r2 : Nat)) (h := r3) hkH em ed fit
          have g : GC K T.cKinds.c HH kp L (.ref th) (.ref c13) tn e (r2 : Nat) l (.int (r3 : Nat)) (.int (r3 : Nat)) wd ps := ⟨hkH, la.text.same s8H, by omega, em, ed, chG.same sH, .int _, dp_same sH dcG, ic, can⟩
          have ntn := nd_text la.nod
          refine ⟨_, rfl, _, rfl, _, rfl, kp, L, _, _, tn, e, (r2 : Nat), l, .int (r3 : Nat), .int (r3 : Nat), wd, ps, rfl, g, ntn, hZH, om, fun v14 HI sI hv14 => ?_⟩
          refine g_in ?_
          refine seq_joinE (R := Same HI) (fun N hN => ?ifs) (fun HJ sJ => ?_)
          case ifs =>
            have cases_v : (nbE L e.2.2 = none ∧ v14 = .non ∧ nbV L e.2.2 = .non) ∨ ∃ y a14 x14, nbE L e.2.2 = some y ∧ v14 = .ref a14 ∧ SqT K HI a14 [.str y.1, .int (r2 : Nat), x14, .int (r3 : Nat)] ∧ nbV L e.2.2 = .str y.1 ∧ Dp K HI v14 (.tuple [.str y.1, .int (r2 : Nat), lostD tn (r2 : Nat) wd ps, .int (r3 : Nat)]) := by
              unfold cbD at hv14
              unfold nbV
              cases nb : nbE L e.2.2 with
              | none =>
                rw [nb] at hv14
                cases hv14
                exact .inl ⟨rfl, rfl, rfl⟩
              | some y =>
                rw [nb] at hv14
                obtain ⟨a14, x14, e1, h1, _⟩ := cb_val hv14
                exact .inr ⟨y, a14, x14, rfl, e1, h1, rfl, hv14⟩
            refine ⟨_, rfl, rfl, _, rfl, _, rfl, kp, L, e, rfl, hkH.same sI, hZH.same sI, om, em, fun HJ sJ => ?_⟩
            rcases cases_v with ⟨nb, rfl, nv⟩ | ⟨y, a14, x14, nb, rfl, h14, nv, dv14⟩
            · rw [nv]
              refine ⟨rfl, rfl, _, rfl, iteF ⟨_, rfl, rfl, _, rfl, iteF (iteF (hN _ sJ))⟩⟩
            · rw [nv]
              refine ⟨rfl, rfl, _, rfl, iteF ⟨_, rfl, rfl, _, rfl, iteT ?_⟩⟩
              obtain ⟨ym, w', ps', ey, c1, c2, c3⟩ := back_step om em ed nb la.nod can fit
              have sHJ := sI.trans sJ
              refine ⟨_, rfl, a14, _, 3, _, rfl, rfl, sqT_same sJ h14, rfl, _, rfl, c13, _, 3, _, rfl, rfl, sqT_same (sH.trans sHJ) hG13, rfl, rfl, _, rfl, ?_⟩
              rw [decide_eq_true rfl]
              refine iteF ⟨_, rfl, a14, _, 0, _, rfl, rfl, sqT_same sJ h14, rfl, _, rfl, _, rfl, kp, L, e, rfl, hkH.same sHJ, hZH.same sHJ, om, em, fun HK sK => ?_⟩
              rw [nv]
              refine ⟨rfl, _, rfl, ?_⟩
              rw [decide_eq_true rfl]
              have sHK := sHJ.trans sK
              have b2 := behind_len2 (t := tn) (ps := ps) (l := l) (p := (r2 : Nat)) (by omega) kok.w0
              have := kok.few
              refine iteF ⟨_, rfl, _, rfl, _, rfl, done_one T (hkH.same sHK) (htH.same sHK) (behind_nodup me' la.nod can fit) (by omega) ym ey (dp_same (sJ.trans sK) dv14) (ok_change hkH ym ey c3) c1 fun v' HM sM hM => ⟨_, rfl, _, _, hM.dp, (la.text.same (s8H.trans (sHK.trans sM))).dp, shaped_text _, shaped_text _, _, rfl, ?_⟩⟩
              rw [c2, eqv_one (shaped_text _)]
              refine iteF ?_
              exact hN _ ((sJ.trans sK).trans sM)
          have sHJ := sI.trans sJ
          have gJ := g.same sHJ
          refine ⟨_, rfl, _, rfl, _, rfl, kp, L, _, _, tn, e, (r2 : Nat), l, .int (r3 : Nat), .int (r3 : Nat), wd, ps, rfl, gJ, ntn, fun v5 HK sK ⟨c5, x5', e5, h5, hx5⟩ => ?_⟩
          subst e5
          have sHK := sHJ.trans sK
          obtain ⟨tc1, tc2⟩ := turn_can me' can
          have ftn := fit_turn (w := wd) fit
          have nrev : tn.reverse.Nodup := nodup_rev la.nod
          have lrev : tn.reverse.length = tn.length := List.length_reverse
          -- done among the turned
          refine ⟨_, rfl, kp, L, rfl, hkH.same sHK, dr.turn, fun p1 M1 HL sL kn1 eM1 => ⟨_, rfl, th, _, rfl, .inr (sqT_same (s8H.trans (sHK.trans sL)) hth), fun l2 hl2 => ⟨l2, _, rfl, SqL.of upd_same, fun q2 hq2 => ?_⟩⟩⟩
          have sM := (same_upd (o := .lst (tn.map V.int)) (Same.refl HL) hl2).trans (same_upd (o := .tup (tn.map V.int).reverse) (Same.refl _) hq2)
          have tM : TextAt K (upd (upd HL l2 (.lst (tn.map V.int))) q2 (.tup (tn.map V.int).reverse)) (.ref q2) tn.reverse := text_rev
          generalize upd (upd HL l2 (.lst (tn.map V.int))) q2 (.tup (tn.map V.int).reverse) = HM at sM tM ⊢
          obtain ⟨y1, hy1, en1, ek1⟩ := turned_mem eM1 em ed
          have sKM := sL.trans sM
          obtain ⟨ch5, dc5⟩ := ch_of (sqT_same sKM h5) hx5
          have kM := kn1.at_.same sM
          have dc5' := dc5
          rw [← en1] at dc5'
          refine ⟨_, rfl, done_one T kM tM nrev (by omega) hy1 ek1 dc5' (ok_change kM hy1 ek1 ftn) tc1 fun v' HN sN hN' => ?_⟩
          rw [tc2] at hN'
          have sHN := sHK.trans (sKM.trans sN)
          obtain ⟨b', eb', hb⟩ := id htH
          cases eb'
          refine ⟨_, rfl, b, _, rfl, .inr (sqT_same sHN hb), fun l3 hl3 => ⟨l3, _, rfl, SqL.of upd_same, fun q3 hq3 => ?_⟩⟩
          have sO := (same_upd (o := .lst ((behindD tn ps wd (r2 : Nat) l).map V.int)) (Same.refl HN) hl3).trans (same_upd (o := .tup ((behindD tn ps wd (r2 : Nat) l).map V.int).reverse) (Same.refl _) hq3)
          have tO : TextAt K (upd (upd HN l3 (.lst ((behindD tn ps wd (r2 : Nat) l).map V.int))) q3 (.tup ((behindD tn ps wd (r2 : Nat) l).map V.int).reverse)) (.ref q3) (behindD tn ps wd (r2 : Nat) l).reverse := text_rev
          generalize upd (upd HN l3 (.lst ((behindD tn ps wd (r2 : Nat) l).map V.int))) q3 (.tup ((behindD tn ps wd (r2 : Nat) l).map V.int).reverse) = HO1 at sO tO ⊢
          refine ⟨_, _, (hN'.same sO).dp, tO.dp, shaped_text _, shaped_text _, _, rfl, ?_⟩
          rw [eqv_one (shaped_text _)]
          refine iteF ?_
          have sHO := sHN.trans sO
          have sKO := (sKM.trans sN).trans sO
          have h5O := sqT_same sKO h5
          have h13O := sqT_same (sH.trans sHO) hG13
          -- letters and hands as they were
          refine ⟨_, rfl, 2, rfl, c5, _, rfl, h5O, (fun z => absurd (show (2 : Nat) = 0 from z.1) (by decide)), fun _ q4 hq4 => ?_⟩
          have c4 : cutV [V.str e.1, V.int ((tn.length : Int) - (r2 : Nat) - wd), x5', V.int (r3 : Nat)] (some 2) none = [x5', .int (r3 : Nat)] := rfl
          rw [c4]
          have s4 := same_upd (o := .tup [x5', .int (r3 : Nat)]) (Same.refl HO1) hq4
          have t4 : SqT K (upd HO1 q4 (.tup [x5', .int (r3 : Nat)])) q4 [x5', .int (r3 : Nat)] := SqT.of upd_same
          generalize upd HO1 q4 (.tup [x5', .int (r3 : Nat)]) = HP at s4 t4 ⊢
          refine ⟨_, rfl, 2, rfl, c13, _, rfl, sqT_same s4 h13O, (fun z => absurd (show (2 : Nat) = 0 from z.1) (by decide)), fun _ q5 hq5 => ?_⟩
          have c5 : cutV [V.str e.1, V.int (r2 : Nat), x, V.int (r3 : Nat)] (some 2) none = [x, .int (r3 : Nat)] := rfl
          rw [c5]
          have s5' := same_upd (o := .tup [x, .int (r3 : Nat)]) (Same.refl HP) hq5
          have t5 : SqT K (upd HP q5 (.tup [x, .int (r3 : Nat)])) q5 [x, .int (r3 : Nat)] := SqT.of upd_same
          generalize upd HP q5 (.tup [x, .int (r3 : Nat)]) = HR at s5' t5 ⊢
          have t4' := sqT_same s5' t4
          refine ⟨.tuple [l, .int (r3 : Nat)], .tuple [l, .int (r3 : Nat)], .tup t4' (.cons (letter_dp hx5) (.cons (.int _) .nil)), .tup t5 (.cons (letter_dp hxl) (.cons (.int _) .nil)), tail_shape hxl, tail_shape hxl, _, rfl, ?_⟩
          rw [eqv_one (tail_shape hxl)]
          refine iteF ?_
          have sOR := s4.trans s5'
          have h5R := sqT_same sOR h5O
          refine ⟨_, rfl, _, _, 0, _, rfl, rfl, h5R, rfl, _, rfl, rfl, _, rfl, ?_⟩
          rw [decide_eq_true rfl]
          refine iteF ?_
          -- turned back
          have sHR := sHO.trans sOR
          refine ⟨_, rfl, kp, L, rfl, hkH.same sHR, dr.turn, fun p2 M2 HS sS kn2 eM2 => ⟨_, rfl, th, _, rfl, .inr (sqT_same (s8H.trans (sHR.trans sS)) hth), fun l6 hl6 => ⟨l6, _, rfl, SqL.of upd_same, fun q6 hq6 => ?_⟩⟩⟩
          have sT := (same_upd (o := .lst (tn.map V.int)) (Same.refl HS) hl6).trans (same_upd (o := .tup (tn.map V.int).reverse) (Same.refl _) hq6)
          have tT : TextAt K (upd (upd HS l6 (.lst (tn.map V.int))) q6 (.tup (tn.map V.int).reverse)) (.ref q6) tn.reverse := text_rev
          generalize upd (upd HS l6 (.lst (tn.map V.int))) q6 (.tup (tn.map V.int).reverse) = HT at sT tT ⊢
          obtain ⟨y2, hy2, en2, ek2⟩ := turned_mem eM2 em ed
          obtain ⟨ch6, dc6⟩ := ch_of (sqT_same (sS.trans sT) h5R) hx5
          have kT := kn2.at_.same sT
          rw [← en2] at ch6 dc6
          have g2 : GC K T.cKinds.c HT p2 M2 (.ref q6) (.ref _) tn.reverse y2 ((tn.length : Int) - (r2 : Nat) - wd) l (.int (r3 : Nat)) (.int (r3 : Nat)) wd (turnRow wd ps) := ⟨kT, tT, by omega, hy2, ek2, ch6, .int _, dc6, ok_change kT hy2 ek2 ftn, tc1⟩
          refine ⟨_, rfl, p2, M2, _, _, tn.reverse, y2, _, l, .int (r3 : Nat), .int (r3 : Nat), wd, turnRow wd ps, rfl, g2, nd_text nrev, fun v7 HU sU ⟨c7, x7, e7, h7, hx7⟩ => ?_⟩
          subst e7
          have ep : ((tn.reverse.length : Nat) : Int) - ((tn.length : Int) - (r2 : Nat) - wd) - wd = (r2 : Nat) := by rw [lrev]; omega
          rw [ep, en2] at h7
          have sRU := (sS.trans sT).trans sU
          have sHU := sHR.trans sRU
          have dcU := dp_same (sH.trans sHU) dcG
          have shc : SeqAt.shaped (.tuple [.str e.1, .int (r2 : Nat), l, .int (r3 : Nat)]) = true := shaped_el (fit_ch (h := (r3 : Nat)) (pl := (r2 : Nat)) (menu_strOk me) fit).shape
          refine ⟨_, rfl, _, _, (ch_of h7 hx7).2, dcU, shc, shc, _, rfl, ?_⟩
          rw [eqv_one shc]
          refine iteF ?_
          have s8U := s8H.trans sHU
          have h8U := s8U _ _ la.h8
          have h10U := s8U _ _ la.h10
          have hvU := dp_same ((sJ.trans sK).trans (sKO.trans (sOR.trans sRU))) hv14
          have lU : LoopAt K L (textS r) H6 c8 c10 i HU (.ref th) tn vs ds ws bs := ⟨la.same.trans s8U, la.text.same s8U, la.nod, la.len, h8U, h10U, dpAll_same s8U la.ad, dpAll_same s8U la.ab, la.cd, la.cb, la.ld, la.lb, la.okd, la.run, la.bk, la.way⟩
          have lM := LoopAt.more lU (hk6.same (s8.trans s8U)) hc8 n10 ne om em ed fit can dcU hvU (htH.same sHU)
          have lld := la.ld
          have llb := la.lb
          refine ⟨_, rfl, .inl ⟨rfl, _, SqL.of h8U⟩, _, rfl, c8, vs, _, rfl, rfl, h8U, by rw [all_len la.ad]; exact small1000 (by omega), ?_⟩
          have u10 : upd HU c8 (.lst (vs ++ [.ref c13])) c10 = some (.lst ws) := by rw [upd_ne ne]; exact h10U
          refine ⟨_, rfl, .inl ⟨rfl, _, SqL.of u10⟩, _, rfl, c10, ws, _, rfl, rfl, u10, by rw [all_len la.ab]; exact small1000 (by omega), ?_⟩
          exact ⟨_, rfl, _, _, _, _, _, _, _, _, _, _, _, _, _, _, rfl, lM⟩
        · refine ⟨_, rfl, rfl, _, rfl, iteT ?_⟩
          exact ⟨_, _, _, _, _, _, _, _, _, _, _, _, _, _, rfl, la.next s8G⟩
      case after2 =>
        rintro σ H8 ⟨x3, x4, x5, x6, hv, x11, x12, x13, x14, tn, vs, ds, ws, bs, rfl, la⟩
        have s8 := la.same
        have lld := la.ld
        have llb := la.lb
        have lln := la.len
        have bkL : backsZ L (textS r) ds = bs := la.bk.symm
        have shb : SeqAt.shaped (.list bs) = true := shaped_all fun b m => (la.cb b m).shape
        have shr : SeqAt.shaped (.list bs.reverse) = true := shaped_all fun b m => (la.cb b (List.mem_reverse.mp m)).shape
        refine ⟨_, rfl, _, rfl, tif_join (R := fun v H' => Same H8 H' ∧ SeqD K H' v ds) (fun Q1 q1 => ?seqv) ?_⟩
        case seqv =>
          refine ⟨_, rfl, a, 60, 2, ns, rfl, s8.seq hs6, hl, by decide, by decide, by decide, fun r9 H9 s9 r9l => ⟨rfl, _, rfl, ite2 (fun c => ?_) (fun c => ?_)⟩⟩
          · exact ⟨_, rfl, q1 _ _ ⟨s9, .list ds, .lst (SqL.of (s9 _ _ la.h8)) (dpAll_same s9 la.ad), .inl rfl⟩⟩
          · exact ⟨_, rfl, c8, vs, rfl, .inl ⟨SqL.of (s9 _ _ la.h8), fun l hl => q1 _ _ ⟨s9.trans (same_upd (Same.refl _) hl), .tuple ds, .tup (SqT.of upd_same) (dpAll_same (s9.trans (same_upd (Same.refl _) hl)) la.ad), .inr rfl⟩⟩⟩
        rintro vq H9 ⟨s9, hsd⟩
        have s69 := s8.trans s9
        refine ⟨kp, _, vq, L, textS r, tn, ds, rfl, hk6.same s69, hZ6.same s69, om, hx6.same s69, nd_text nt0, by omega, hsd, by omega, badC_none la.okd, la.run, fun v15 HA sA h15 => ?_⟩
        have s8A := s9.trans sA
        have s6A := s69.trans sA
        have h10A := s8A _ _ la.h10
        have anyN : (bs.any fun z => PyData.eqv z .none) = bs.any noneD := any_same fun b m => (la.cb b m).isNone
        have cases_f : (bs.any noneD = true ∧ v15 = .non ∧ lbD L (textS r) ds = .none) ∨ (bs.any noneD = false ∧ (∃ a15, v15 = .ref a15) ∧ lbD L (textS r) ds = .list bs.reverse) := by
          unfold lbD at h15 ⊢
          rw [bkL] at h15 ⊢
          cases c : bs.any noneD with
          | true =>
            rw [c, if_pos rfl] at h15
            cases h15
            exact .inl ⟨rfl, rfl, if_pos rfl⟩
          | false =>
            rw [c, if_neg Bool.false_ne_true] at h15
            cases h15
            exact .inr ⟨rfl, ⟨_, rfl⟩, if_neg Bool.false_ne_true⟩
        refine g_in ?_
        refine seq_joinE (R := Same HA) (fun N hN => ?ifs2) (fun HB sB => ?_)
        case ifs2 =>
          refine ⟨_, rfl, rfl, _, rfl, .none, bs, .non, .lst (SqL.of h10A) (dpAll_same s8A la.ab), by decide +kernel, shb, rfl, _, rfl, ?_⟩
          rw [anyN]
          rcases cases_f with ⟨c, rfl, el⟩ | ⟨c, ⟨a15, rfl⟩, el⟩
          · rw [c]
            exact iteF ⟨_, rfl, rfl, _, rfl, iteF (iteF (hN _ (Same.refl _)))⟩
          · rw [c]
            rw [el] at h15
            refine iteF ⟨_, rfl, rfl, _, rfl, iteT ?_⟩
            refine ⟨_, rfl, _, rfl, c10, ws, rfl, .inl (SqL.of h10A), fun l1 hl1 => ⟨l1, _, rfl, SqL.of upd_same, fun l2 hl2 => ?_⟩⟩
            have sB := (same_upd (o := .lst ws) (Same.refl HA) hl1).trans (same_upd (o := .lst ws.reverse) (Same.refl _) hl2)
            have dB : Dp K (upd (upd HA l1 (.lst ws)) l2 (.lst ws.reverse)) (.ref l2) (.list bs.reverse) := .lst (SqL.of upd_same) (dpAll_same sB (dpAll_rev (dpAll_same s8A la.ab)))
            generalize upd (upd HA l1 (.lst ws)) l2 (.lst ws.reverse) = HB at sB dB ⊢
            refine ⟨_, _, dp_same sB h15, dB, shr, shr, _, rfl, ?_⟩
            rw [eqv_one shr]
            obtain ⟨w1, w2⟩ := la.way c
            have s8B := s8A.trans sB
            refine iteF ⟨_, rfl, _, rfl, _, rfl, _, _, _, rfl, .inr ⟨kp, L, rfl, hk6.same (s6A.trans sB), .inr ⟨tn, la.text.same s8B, nd_text la.nod, by omega, .inr ⟨bs.reverse, ⟨_, dp_same sB h15, .inl rfl⟩, by rw [List.length_reverse]; omega, ?_⟩⟩⟩⟩
            rw [badC_none fun b m => w2 b (List.mem_reverse.mp m), w1]
            refine fun v' HC sC hC => ⟨_, rfl, _, _, hC.dp, (hx6.same ((s6A.trans sB).trans sC)).dp, shaped_text _, shaped_text _, _, rfl, ?_⟩
            rw [eqv_one (shaped_text _)]
            exact iteF (hN _ (sB.trans sC))
        refine ⟨_, rfl, kp, L, rfl, hk6.same (s6A.trans sB), dr.turn, fun p1 M1 HC sC kn1 eM1 => ?_⟩
        have s6B := s6A.trans sB
        have hTB := hT6.same s6B
        have hTC := hTB.same sC
        have hZC := hZ6.same (s6B.trans sC)
        refine ⟨d, _, hTC.at_, by trivial, fun od2 => ?_⟩
        have lk2 : upd HC d (.frz od2 (.dK (kvsT L))) d = some (.frz od2 (.dK (kvsT L))) := upd_same
        refine ⟨_, rfl, d, od2, rfl, .inl ⟨kvsT L, lk2, ?_⟩⟩
        refine for_it walk_keys (fun i σ H4 => (∃ x3 x16 x17, σ = [some (.ref a), some (.ref d), some (.ref kp), x3, some (.ref p1), x5, x6, some (.ref tx), some (.ref c8), some hv, some (.ref c10), x11, x12, x13, x14, some v15, x16, x17, none]) ∧ Same (upd HC d (.frz od2 (.dK (kvsT L)))) H4)
          ⟨⟨_, _, _, rfl⟩, Same.refl _⟩ (fun i σ H4 _ p => p.2 _ _ lk2) ?turn3 ?after3
        case turn3 =>
          have hkL : KindsAt K T.cKinds.c (upd HC d (.frz od2 (.dK (kvsT L)))) p1 M1 := kn1.lock hTB.at_ hTC.at_
          have hZL : EntsZ K (upd HC d (.frz od2 (.dK (kvsT L)))) L := hZC.dk hTC.at_
          generalize upd HC d (.frz od2 (.dK (kvsT L))) = HL at lk2 hkL hZL ⊢
          rintro i x σ H4 H4' hi ⟨⟨x3, x16, x17, rfl⟩, s4⟩ ⟨rfl, k, v, hkv, rfl⟩
          have hkv : (L.map fun e : Ent => ((Sum.inr e.1 : Key), e.2.1))[i]? = some (k, v) := hkv
          rw [List.getElem?_map] at hkv
          obtain ⟨e, he, ek⟩ := Option.map_eq_some_iff.mp hkv
          cases ek
          have em : e ∈ L := List.mem_of_getElem? he
          obtain ⟨wd, ps, ed, kz⟩ := hZL e em
          have me := om e em
          have me' := me
          rw [ed] at me'
          have kok := kok_of me'
          have parts := kok.parts
          have few3 := kok.few
          obtain ⟨ka, kb, xs, rx, h1, h2, h3⟩ := kind_val (kz.same s4).dp
          have lx := all_len h3
          have hg := frz_get (s4 _ _ lk2) nd em
          rw [rx] at hg
          obtain ⟨y1, hy1, en1, ek1⟩ := turned_mem eM1 em ed
          have hk4 := hkL.same s4
          obtain ⟨dx1, D1, hp1, hD1, hg1⟩ := id hk4
          have fe := findE_of hD1.ok.nd hy1
          rw [en1] at fe
          refine ⟨_, rfl, _, rfl, d, _, rfl, hg, ka, _, rfl, h1, rfl, _, _, rfl, _, _, rfl, rfl, ?_⟩
          refine ⟨_, rfl, _, rfl, p1, dx1, _, rfl, hp1, p1, _, .str e.1, M1, rfl, hk4, .str _, fun y ey => ?_, fun z => by rw [fe] at z; cases z⟩
          rw [fe] at ey
          cases ey
          have dpy := hD1.ok.dp y1 hy1
          have shy := shaped_el (hD1.ok.sh y1 hy1)
          rw [ek1] at dpy shy
          refine ⟨_, rfl, _, rfl, kb, xs, rfl, .inr h2, fun l1 hl1 => ⟨l1, xs, rfl, .inl ⟨SqL.of upd_same, fun D hD => ?_⟩⟩⟩
          have sA := same_upd (o := .lst xs) (Same.refl H4') hl1
          have hlA : upd H4' l1 (.lst xs) l1 = some (.lst xs) := upd_same
          generalize upd H4' l1 (.lst xs) = HE at sA hlA hD ⊢
          refine lc_rel (i := 18) (K := K) (walk_rev (K := K) (a := l1) (xs := xs)) (fun j d => ∃ e, ps.reverse[j]? = some e ∧ d = turnPart wd e) (fun H2 s2 => SqL.of (s2 _ _ hlA)) hD (by omega) (fun _ => rfl) ?elt3 ?done3
          case elt3 =>
            rintro j x H2 H2' hj s2 ⟨rfl, gx⟩
            refine ⟨Same.refl _, fun Q1 q1 => ?_⟩
            obtain ⟨d3, hd3, hdx⟩ := all_at (dpAll_same (sA.trans s2) h3) _ x gx
            have gd : ps.reverse[j]? = some d3 := by rw [List.getElem?_reverse (by omega), ← lx]; exact hd3
            have pd := List.all_eq_true.mp parts d3 (List.mem_of_getElem? hd3)
            cases hdx with
            | str z =>
              have en : z = "new" := of_decide_eq_true pd
              subst en
              refine ⟨_, rfl, rfl, _, rfl, iteT ⟨_, rfl, q1 _ (.str "new") _ (Same.refl _) (.str _) ⟨_, gd, rfl⟩ rfl⟩⟩
            | int k => exact ⟨_, rfl, rfl, _, rfl, iteF ⟨_, rfl, _, _, rfl, rfl, _, rfl, _, _, rfl, rfl, q1 _ (.int (wd - 1 - k)) _ (Same.refl _) (.int _) ⟨_, gd, rfl⟩ rfl⟩⟩
            | non => simp [isPartD] at pd
            | bl b => simp [isPartD] at pd
            | lst a b => simp [isPartD] at pd
            | tup a b => simp [isPartD] at pd
          case done3 =>
            intro H2 vs2 ds2 s2 hD2 ha2 hl2 hr2
            have ed2 : ds2 = turnRow wd ps := by
              unfold turnRow
              refine List.ext_getElem? fun j => ?_
              by_cases hj : j < ps.length
              · have e1 : ds2[j]? = some (ds2[j]'(by omega)) := List.getElem?_eq_getElem (by omega)
                obtain ⟨e, he, e2⟩ := hr2 j _ e1
                rw [e1, e2, List.getElem?_map, he]
                rfl
              · rw [List.getElem?_eq_none (by omega), List.getElem?_eq_none (by rw [List.length_map, List.length_reverse]; omega)]
            subst ed2
            refine ⟨D, vs2, rfl, .inl ⟨SqL.of hD2, fun l hl => ⟨by show 2 ≤ sizeLine; decide, fun p2 hp2 => ?_⟩⟩⟩
            have s3 := same_upd (o := .tup vs2) (Same.refl H2) hl
            have hl3 : upd H2 l (.tup vs2) l = some (.tup vs2) := upd_same
            generalize upd H2 l (.tup vs2) = H3' at s3 hl3 hp2 ⊢
            have s4' := same_upd (o := .tup [.int wd, .ref l]) (Same.refl H3') hp2
            have sAll := ((sA.trans s2).trans s3).trans s4'
            refine ⟨kindD wd (turnRow wd ps), kindD wd (turnRow wd ps), dp_same sAll dpy, .tup (SqT.of upd_same) (.cons (.int _) (.cons (.tup (SqT.of (s4' _ _ hl3)) (dpAll_same (s3.trans s4') ha2)) .nil)), shy, shy, _, rfl, ?_⟩
            rw [eqv_one shy]
            exact iteF ⟨⟨_, _, _, rfl⟩, s4.trans sAll⟩
        case after3 =>
          rintro σ H4 ⟨⟨x3, x16, x17, rfl⟩, s4⟩
          refine ⟨s4 _ _ lk2, ?_⟩
          have sD := unlock_same hTC.at_ s4
          generalize upd H4 d (.dK (kvsT L)) = HD at sD ⊢
          clear s4 lk2
          have sBD := sC.trans sD
          have s6D := s6B.trans sBD
          have kn1D := kn1.at_.same sD
          refine ⟨_, rfl, p1, M1, rfl, kn1D, by rw [eM1, dr.turn2]; exact dr.good, fun p3 M3 HE sE kn3 eM3 => ?_⟩
          have s6E := s6D.trans sE
          have s8E := s8A.trans (sB.trans (sBD.trans sE))
          have hkE := hk6.same s6E
          have hZE := hZ6.same s6E
          obtain ⟨dx3, D3, hp3, _⟩ := id kn3.at_
          obtain ⟨dxk, Dk, hkpE, _⟩ := id hkE
          refine ⟨_, rfl, p3, dx3, _, rfl, hp3, TyB.same hkpE, p3, kp, M3, L, rfl, kn3.at_, hkE, by rw [eM3, eM1, dr.turn2], true, rfl, _, rfl, iteT ?_⟩
          refine ⟨_, rfl, _, rfl, by show 0 ≤ sizeLine; decide, fun l7 hl7 => ?_⟩
          have sF := same_upd (o := .lst []) (Same.refl HE) hl7
          have d7 : Dp K (upd HE l7 (.lst [])) (.ref l7) (.list []) := .lst (SqL.of upd_same) .nil
          generalize upd HE l7 (.lst []) = HF at sF d7 ⊢
          have s6F := s6E.trans sF
          refine ⟨kp, _, _, L, textS r, textS r, [], rfl, hk6.same s6F, hZ6.same s6F, om, hx6.same s6F, nd_text nt0, by omega, ⟨_, d7, .inl rfl⟩, by show 0 ≤ 6; decide, rfl, rfl, fun v8 HG sG h8 => ⟨by show 0 ≤ sizeLine; decide, fun l9 hl9 => ?_⟩⟩
          have sI := same_upd (o := .lst []) (Same.refl HG) hl9
          refine ⟨.list [], .list [], dp_same sI h8, .lst (SqL.of upd_same) .nil, by decide +kernel, by decide +kernel, _, rfl, ?_⟩
          rw [eqv_nil (b := .none)]
          refine iteT ?_
          generalize upd HG l9 (.lst []) = HI at sI ⊢
          have sEI := (sF.trans sG).trans sI
          have s6I := s6E.trans sEI
          have s8I := s8E.trans sEI
          refine ⟨_, rfl, .none, bs, .non, .lst (SqL.of (s8I _ _ la.h10)) (dpAll_same s8I la.ab), by decide +kernel, shb, _, rfl, ?_⟩
          rw [anyN]
          rcases cases_f with ⟨c, rfl, el⟩ | ⟨c, ⟨a15, rfl⟩, el⟩
          · rw [c]
            exact iteT (q _)
          · rw [c]
            rw [el] at h15
            refine iteF ⟨_, rfl, _, rfl, by show 1 ≤ sizeLine; decide, fun b1 hb1 => ?_⟩
            have sJ := same_upd (o := .lst [.non]) (Same.refl HI) hb1
            have hbJ : upd HI b1 (.lst [.non]) b1 = some (.lst [.non]) := upd_same
            generalize upd HI b1 (.lst [.non]) = HJ at sJ hbJ ⊢
            have s8J := s8I.trans sJ
            refine ⟨_, rfl, b1, c8, _, vs, rfl, rfl, hbJ, s8J _ _ la.h8, by rw [all_len la.ad]; exact small (by show 1 + _ ≤ 1000; omega), fun p5 hp5 => ?_⟩
            have sK := same_upd (o := .lst ([.non] ++ vs)) (Same.refl HJ) hp5
            have dK : Dp K (upd HJ p5 (.lst ([.non] ++ vs))) (.ref p5) (.list (.none :: ds)) := .lst (SqL.of upd_same) (.cons .non (dpAll_same (s8J.trans sK) la.ad))
            generalize upd HJ p5 (.lst ([.non] ++ vs)) = HK at sK dK ⊢
            have s6K := s6I.trans (sJ.trans sK)
            refine ⟨kp, _, _, L, textS r, tn, .none :: ds, rfl, hk6.same s6K, hZ6.same s6K, om, hx6.same s6K, nd_text nt0, by omega, ⟨_, dK, .inl rfl⟩, by rw [List.length_cons]; omega, badC_none fun d m => (List.mem_cons.mp m).elim (fun z => by rw [z]; rfl) (la.okd d), (runD_some (r := ds) rfl).trans (run_any la.run), fun v9 HM sM h9 => ?_⟩
            have h9 : Dp K HM v9 (lbD L (textS r) ds) := h9
            rw [el] at h9
            have sAM := (sB.trans sBD).trans (((sE.trans sEI).trans (sJ.trans sK)).trans sM)
            refine ⟨_, rfl, _, _, h9, dp_same sAM h15, shr, shr, ?_⟩
            rw [eqv_one shr]
            exact q _
end
end K41

end

section
set_option Elab.async false
set_option linter.all false
set_option maxRecDepth 100000
/-! The end. -/
namespace K41
open PySem PySem.Spec PyProof.Rows L2 KX
theorem end_of {l : PySem.W.OpenLaw} {w : PySem.World} {K : PySem.W.Frag} {mg : PySem.Str → Option PySem.Value} {fa : PySem.Addr} {h : PySem.Heap} (T : K41.Top K mg) (hmg : mg "law" = some (.ref fa)) : LamX.LawAtS l w K L2.CX0 24 63 "script" mg fa h := by
  have ea : T.law_.a = fa := by
    have := T.law_.m
    rw [hmg] at this
    exact (Value.ref.inj (Option.some.inj this)).symm
  refine ⟨T.law_.d, [], spLaw K, (fun p m => by cases m), (fun p m => by cases m), (fun p m => by cases m), ?_, ?_, ?_⟩
  · intro s u
    obtain ⟨oc, od, kV, doc, pm, an, cdv, ct, osl, efd, lk, hcd⟩ := T.law_.f.ex
    rw [efd]
    exact BindsTo.of_eq rfl
  · intro H a ns hn hb ht hs
    exact ⟨a, ns, rfl, hs, hn, fun _ => rfl⟩
  · intro base _ _ hT
    rw [← ea]
    exact ok_law T
end K41

end

section
set_option maxHeartbeats 8000000
set_option Elab.async false
set_option linter.all false
set_option maxRecDepth 100000
namespace K41
open PySem PySem.Spec PyProof.Rows L2 KX
theorem kit_of {K : PySem.W.Frag} {t : Value} {C : Addr} {b : Bool} (hc : PySem.W.isClsIn K C = true) (ht : PySem.W.typeIn K (.ref C) = some (.type "type")) (hs : PySem.W.subIn K t (.ref C) = some b) (ne : b = false → (t == Value.ref C) = false) : PySem.W.kitOne K t (.ref C) = some b := by
  unfold PySem.W.kitOne PySem.W.kitCls
  by_cases e : (t == Value.ref C) = true
  · rw [if_pos e]
    cases b
    · rw [ne rfl] at e
      cases e
    · rfl
  · rw [if_neg e]
    have hc : (PySem.W.clsIn K C).isSome = true := hc
    show (if _ then _ else _) = _
    rw [if_pos, hs]
    rw [ht, hc]
    rfl
def top_of {K : PySem.W.Frag} {mg : Str → Option Value} {hp : Heap} (X : K.In hp) (G : hp.Ns mainGlobals mg)
    {f__wall : Addr} {oc__wall kv__wall dc__wall pm__wall cd__wall ct__wall : Value} {od__wall an__wall : Option Addr} {sl__wall : Array (Option Value)}
    {f_check_kinds : Addr} {oc_check_kinds kv_check_kinds dc_check_kinds pm_check_kinds cd_check_kinds ct_check_kinds : Value} {od_check_kinds an_check_kinds : Option Addr} {sl_check_kinds : Array (Option Value)}
    {f_needs_letter : Addr} {oc_needs_letter kv_needs_letter dc_needs_letter pm_needs_letter cd_needs_letter ct_needs_letter : Value} {od_needs_letter an_needs_letter : Option Addr} {sl_needs_letter : Array (Option Value)}
    {f_is_whole : Addr} {oc_is_whole kv_is_whole dc_is_whole pm_is_whole cd_is_whole ct_is_whole : Value} {od_is_whole an_is_whole : Option Addr} {sl_is_whole : Array (Option Value)}
    {f_has_names : Addr} {oc_has_names kv_has_names dc_has_names pm_has_names cd_has_names ct_has_names : Value} {od_has_names an_has_names : Option Addr} {sl_has_names : Array (Option Value)}
    {f_is_name : Addr} {oc_is_name kv_is_name dc_is_name pm_is_name cd_is_name ct_is_name : Value} {od_is_name an_is_name : Option Addr} {sl_is_name : Array (Option Value)}
    {f_is_kind : Addr} {oc_is_kind kv_is_kind dc_is_kind pm_is_kind cd_is_kind ct_is_kind : Value} {od_is_kind an_is_kind : Option Addr} {sl_is_kind : Array (Option Value)}
    {f_is_row : Addr} {oc_is_row kv_is_row dc_is_row pm_is_row cd_is_row ct_is_row : Value} {od_is_row an_is_row : Option Addr} {sl_is_row : Array (Option Value)}
    {f_is_part : Addr} {oc_is_part kv_is_part dc_is_part pm_is_part cd_is_part ct_is_part : Value} {od_is_part an_is_part : Option Addr} {sl_is_part : Array (Option Value)}
    {f_done : Addr} {oc_done kv_done dc_done pm_done cd_done ct_done : Value} {od_done an_done : Option Addr} {sl_done : Array (Option Value)}
    {f_done_all : Addr} {oc_done_all kv_done_all dc_done_all pm_done_all cd_done_all ct_done_all : Value} {od_done_all an_done_all : Option Addr} {sl_done_all : Array (Option Value)}
    {f_can_do : Addr} {oc_can_do kv_can_do dc_can_do pm_can_do cd_can_do ct_can_do : Value} {od_can_do an_can_do : Option Addr} {sl_can_do : Array (Option Value)}
    {f_text_behind : Addr} {oc_text_behind kv_text_behind dc_text_behind pm_text_behind cd_text_behind ct_text_behind : Value} {od_text_behind an_text_behind : Option Addr} {sl_text_behind : Array (Option Value)}
    {f_check_text : Addr} {oc_check_text kv_check_text dc_check_text pm_check_text cd_check_text ct_check_text : Value} {od_check_text an_check_text : Option Addr} {sl_check_text : Array (Option Value)}
    {f_check_changes : Addr} {oc_check_changes kv_check_changes dc_check_changes pm_check_changes cd_check_changes ct_check_changes : Value} {od_check_changes an_check_changes : Option Addr} {sl_check_changes : Array (Option Value)}
    {f_is_text : Addr} {oc_is_text kv_is_text dc_is_text pm_is_text cd_is_text ct_is_text : Value} {od_is_text an_is_text : Option Addr} {sl_is_text : Array (Option Value)}
    {f_is_change : Addr} {oc_is_change kv_is_change dc_is_change pm_is_change cd_is_change ct_is_change : Value} {od_is_change an_is_change : Option Addr} {sl_is_change : Array (Option Value)}
    {f_taken_back : Addr} {oc_taken_back kv_taken_back dc_taken_back pm_taken_back cd_taken_back ct_taken_back : Value} {od_taken_back an_taken_back : Option Addr} {sl_taken_back : Array (Option Value)}
    {f_kind_back : Addr} {oc_kind_back kv_kind_back dc_kind_back pm_kind_back cd_kind_back ct_kind_back : Value} {od_kind_back an_kind_back : Option Addr} {sl_kind_back : Array (Option Value)}
    {f_list_back : Addr} {oc_list_back kv_list_back dc_list_back pm_list_back cd_list_back ct_list_back : Value} {od_list_back an_list_back : Option Addr} {sl_list_back : Array (Option Value)}
    {f_turned_kinds : Addr} {oc_turned_kinds kv_turned_kinds dc_turned_kinds pm_turned_kinds cd_turned_kinds ct_turned_kinds : Value} {od_turned_kinds an_turned_kinds : Option Addr} {sl_turned_kinds : Array (Option Value)}
    {f_turned : Addr} {oc_turned kv_turned dc_turned pm_turned cd_turned ct_turned : Value} {od_turned an_turned : Option Addr} {sl_turned : Array (Option Value)}
    {f_check_one : Addr} {oc_check_one kv_check_one dc_check_one pm_check_one cd_check_one ct_check_one : Value} {od_check_one an_check_one : Option Addr} {sl_check_one : Array (Option Value)}
    {f_change_back : Addr} {oc_change_back kv_change_back dc_change_back pm_change_back cd_change_back ct_change_back : Value} {od_change_back an_change_back : Option Addr} {sl_change_back : Array (Option Value)}
    {f_name_back : Addr} {oc_name_back kv_name_back dc_name_back pm_name_back cd_name_back ct_name_back : Value} {od_name_back an_name_back : Option Addr} {sl_name_back : Array (Option Value)}
    {f_turned_back : Addr} {oc_turned_back kv_turned_back dc_turned_back pm_turned_back cd_turned_back ct_turned_back : Value} {od_turned_back an_turned_back : Option Addr} {sl_turned_back : Array (Option Value)}
    {f_lost_numbers : Addr} {oc_lost_numbers kv_lost_numbers dc_lost_numbers pm_lost_numbers cd_lost_numbers ct_lost_numbers : Value} {od_lost_numbers an_lost_numbers : Option Addr} {sl_lost_numbers : Array (Option Value)}
    {f_turned_kind : Addr} {oc_turned_kind kv_turned_kind dc_turned_kind pm_turned_kind cd_turned_kind ct_turned_kind : Value} {od_turned_kind an_turned_kind : Option Addr} {sl_turned_kind : Array (Option Value)}
    {f__law_draw : Addr} {oc__law_draw kv__law_draw dc__law_draw pm__law_draw cd__law_draw ct__law_draw : Value} {od__law_draw an__law_draw : Option Addr} {sl__law_draw : Array (Option Value)}
    {f__law_all_kinds : Addr} {oc__law_all_kinds kv__law_all_kinds dc__law_all_kinds pm__law_all_kinds cd__law_all_kinds ct__law_all_kinds : Value} {od__law_all_kinds an__law_all_kinds : Option Addr} {sl__law_all_kinds : Array (Option Value)}
    {f__law_some_kinds : Addr} {oc__law_some_kinds kv__law_some_kinds dc__law_some_kinds pm__law_some_kinds cd__law_some_kinds ct__law_some_kinds : Value} {od__law_some_kinds an__law_some_kinds : Option Addr} {sl__law_some_kinds : Array (Option Value)}
    {f__law_behind : Addr} {oc__law_behind kv__law_behind dc__law_behind pm__law_behind cd__law_behind ct__law_behind : Value} {od__law_behind an__law_behind : Option Addr} {sl__law_behind : Array (Option Value)}
    {f__law_back : Addr} {oc__law_back kv__law_back dc__law_back pm__law_back cd__law_back ct__law_back : Value} {od__law_back an__law_back : Option Addr} {sl__law_back : Array (Option Value)}
    {f_law : Addr} {oc_law kv_law dc_law pm_law cd_law ct_law : Value} {od_law an_law : Option Addr} {sl_law : Array (Option Value)}
    {f_BadKinds_init : Addr} {oc_BadKinds_init kv_BadKinds_init dc_BadKinds_init pm_BadKinds_init cd_BadKinds_init ct_BadKinds_init : Value} {od_BadKinds_init an_BadKinds_init : Option Addr} {sl_BadKinds_init : Array (Option Value)}
    {f_BadChange_init : Addr} {oc_BadChange_init kv_BadChange_init dc_BadChange_init pm_BadChange_init cd_BadChange_init ct_BadChange_init : Value} {od_BadChange_init an_BadChange_init : Option Addr} {sl_BadChange_init : Array (Option Value)}
    {f_CannotDo_init : Addr} {oc_CannotDo_init kv_CannotDo_init dc_CannotDo_init pm_CannotDo_init cd_CannotDo_init ct_CannotDo_init : Value} {od_CannotDo_init an_CannotDo_init : Option Addr} {sl_CannotDo_init : Array (Option Value)}
    {f_Kinds_init : Addr} {oc_Kinds_init kv_Kinds_init dc_Kinds_init pm_Kinds_init cd_Kinds_init ct_Kinds_init : Value} {od_Kinds_init an_Kinds_init : Option Addr} {sl_Kinds_init : Array (Option Value)}
    {f_Kinds_getitem : Addr} {oc_Kinds_getitem kv_Kinds_getitem dc_Kinds_getitem pm_Kinds_getitem cd_Kinds_getitem ct_Kinds_getitem : Value} {od_Kinds_getitem an_Kinds_getitem : Option Addr} {sl_Kinds_getitem : Array (Option Value)}
    {f_Kinds_contains : Addr} {oc_Kinds_contains kv_Kinds_contains dc_Kinds_contains pm_Kinds_contains cd_Kinds_contains ct_Kinds_contains : Value} {od_Kinds_contains an_Kinds_contains : Option Addr} {sl_Kinds_contains : Array (Option Value)}
    {f_Kinds_len : Addr} {oc_Kinds_len kv_Kinds_len dc_Kinds_len pm_Kinds_len cd_Kinds_len ct_Kinds_len : Value} {od_Kinds_len an_Kinds_len : Option Addr} {sl_Kinds_len : Array (Option Value)}
    {f_Kinds_eq : Addr} {oc_Kinds_eq kv_Kinds_eq dc_Kinds_eq pm_Kinds_eq cd_Kinds_eq ct_Kinds_eq : Value} {od_Kinds_eq an_Kinds_eq : Option Addr} {sl_Kinds_eq : Array (Option Value)}
    {f_Kinds_names : Addr} {oc_Kinds_names kv_Kinds_names dc_Kinds_names pm_Kinds_names cd_Kinds_names ct_Kinds_names : Value} {od_Kinds_names an_Kinds_names : Option Addr} {sl_Kinds_names : Array (Option Value)}
    {c_ChangeError : Addr}
    {c_BadKinds : Addr}
    {c_BadChange : Addr}
    {c_BadText : Addr}
    {c_CannotDo : Addr}
    {c_Kinds : Addr}
    {nm_BadKinds q_BadKinds : Str} {N_BadKinds : Addr} {bs_BadKinds bm_BadKinds : List Value} {sn_BadKinds : List Str} {sub_BadKinds : List Value} {ab_BadKinds : Bool} {col_BadKinds : Option Bool} {dd_BadKinds : Option Addr} {m0_BadKinds m1_BadKinds m2_BadKinds m3_BadKinds m5_BadKinds : Option Value}
    {nm_BadChange q_BadChange : Str} {N_BadChange : Addr} {bs_BadChange bm_BadChange : List Value} {sn_BadChange : List Str} {sub_BadChange : List Value} {ab_BadChange : Bool} {col_BadChange : Option Bool} {dd_BadChange : Option Addr} {m0_BadChange m1_BadChange m2_BadChange m3_BadChange m5_BadChange : Option Value}
    {nm_CannotDo q_CannotDo : Str} {N_CannotDo : Addr} {bs_CannotDo bm_CannotDo : List Value} {sn_CannotDo : List Str} {sub_CannotDo : List Value} {ab_CannotDo : Bool} {col_CannotDo : Option Bool} {dd_CannotDo : Option Addr} {m0_CannotDo m1_CannotDo m2_CannotDo m3_CannotDo m5_CannotDo : Option Value}
    (a_ChangeError : PySem.W.nsIn K mainGlobals "ChangeError" = some (some (.ref c_ChangeError)))
    (k_ChangeError : PySem.W.keepIn K (.ref c_ChangeError) = true)
    (a_BadKinds : PySem.W.nsIn K mainGlobals "BadKinds" = some (some (.ref c_BadKinds)))
    (k_BadKinds : PySem.W.keepIn K (.ref c_BadKinds) = true)
    (a_BadChange : PySem.W.nsIn K mainGlobals "BadChange" = some (some (.ref c_BadChange)))
    (k_BadChange : PySem.W.keepIn K (.ref c_BadChange) = true)
    (a_BadText : PySem.W.nsIn K mainGlobals "BadText" = some (some (.ref c_BadText)))
    (k_BadText : PySem.W.keepIn K (.ref c_BadText) = true)
    (a_CannotDo : PySem.W.nsIn K mainGlobals "CannotDo" = some (some (.ref c_CannotDo)))
    (k_CannotDo : PySem.W.keepIn K (.ref c_CannotDo) = true)
    (a_Kinds : PySem.W.nsIn K mainGlobals "Kinds" = some (some (.ref c_Kinds)))
    (k_Kinds : PySem.W.keepIn K (.ref c_Kinds) = true)
    (a__wall : PySem.W.nsIn K mainGlobals "_wall" = some (some (.ref f__wall)))
    (a_check_kinds : PySem.W.nsIn K mainGlobals "check_kinds" = some (some (.ref f_check_kinds)))
    (a_needs_letter : PySem.W.nsIn K mainGlobals "needs_letter" = some (some (.ref f_needs_letter)))
    (a_is_whole : PySem.W.nsIn K mainGlobals "is_whole" = some (some (.ref f_is_whole)))
    (a_has_names : PySem.W.nsIn K mainGlobals "has_names" = some (some (.ref f_has_names)))
    (a_is_name : PySem.W.nsIn K mainGlobals "is_name" = some (some (.ref f_is_name)))
    (a_is_kind : PySem.W.nsIn K mainGlobals "is_kind" = some (some (.ref f_is_kind)))
    (a_is_row : PySem.W.nsIn K mainGlobals "is_row" = some (some (.ref f_is_row)))
    (a_is_part : PySem.W.nsIn K mainGlobals "is_part" = some (some (.ref f_is_part)))
    (a_done : PySem.W.nsIn K mainGlobals "done" = some (some (.ref f_done)))
    (a_done_all : PySem.W.nsIn K mainGlobals "done_all" = some (some (.ref f_done_all)))
    (a_can_do : PySem.W.nsIn K mainGlobals "can_do" = some (some (.ref f_can_do)))
    (a_text_behind : PySem.W.nsIn K mainGlobals "text_behind" = some (some (.ref f_text_behind)))
    (a_check_text : PySem.W.nsIn K mainGlobals "check_text" = some (some (.ref f_check_text)))
    (a_check_changes : PySem.W.nsIn K mainGlobals "check_changes" = some (some (.ref f_check_changes)))
    (a_is_text : PySem.W.nsIn K mainGlobals "is_text" = some (some (.ref f_is_text)))
    (a_is_change : PySem.W.nsIn K mainGlobals "is_change" = some (some (.ref f_is_change)))
    (a_taken_back : PySem.W.nsIn K mainGlobals "taken_back" = some (some (.ref f_taken_back)))
    (a_kind_back : PySem.W.nsIn K mainGlobals "kind_back" = some (some (.ref f_kind_back)))
    (a_list_back : PySem.W.nsIn K mainGlobals "list_back" = some (some (.ref f_list_back)))
    (a_turned_kinds : PySem.W.nsIn K mainGlobals "turned_kinds" = some (some (.ref f_turned_kinds)))
    (a_turned : PySem.W.nsIn K mainGlobals "turned" = some (some (.ref f_turned)))
    (a_check_one : PySem.W.nsIn K mainGlobals "check_one" = some (some (.ref f_check_one)))
    (a_change_back : PySem.W.nsIn K mainGlobals "change_back" = some (some (.ref f_change_back)))
    (a_name_back : PySem.W.nsIn K mainGlobals "name_back" = some (some (.ref f_name_back)))
    (a_turned_back : PySem.W.nsIn K mainGlobals "turned_back" = some (some (.ref f_turned_back)))
    (a_lost_numbers : PySem.W.nsIn K mainGlobals "lost_numbers" = some (some (.ref f_lost_numbers)))
    (a_turned_kind : PySem.W.nsIn K mainGlobals "turned_kind" = some (some (.ref f_turned_kind)))
    (a__law_draw : PySem.W.nsIn K mainGlobals "_law_draw" = some (some (.ref f__law_draw)))
    (a__law_all_kinds : PySem.W.nsIn K mainGlobals "_law_all_kinds" = some (some (.ref f__law_all_kinds)))
    (a__law_some_kinds : PySem.W.nsIn K mainGlobals "_law_some_kinds" = some (some (.ref f__law_some_kinds)))
    (a__law_behind : PySem.W.nsIn K mainGlobals "_law_behind" = some (some (.ref f__law_behind)))
    (a__law_back : PySem.W.nsIn K mainGlobals "_law_back" = some (some (.ref f__law_back)))
    (a_law : PySem.W.nsIn K mainGlobals "law" = some (some (.ref f_law)))
    (i_BadKinds_init : PySem.W.findIn K (.ref c_BadKinds) "__init__" = some (some (.ref f_BadKinds_init)))
    (g_BadKinds_init : PySem.W.isFn K (.ref f_BadKinds_init) = true)
    (i_BadChange_init : PySem.W.findIn K (.ref c_BadChange) "__init__" = some (some (.ref f_BadChange_init)))
    (g_BadChange_init : PySem.W.isFn K (.ref f_BadChange_init) = true)
    (i_CannotDo_init : PySem.W.findIn K (.ref c_CannotDo) "__init__" = some (some (.ref f_CannotDo_init)))
    (g_CannotDo_init : PySem.W.isFn K (.ref f_CannotDo_init) = true)
    (i_Kinds_init : PySem.W.findIn K (.ref c_Kinds) "__init__" = some (some (.ref f_Kinds_init)))
    (g_Kinds_init : PySem.W.isFn K (.ref f_Kinds_init) = true)
    (i_Kinds_getitem : PySem.W.findIn K (.ref c_Kinds) "__getitem__" = some (some (.ref f_Kinds_getitem)))
    (g_Kinds_getitem : PySem.W.isFn K (.ref f_Kinds_getitem) = true)
    (i_Kinds_contains : PySem.W.findIn K (.ref c_Kinds) "__contains__" = some (some (.ref f_Kinds_contains)))
    (g_Kinds_contains : PySem.W.isFn K (.ref f_Kinds_contains) = true)
    (i_Kinds_len : PySem.W.findIn K (.ref c_Kinds) "__len__" = some (some (.ref f_Kinds_len)))
    (g_Kinds_len : PySem.W.isFn K (.ref f_Kinds_len) = true)
    (i_Kinds_eq : PySem.W.findIn K (.ref c_Kinds) "__eq__" = some (some (.ref f_Kinds_eq)))
    (g_Kinds_eq : PySem.W.isFn K (.ref f_Kinds_eq) = true)
    (i_Kinds_names : PySem.W.findIn K (.ref c_Kinds) "names" = some (some (.ref f_Kinds_names)))
    (g_Kinds_names : PySem.W.isFn K (.ref f_Kinds_names) = true)
    (l__wall : K.lookup f__wall = some ⟨oc__wall, od__wall, .func (PySem.W.fnOf "_wall" "_wall" (defArgs s__wall) (defBody s__wall) (defScope s__wall) .none kv__wall dc__wall pm__wall an__wall cd__wall ct__wall), sl__wall⟩)
    (d__wall : PySem.W.codeIn K cd__wall "_wall" = true)
    (p__wall : PySem.W.keepIn K (.ref f__wall) = true)
    (l_check_kinds : K.lookup f_check_kinds = some ⟨oc_check_kinds, od_check_kinds, .func (PySem.W.fnOf "check_kinds" "check_kinds" (defArgs s_check_kinds) (defBody s_check_kinds) (defScope s_check_kinds) .none kv_check_kinds dc_check_kinds pm_check_kinds an_check_kinds cd_check_kinds ct_check_kinds), sl_check_kinds⟩)
    (d_check_kinds : PySem.W.codeIn K cd_check_kinds "check_kinds" = true)
    (p_check_kinds : PySem.W.keepIn K (.ref f_check_kinds) = true)
    (l_needs_letter : K.lookup f_needs_letter = some ⟨oc_needs_letter, od_needs_letter, .func (PySem.W.fnOf "needs_letter" "needs_letter" (defArgs s_needs_letter) (defBody s_needs_letter) (defScope s_needs_letter) .none kv_needs_letter dc_needs_letter pm_needs_letter an_needs_letter cd_needs_letter ct_needs_letter), sl_needs_letter⟩)
    (d_needs_letter : PySem.W.codeIn K cd_needs_letter "needs_letter" = true)
    (p_needs_letter : PySem.W.keepIn K (.ref f_needs_letter) = true)
    (l_is_whole : K.lookup f_is_whole = some ⟨oc_is_whole, od_is_whole, .func (PySem.W.fnOf "is_whole" "is_whole" (defArgs s_is_whole) (defBody s_is_whole) (defScope s_is_whole) .none kv_is_whole dc_is_whole pm_is_whole an_is_whole cd_is_whole ct_is_whole), sl_is_whole⟩)
    (d_is_whole : PySem.W.codeIn K cd_is_whole "is_whole" = true)
    (p_is_whole : PySem.W.keepIn K (.ref f_is_whole) = true)
    (l_has_names : K.lookup f_has_names = some ⟨oc_has_names, od_has_names, .func (PySem.W.fnOf "has_names" "has_names" (defArgs s_has_names) (defBody s_has_names) (defScope s_has_names) .none kv_has_names dc_has_names pm_has_names an_has_names cd_has_names ct_has_names), sl_has_names⟩)
    (d_has_names : PySem.W.codeIn K cd_has_names "has_names" = true)
    (p_has_names : PySem.W.keepIn K (.ref f_has_names) = true)
    (l_is_name : K.lookup f_is_name = some ⟨oc_is_name, od_is_name, .func (PySem.W.fnOf "is_name" "is_name" (defArgs s_is_name) (defBody s_is_name) (defScope s_is_name) .none kv_is_name dc_is_name pm_is_name an_is_name cd_is_name ct_is_name), sl_is_name⟩)
    (d_is_name : PySem.W.codeIn K cd_is_name "is_name" = true)
    (p_is_name : PySem.W.keepIn K (.ref f_is_name) = true)
    (l_is_kind : K.lookup f_is_kind = some ⟨oc_is_kind, od_is_kind, .func (PySem.W.fnOf "is_kind" "is_kind" (defArgs s_is_kind) (defBody s_is_kind) (defScope s_is_kind) .none kv_is_kind dc_is_kind pm_is_kind an_is_kind cd_is_kind ct_is_kind), sl_is_kind⟩)
    (d_is_kind : PySem.W.codeIn K cd_is_kind "is_kind" = true)
    (p_is_kind : PySem.W.keepIn K (.ref f_is_kind) = true)
    (l_is_row : K.lookup f_is_row = some ⟨oc_is_row, od_is_row, .func (PySem.W.fnOf "is_row" "is_row" (defArgs s_is_row) (defBody s_is_row) (defScope s_is_row) .none kv_is_row dc_is_row pm_is_row an_is_row cd_is_row ct_is_row), sl_is_row⟩)
    (d_is_row : PySem.W.codeIn K cd_is_row "is_row" = true)
    (p_is_row : PySem.W.keepIn K (.ref f_is_row) = true)
    (l_is_part : K.lookup f_is_part = some ⟨oc_is_part, od_is_part, .func (PySem.W.fnOf "is_part" "is_part" (defArgs s_is_part) (defBody s_is_part) (defScope s_is_part) .none kv_is_part dc_is_part pm_is_part an_is_part cd_is_part ct_is_part), sl_is_part⟩)
    (d_is_part : PySem.W.codeIn K cd_is_part "is_part" = true)
    (p_is_part : PySem.W.keepIn K (.ref f_is_part) = true)
    (l_done : K.lookup f_done = some ⟨oc_done, od_done, .func (PySem.W.fnOf "done" "done" (defArgs s_done) (defBody s_done) (defScope s_done) .none kv_done dc_done pm_done an_done cd_done ct_done), sl_done⟩)
    (d_done : PySem.W.codeIn K cd_done "done" = true)
    (p_done : PySem.W.keepIn K (.ref f_done) = true)
    (l_done_all : K.lookup f_done_all = some ⟨oc_done_all, od_done_all, .func (PySem.W.fnOf "done_all" "done_all" (defArgs s_done_all) (defBody s_done_all) (defScope s_done_all) .none kv_done_all dc_done_all pm_done_all an_done_all cd_done_all ct_done_all), sl_done_all⟩)
    (d_done_all : PySem.W.codeIn K cd_done_all "done_all" = true)
    (p_done_all : PySem.W.keepIn K (.ref f_done_all) = true)
    (l_can_do : K.lookup f_can_do = some ⟨oc_can_do, od_can_do, .func (PySem.W.fnOf "can_do" "can_do" (defArgs s_can_do) (defBody s_can_do) (defScope s_can_do) .none kv_can_do dc_can_do pm_can_do an_can_do cd_can_do ct_can_do), sl_can_do⟩)
    (d_can_do : PySem.W.codeIn K cd_can_do "can_do" = true)
    (p_can_do : PySem.W.keepIn K (.ref f_can_do) = true)
    (l_text_behind : K.lookup f_text_behind = some ⟨oc_text_behind, od_text_behind, .func (PySem.W.fnOf "text_behind" "text_behind" (defArgs s_text_behind) (defBody s_text_behind) (defScope s_text_behind) .none kv_text_behind dc_text_behind pm_text_behind an_text_behind cd_text_behind ct_text_behind), sl_text_behind⟩)
    (d_text_behind : PySem.W.codeIn K cd_text_behind "text_behind" = true)
    (p_text_behind : PySem.W.keepIn K (.ref f_text_behind) = true)
    (l_check_text : K.lookup f_check_text = some ⟨oc_check_text, od_check_text, .func (PySem.W.fnOf "check_text" "check_text" (defArgs s_check_text) (defBody s_check_text) (defScope s_check_text) .none kv_check_text dc_check_text pm_check_text an_check_text cd_check_text ct_check_text), sl_check_text⟩)
    (d_check_text : PySem.W.codeIn K cd_check_text "check_text" = true)
    (p_check_text : PySem.W.keepIn K (.ref f_check_text) = true)
    (l_check_changes : K.lookup f_check_changes = some ⟨oc_check_changes, od_check_changes, .func (PySem.W.fnOf "check_changes" "check_changes" (defArgs s_check_changes) (defBody s_check_changes) (defScope s_check_changes) .none kv_check_changes dc_check_changes pm_check_changes an_check_changes cd_check_changes ct_check_changes), sl_check_changes⟩)
    (d_check_changes : PySem.W.codeIn K cd_check_changes "check_changes" = true)
    (p_check_changes : PySem.W.keepIn K (.ref f_check_changes) = true)
    (l_is_text : K.lookup f_is_text = some ⟨oc_is_text, od_is_text, .func (PySem.W.fnOf "is_text" "is_text" (defArgs s_is_text) (defBody s_is_text) (defScope s_is_text) .none kv_is_text dc_is_text pm_is_text an_is_text cd_is_text ct_is_text), sl_is_text⟩)
    (d_is_text : PySem.W.codeIn K cd_is_text "is_text" = true)
    (p_is_text : PySem.W.keepIn K (.ref f_is_text) = true)
    (l_is_change : K.lookup f_is_change = some ⟨oc_is_change, od_is_change, .func (PySem.W.fnOf "is_change" "is_change" (defArgs s_is_change) (defBody s_is_change) (defScope s_is_change) .none kv_is_change dc_is_change pm_is_change an_is_change cd_is_change ct_is_change), sl_is_change⟩)
    (d_is_change : PySem.W.codeIn K cd_is_change "is_change" = true)
    (p_is_change : PySem.W.keepIn K (.ref f_is_change) = true)
    (l_taken_back : K.lookup f_taken_back = some ⟨oc_taken_back, od_taken_back, .func (PySem.W.fnOf "taken_back" "taken_back" (defArgs s_taken_back) (defBody s_taken_back) (defScope s_taken_back) .none kv_taken_back dc_taken_back pm_taken_back an_taken_back cd_taken_back ct_taken_back), sl_taken_back⟩)
    (d_taken_back : PySem.W.codeIn K cd_taken_back "taken_back" = true)
    (p_taken_back : PySem.W.keepIn K (.ref f_taken_back) = true)
    (l_kind_back : K.lookup f_kind_back = some ⟨oc_kind_back, od_kind_back, .func (PySem.W.fnOf "kind_back" "kind_back" (defArgs s_kind_back) (defBody s_kind_back) (defScope s_kind_back) .none kv_kind_back dc_kind_back pm_kind_back an_kind_back cd_kind_back ct_kind_back), sl_kind_back⟩)
    (d_kind_back : PySem.W.codeIn K cd_kind_back "kind_back" = true)
    (p_kind_back : PySem.W.keepIn K (.ref f_kind_back) = true)
    (l_list_back : K.lookup f_list_back = some ⟨oc_list_back, od_list_back, .func (PySem.W.fnOf "list_back" "list_back" (defArgs s_list_back) (defBody s_list_back) (defScope s_list_back) .none kv_list_back dc_list_back pm_list_back an_list_back cd_list_back ct_list_back), sl_list_back⟩)
    (d_list_back : PySem.W.codeIn K cd_list_back "list_back" = true)
    (p_list_back : PySem.W.keepIn K (.ref f_list_back) = true)
    (l_turned_kinds : K.lookup f_turned_kinds = some ⟨oc_turned_kinds, od_turned_kinds, .func (PySem.W.fnOf "turned_kinds" "turned_kinds" (defArgs s_turned_kinds) (defBody s_turned_kinds) (defScope s_turned_kinds) .none kv_turned_kinds dc_turned_kinds pm_turned_kinds an_turned_kinds cd_turned_kinds ct_turned_kinds), sl_turned_kinds⟩)
    (d_turned_kinds : PySem.W.codeIn K cd_turned_kinds "turned_kinds" = true)
    (p_turned_kinds : PySem.W.keepIn K (.ref f_turned_kinds) = true)
    (l_turned : K.lookup f_turned = some ⟨oc_turned, od_turned, .func (PySem.W.fnOf "turned" "turned" (defArgs s_turned) (defBody s_turned) (defScope s_turned) .none kv_turned dc_turned pm_turned an_turned cd_turned ct_turned), sl_turned⟩)
    (d_turned : PySem.W.codeIn K cd_turned "turned" = true)
    (p_turned : PySem.W.keepIn K (.ref f_turned) = true)
    (l_check_one : K.lookup f_check_one = some ⟨oc_check_one, od_check_one, .func (PySem.W.fnOf "check_one" "check_one" (defArgs s_check_one) (defBody s_check_one) (defScope s_check_one) .none kv_check_one dc_check_one pm_check_one an_check_one cd_check_one ct_check_one), sl_check_one⟩)
    (d_check_one : PySem.W.codeIn K cd_check_one "check_one" = true)
    (p_check_one : PySem.W.keepIn K (.ref f_check_one) = true)
    (l_change_back : K.lookup f_change_back = some ⟨oc_change_back, od_change_back, .func (PySem.W.fnOf "change_back" "change_back" (defArgs s_change_back) (defBody s_change_back) (defScope s_change_back) .none kv_change_back dc_change_back pm_change_back an_change_back cd_change_back ct_change_back), sl_change_back⟩)
    (d_change_back : PySem.W.codeIn K cd_change_back "change_back" = true)
    (p_change_back : PySem.W.keepIn K (.ref f_change_back) = true)
    (l_name_back : K.lookup f_name_back = some ⟨oc_name_back, od_name_back, .func (PySem.W.fnOf "name_back" "name_back" (defArgs s_name_back) (defBody s_name_back) (defScope s_name_back) .none kv_name_back dc_name_back pm_name_back an_name_back cd_name_back ct_name_back), sl_name_back⟩)
    (d_name_back : PySem.W.codeIn K cd_name_back "name_back" = true)
    (p_name_back : PySem.W.keepIn K (.ref f_name_back) = true)
    (l_turned_back : K.lookup f_turned_back = some ⟨oc_turned_back, od_turned_back, .func (PySem.W.fnOf "turned_back" "turned_back" (defArgs s_turned_back) (defBody s_turned_back) (defScope s_turned_back) .none kv_turned_back dc_turned_back pm_turned_back an_turned_back cd_turned_back ct_turned_back), sl_turned_back⟩)
    (d_turned_back : PySem.W.codeIn K cd_turned_back "turned_back" = true)
    (p_turned_back : PySem.W.keepIn K (.ref f_turned_back) = true)
    (l_lost_numbers : K.lookup f_lost_numbers = some ⟨oc_lost_numbers, od_lost_numbers, .func (PySem.W.fnOf "lost_numbers" "lost_numbers" (defArgs s_lost_numbers) (defBody s_lost_numbers) (defScope s_lost_numbers) .none kv_lost_numbers dc_lost_numbers pm_lost_numbers an_lost_numbers cd_lost_numbers ct_lost_numbers), sl_lost_numbers⟩)
    (d_lost_numbers : PySem.W.codeIn K cd_lost_numbers "lost_numbers" = true)
    (p_lost_numbers : PySem.W.keepIn K (.ref f_lost_numbers) = true)
    (l_turned_kind : K.lookup f_turned_kind = some ⟨oc_turned_kind, od_turned_kind, .func (PySem.W.fnOf "turned_kind" "turned_kind" (defArgs s_turned_kind) (defBody s_turned_kind) (defScope s_turned_kind) .none kv_turned_kind dc_turned_kind pm_turned_kind an_turned_kind cd_turned_kind ct_turned_kind), sl_turned_kind⟩)
    (d_turned_kind : PySem.W.codeIn K cd_turned_kind "turned_kind" = true)
    (p_turned_kind : PySem.W.keepIn K (.ref f_turned_kind) = true)
    (l__law_draw : K.lookup f__law_draw = some ⟨oc__law_draw, od__law_draw, .func (PySem.W.fnOf "_law_draw" "_law_draw" (defArgs s__law_draw) (defBody s__law_draw) (defScope s__law_draw) .none kv__law_draw dc__law_draw pm__law_draw an__law_draw cd__law_draw ct__law_draw), sl__law_draw⟩)
    (d__law_draw : PySem.W.codeIn K cd__law_draw "_law_draw" = true)
    (p__law_draw : PySem.W.keepIn K (.ref f__law_draw) = true)
    (l__law_all_kinds : K.lookup f__law_all_kinds = some ⟨oc__law_all_kinds, od__law_all_kinds, .func (PySem.W.fnOf "_law_all_kinds" "_law_all_kinds" (defArgs s__law_all_kinds) (defBody s__law_all_kinds) (defScope s__law_all_kinds) .none kv__law_all_kinds dc__law_all_kinds pm__law_all_kinds an__law_all_kinds cd__law_all_kinds ct__law_all_kinds), sl__law_all_kinds⟩)
    (d__law_all_kinds : PySem.W.codeIn K cd__law_all_kinds "_law_all_kinds" = true)
    (p__law_all_kinds : PySem.W.keepIn K (.ref f__law_all_kinds) = true)
    (l__law_some_kinds : K.lookup f__law_some_kinds = some ⟨oc__law_some_kinds, od__law_some_kinds, .func (PySem.W.fnOf "_law_some_kinds" "_law_some_kinds" (defArgs s__law_some_kinds) (defBody s__law_some_kinds) (defScope s__law_some_kinds) .none kv__law_some_kinds dc__law_some_kinds pm__law_some_kinds an__law_some_kinds cd__law_some_kinds ct__law_some_kinds), sl__law_some_kinds⟩)
    (d__law_some_kinds : PySem.W.codeIn K cd__law_some_kinds "_law_some_kinds" = true)
    (p__law_some_kinds : PySem.W.keepIn K (.ref f__law_some_kinds) = true)
    (l__law_behind : K.lookup f__law_behind = some ⟨oc__law_behind, od__law_behind, .func (PySem.W.fnOf "_law_behind" "_law_behind" (defArgs s__law_behind) (defBody s__law_behind) (defScope s__law_behind) .none kv__law_behind dc__law_behind pm__law_behind an__law_behind cd__law_behind ct__law_behind), sl__law_behind⟩)
    (d__law_behind : PySem.W.codeIn K cd__law_behind "_law_behind" = true)
    (p__law_behind : PySem.W.keepIn K (.ref f__law_behind) = true)
    (l__law_back : K.lookup f__law_back = some ⟨oc__law_back, od__law_back, .func (PySem.W.fnOf "_law_back" "_law_back" (defArgs s__law_back) (defBody s__law_back) (defScope s__law_back) .none kv__law_back dc__law_back pm__law_back an__law_back cd__law_back ct__law_back), sl__law_back⟩)
    (d__law_back : PySem.W.codeIn K cd__law_back "_law_back" = true)
    (p__law_back : PySem.W.keepIn K (.ref f__law_back) = true)
    (l_law : K.lookup f_law = some ⟨oc_law, od_law, .func (PySem.W.fnOf "law" "law" (defArgs s_law) (defBody s_law) (defScope s_law) .none kv_law dc_law pm_law an_law cd_law ct_law), sl_law⟩)
    (d_law : PySem.W.codeIn K cd_law "law" = true)
    (p_law : PySem.W.keepIn K (.ref f_law) = true)
    (l_BadKinds_init : K.lookup f_BadKinds_init = some ⟨oc_BadKinds_init, od_BadKinds_init, .func (PySem.W.fnOf "__init__" "BadKinds.__init__" (defArgs s_BadKinds_init) (defBody s_BadKinds_init) (defScope s_BadKinds_init) .none kv_BadKinds_init dc_BadKinds_init pm_BadKinds_init an_BadKinds_init cd_BadKinds_init ct_BadKinds_init), sl_BadKinds_init⟩)
    (d_BadKinds_init : PySem.W.codeIn K cd_BadKinds_init "BadKinds.__init__" = true)
    (p_BadKinds_init : PySem.W.keepIn K (.ref f_BadKinds_init) = true)
    (l_BadChange_init : K.lookup f_BadChange_init = some ⟨oc_BadChange_init, od_BadChange_init, .func (PySem.W.fnOf "__init__" "BadChange.__init__" (defArgs s_BadChange_init) (defBody s_BadChange_init) (defScope s_BadChange_init) .none kv_BadChange_init dc_BadChange_init pm_BadChange_init an_BadChange_init cd_BadChange_init ct_BadChange_init), sl_BadChange_init⟩)
    (d_BadChange_init : PySem.W.codeIn K cd_BadChange_init "BadChange.__init__" = true)
    (p_BadChange_init : PySem.W.keepIn K (.ref f_BadChange_init) = true)
    (l_CannotDo_init : K.lookup f_CannotDo_init = some ⟨oc_CannotDo_init, od_CannotDo_init, .func (PySem.W.fnOf "__init__" "CannotDo.__init__" (defArgs s_CannotDo_init) (defBody s_CannotDo_init) (defScope s_CannotDo_init) .none kv_CannotDo_init dc_CannotDo_init pm_CannotDo_init an_CannotDo_init cd_CannotDo_init ct_CannotDo_init), sl_CannotDo_init⟩)
    (d_CannotDo_init : PySem.W.codeIn K cd_CannotDo_init "CannotDo.__init__" = true)
    (p_CannotDo_init : PySem.W.keepIn K (.ref f_CannotDo_init) = true)
    (l_Kinds_init : K.lookup f_Kinds_init = some ⟨oc_Kinds_init, od_Kinds_init, .func (PySem.W.fnOf "__init__" "Kinds.__init__" (defArgs s_Kinds_init) (defBody s_Kinds_init) (defScope s_Kinds_init) .none kv_Kinds_init dc_Kinds_init pm_Kinds_init an_Kinds_init cd_Kinds_init ct_Kinds_init), sl_Kinds_init⟩)
    (d_Kinds_init : PySem.W.codeIn K cd_Kinds_init "Kinds.__init__" = true)
    (p_Kinds_init : PySem.W.keepIn K (.ref f_Kinds_init) = true)
    (l_Kinds_getitem : K.lookup f_Kinds_getitem = some ⟨oc_Kinds_getitem, od_Kinds_getitem, .func (PySem.W.fnOf "__getitem__" "Kinds.__getitem__" (defArgs s_Kinds_getitem) (defBody s_Kinds_getitem) (defScope s_Kinds_getitem) .none kv_Kinds_getitem dc_Kinds_getitem pm_Kinds_getitem an_Kinds_getitem cd_Kinds_getitem ct_Kinds_getitem), sl_Kinds_getitem⟩)
    (d_Kinds_getitem : PySem.W.codeIn K cd_Kinds_getitem "Kinds.__getitem__" = true)
    (p_Kinds_getitem : PySem.W.keepIn K (.ref f_Kinds_getitem) = true)
    (l_Kinds_contains : K.lookup f_Kinds_contains = some ⟨oc_Kinds_contains, od_Kinds_contains, .func (PySem.W.fnOf "__contains__" "Kinds.__contains__" (defArgs s_Kinds_contains) (defBody s_Kinds_contains) (defScope s_Kinds_contains) .none kv_Kinds_contains dc_Kinds_contains pm_Kinds_contains an_Kinds_contains cd_Kinds_contains ct_Kinds_contains), sl_Kinds_contains⟩)
    (d_Kinds_contains : PySem.W.codeIn K cd_Kinds_contains "Kinds.__contains__" = true)
    (p_Kinds_contains : PySem.W.keepIn K (.ref f_Kinds_contains) = true)
    (l_Kinds_len : K.lookup f_Kinds_len = some ⟨oc_Kinds_len, od_Kinds_len, .func (PySem.W.fnOf "__len__" "Kinds.__len__" (defArgs s_Kinds_len) (defBody s_Kinds_len) (defScope s_Kinds_len) .none kv_Kinds_len dc_Kinds_len pm_Kinds_len an_Kinds_len cd_Kinds_len ct_Kinds_len), sl_Kinds_len⟩)
    (d_Kinds_len : PySem.W.codeIn K cd_Kinds_len "Kinds.__len__" = true)
    (p_Kinds_len : PySem.W.keepIn K (.ref f_Kinds_len) = true)
    (l_Kinds_eq : K.lookup f_Kinds_eq = some ⟨oc_Kinds_eq, od_Kinds_eq, .func (PySem.W.fnOf "__eq__" "Kinds.__eq__" (defArgs s_Kinds_eq) (defBody s_Kinds_eq) (defScope s_Kinds_eq) .none kv_Kinds_eq dc_Kinds_eq pm_Kinds_eq an_Kinds_eq cd_Kinds_eq ct_Kinds_eq), sl_Kinds_eq⟩)
    (d_Kinds_eq : PySem.W.codeIn K cd_Kinds_eq "Kinds.__eq__" = true)
    (p_Kinds_eq : PySem.W.keepIn K (.ref f_Kinds_eq) = true)
    (l_Kinds_names : K.lookup f_Kinds_names = some ⟨oc_Kinds_names, od_Kinds_names, .func (PySem.W.fnOf "names" "Kinds.names" (defArgs s_Kinds_names) (defBody s_Kinds_names) (defScope s_Kinds_names) .none kv_Kinds_names dc_Kinds_names pm_Kinds_names an_Kinds_names cd_Kinds_names ct_Kinds_names), sl_Kinds_names⟩)
    (d_Kinds_names : PySem.W.codeIn K cd_Kinds_names "Kinds.names" = true)
    (p_Kinds_names : PySem.W.keepIn K (.ref f_Kinds_names) = true)
    (xl_BadKinds : K.lookup c_BadKinds = some (excClassObj nm_BadKinds q_BadKinds c_BadKinds N_BadKinds bs_BadKinds bm_BadKinds true sn_BadKinds sub_BadKinds ab_BadKinds col_BadKinds dd_BadKinds m0_BadKinds m1_BadKinds m2_BadKinds m3_BadKinds m5_BadKinds "ValueError.__new__"))
    (xr_BadKinds : PySem.HandSPX.refsVE bm_BadKinds = true)
    (sa_BadKinds : PySem.W.findIn K (.ref c_BadKinds) "__setattr__" = some (some (.builtin "object.__setattr__")))
    (xl_BadChange : K.lookup c_BadChange = some (excClassObj nm_BadChange q_BadChange c_BadChange N_BadChange bs_BadChange bm_BadChange true sn_BadChange sub_BadChange ab_BadChange col_BadChange dd_BadChange m0_BadChange m1_BadChange m2_BadChange m3_BadChange m5_BadChange "ValueError.__new__"))
    (xr_BadChange : PySem.HandSPX.refsVE bm_BadChange = true)
    (sa_BadChange : PySem.W.findIn K (.ref c_BadChange) "__setattr__" = some (some (.builtin "object.__setattr__")))
    (xl_CannotDo : K.lookup c_CannotDo = some (excClassObj nm_CannotDo q_CannotDo c_CannotDo N_CannotDo bs_CannotDo bm_CannotDo true sn_CannotDo sub_CannotDo ab_CannotDo col_CannotDo dd_CannotDo m0_CannotDo m1_CannotDo m2_CannotDo m3_CannotDo m5_CannotDo "ValueError.__new__"))
    (xr_CannotDo : PySem.HandSPX.refsVE bm_CannotDo = true)
    (sa_CannotDo : PySem.W.findIn K (.ref c_CannotDo) "__setattr__" = some (some (.builtin "object.__setattr__")))
    (cl_BadKinds : PySem.W.isClsIn K c_BadKinds = true)
    (ga_BadKinds : PySem.W.findIn K (.ref c_BadKinds) "__getattribute__" = some (some (.builtin "BaseException.__getattribute__")))
    (gg_BadKinds : PySem.W.findIn K (.ref c_BadKinds) "__getattr__" = some none)
    (ex_BadKinds : PySem.W.subIn K (.ref c_BadKinds) (.type "BaseException") = some true)
    (hd_BadKinds : PySem.W.hasDictIn K c_BadKinds = true)
    (cc_BadKinds : PySem.W.findIn K (.ref c_BadKinds) "__class__" = some (some (.builtin "object.__class__")))
    (mo_BadKinds : PySem.W.mroIn K c_BadKinds (.type "object") = some true)
    (t_BadKinds : PySem.W.typeIn K (.ref c_BadKinds) = some (.type "type"))
    (us_BadKinds : PySem.W.subIn K (.ref c_BadKinds) (.ref c_ChangeError) = some true)
    (x_BadKinds_BadKinds : PySem.W.subIn K (.ref c_BadKinds) (.ref c_BadKinds) = some true)
    (x_BadKinds_BadChange : PySem.W.subIn K (.ref c_BadKinds) (.ref c_BadChange) = some false)
    (x_BadKinds_CannotDo : PySem.W.subIn K (.ref c_BadKinds) (.ref c_CannotDo) = some false)
    (x_BadKinds_BadText : PySem.W.subIn K (.ref c_BadKinds) (.ref c_BadText) = some false)
    (cl_BadChange : PySem.W.isClsIn K c_BadChange = true)
    (ga_BadChange : PySem.W.findIn K (.ref c_BadChange) "__getattribute__" = some (some (.builtin "BaseException.__getattribute__")))
    (gg_BadChange : PySem.W.findIn K (.ref c_BadChange) "__getattr__" = some none)
    (ex_BadChange : PySem.W.subIn K (.ref c_BadChange) (.type "BaseException") = some true)
    (hd_BadChange : PySem.W.hasDictIn K c_BadChange = true)
    (cc_BadChange : PySem.W.findIn K (.ref c_BadChange) "__class__" = some (some (.builtin "object.__class__")))
    (mo_BadChange : PySem.W.mroIn K c_BadChange (.type "object") = some true)
    (t_BadChange : PySem.W.typeIn K (.ref c_BadChange) = some (.type "type"))
    (us_BadChange : PySem.W.subIn K (.ref c_BadChange) (.ref c_ChangeError) = some true)
    (x_BadChange_BadKinds : PySem.W.subIn K (.ref c_BadChange) (.ref c_BadKinds) = some false)
    (x_BadChange_BadChange : PySem.W.subIn K (.ref c_BadChange) (.ref c_BadChange) = some true)
    (x_BadChange_CannotDo : PySem.W.subIn K (.ref c_BadChange) (.ref c_CannotDo) = some false)
    (x_BadChange_BadText : PySem.W.subIn K (.ref c_BadChange) (.ref c_BadText) = some false)
    (cl_CannotDo : PySem.W.isClsIn K c_CannotDo = true)
    (ga_CannotDo : PySem.W.findIn K (.ref c_CannotDo) "__getattribute__" = some (some (.builtin "BaseException.__getattribute__")))
    (gg_CannotDo : PySem.W.findIn K (.ref c_CannotDo) "__getattr__" = some none)
    (ex_CannotDo : PySem.W.subIn K (.ref c_CannotDo) (.type "BaseException") = some true)
    (hd_CannotDo : PySem.W.hasDictIn K c_CannotDo = true)
    (cc_CannotDo : PySem.W.findIn K (.ref c_CannotDo) "__class__" = some (some (.builtin "object.__class__")))
    (mo_CannotDo : PySem.W.mroIn K c_CannotDo (.type "object") = some true)
    (t_CannotDo : PySem.W.typeIn K (.ref c_CannotDo) = some (.type "type"))
    (us_CannotDo : PySem.W.subIn K (.ref c_CannotDo) (.ref c_ChangeError) = some true)
    (x_CannotDo_BadKinds : PySem.W.subIn K (.ref c_CannotDo) (.ref c_BadKinds) = some false)
    (x_CannotDo_BadChange : PySem.W.subIn K (.ref c_CannotDo) (.ref c_BadChange) = some false)
    (x_CannotDo_CannotDo : PySem.W.subIn K (.ref c_CannotDo) (.ref c_CannotDo) = some true)
    (x_CannotDo_BadText : PySem.W.subIn K (.ref c_CannotDo) (.ref c_BadText) = some false)
    (cl_BadText : PySem.W.isClsIn K c_BadText = true)
    (ga_BadText : PySem.W.findIn K (.ref c_BadText) "__getattribute__" = some (some (.builtin "BaseException.__getattribute__")))
    (gg_BadText : PySem.W.findIn K (.ref c_BadText) "__getattr__" = some none)
    (ex_BadText : PySem.W.subIn K (.ref c_BadText) (.type "BaseException") = some true)
    (hd_BadText : PySem.W.hasDictIn K c_BadText = true)
    (cc_BadText : PySem.W.findIn K (.ref c_BadText) "__class__" = some (some (.builtin "object.__class__")))
    (mo_BadText : PySem.W.mroIn K c_BadText (.type "object") = some true)
    (t_BadText : PySem.W.typeIn K (.ref c_BadText) = some (.type "type"))
    (us_BadText : PySem.W.subIn K (.ref c_BadText) (.ref c_ChangeError) = some true)
    (x_BadText_BadKinds : PySem.W.subIn K (.ref c_BadText) (.ref c_BadKinds) = some false)
    (x_BadText_BadChange : PySem.W.subIn K (.ref c_BadText) (.ref c_BadChange) = some false)
    (x_BadText_CannotDo : PySem.W.subIn K (.ref c_BadText) (.ref c_CannotDo) = some false)
    (x_BadText_BadText : PySem.W.subIn K (.ref c_BadText) (.ref c_BadText) = some true)
    (cl_ChangeError : PySem.W.isClsIn K c_ChangeError = true)
    (t_ChangeError : PySem.W.typeIn K (.ref c_ChangeError) = some (.type "type"))
    (cl_Kinds : PySem.W.isClsIn K c_Kinds = true)
    (t_Kinds : PySem.W.typeIn K (.ref c_Kinds) = some (.type "type"))
    (cg : PySem.W.specialIn K (.builtin "object.__class__") "__get__" = some (some (.builtin "getset_descriptor.__get__")))
    (ct : PySem.W.takesIn K (.builtin "object.__class__") = some true)
    (x_BadText : PySem.W.excIn K c_BadText [.type "ValueError", .type "Exception", .type "BaseException", .type "object"] "ValueError.__new__" = true)
    (z_BadKinds : PySem.W.findIn K (.ref c_BadKinds) "name" = some none)
    (z_BadChange : PySem.W.findIn K (.ref c_BadChange) "place" = some none)
    (z_CannotDo : PySem.W.findIn K (.ref c_CannotDo) "place" = some none)
    (pg : PySem.W.plainGet K c_Kinds Str.empty = true)
    (hdK : PySem.W.hasDictIn K c_Kinds = true)
    (po : PySem.W.plainOver K c_Kinds = true)
    (saK : PySem.W.findIn K (.ref c_Kinds) "__setattr__" = some (some (.builtin "object.__setattr__")))
    (mkI : PySem.W.makesIn K c_Kinds = true)
    (nT : PySem.W.findIn K (.ref c_Kinds) "told" = some none)
    (fn_getitem : PySem.W.fnIn K f_Kinds_getitem = true)
    (ne : PySem.W.findIn K (.ref c_Kinds) "__ne__" = some (some (.builtin "object.__ne__")))
    (mroK : PySem.W.mroIn K c_Kinds (.type "object") = some true)
    (dictK : PySem.W.subIn K (.type "dict") (.ref c_Kinds) = some false)
    (noneK : PySem.W.subIn K (.type "NoneType") (.ref c_Kinds) = some false)
    (caK : PySem.W.findIn K (.ref c_Kinds) "__class__" = some (some (.builtin "object.__class__")))
    (n_isinstance : PySem.W.nsIn K mainGlobals "isinstance" = some none)
    (n_str : PySem.W.nsIn K mainGlobals "str" = some none)
    (n_int : PySem.W.nsIn K mainGlobals "int" = some none)
    (n_bool : PySem.W.nsIn K mainGlobals "bool" = some none)
    (n_tuple : PySem.W.nsIn K mainGlobals "tuple" = some none)
    (n_list : PySem.W.nsIn K mainGlobals "list" = some none)
    (n_dict : PySem.W.nsIn K mainGlobals "dict" = some none)
    (n_len : PySem.W.nsIn K mainGlobals "len" = some none)
    (n_all : PySem.W.nsIn K mainGlobals "all" = some none)
    (n_any : PySem.W.nsIn K mainGlobals "any" = some none)
    (n_set : PySem.W.nsIn K mainGlobals "set" = some none)
    (n_sorted : PySem.W.nsIn K mainGlobals "sorted" = some none)
    (n_enumerate : PySem.W.nsIn K mainGlobals "enumerate" = some none)
    (n_range : PySem.W.nsIn K mainGlobals "range" = some none)
    (n_abs : PySem.W.nsIn K mainGlobals "abs" = some none)
    (n_reversed : PySem.W.nsIn K mainGlobals "reversed" = some none)
    (n_TypeError : PySem.W.nsIn K mainGlobals "TypeError" = some none)
    (n_ValueError : PySem.W.nsIn K mainGlobals "ValueError" = some none)
    : Top K mg where
  _wall := ⟨f__wall, _, PySem.W.mg_of X G a__wall, fun_mk (st := s__wall) l__wall d__wall p__wall, Fun.binds (fun_mk (st := s__wall) l__wall d__wall p__wall) fun _ _ _ _ _ _ us hl => match us, hl with | [_], _ => rfl⟩
  check_kinds := ⟨f_check_kinds, _, PySem.W.mg_of X G a_check_kinds, fun_mk (st := s_check_kinds) l_check_kinds d_check_kinds p_check_kinds, Fun.binds (fun_mk (st := s_check_kinds) l_check_kinds d_check_kinds p_check_kinds) fun _ _ _ _ _ _ us hl => match us, hl with | [_], _ => rfl⟩
  needs_letter := ⟨f_needs_letter, _, PySem.W.mg_of X G a_needs_letter, fun_mk (st := s_needs_letter) l_needs_letter d_needs_letter p_needs_letter, Fun.binds (fun_mk (st := s_needs_letter) l_needs_letter d_needs_letter p_needs_letter) fun _ _ _ _ _ _ us hl => match us, hl with | [_, _], _ => rfl⟩
  is_whole := ⟨f_is_whole, _, PySem.W.mg_of X G a_is_whole, fun_mk (st := s_is_whole) l_is_whole d_is_whole p_is_whole, Fun.binds (fun_mk (st := s_is_whole) l_is_whole d_is_whole p_is_whole) fun _ _ _ _ _ _ us hl => match us, hl with | [_], _ => rfl⟩
  has_names := ⟨f_has_names, _, PySem.W.mg_of X G a_has_names, fun_mk (st := s_has_names) l_has_names d_has_names p_has_names, Fun.binds (fun_mk (st := s_has_names) l_has_names d_has_names p_has_names) fun _ _ _ _ _ _ us hl => match us, hl with | [_], _ => rfl⟩
  is_name := ⟨f_is_name, _, PySem.W.mg_of X G a_is_name, fun_mk (st := s_is_name) l_is_name d_is_name p_is_name, Fun.binds (fun_mk (st := s_is_name) l_is_name d_is_name p_is_name) fun _ _ _ _ _ _ us hl => match us, hl with | [_], _ => rfl⟩
  is_kind := ⟨f_is_kind, _, PySem.W.mg_of X G a_is_kind, fun_mk (st := s_is_kind) l_is_kind d_is_kind p_is_kind, Fun.binds (fun_mk (st := s_is_kind) l_is_kind d_is_kind p_is_kind) fun _ _ _ _ _ _ us hl => match us, hl with | [_], _ => rfl⟩
  is_row := ⟨f_is_row, _, PySem.W.mg_of X G a_is_row, fun_mk (st := s_is_row) l_is_row d_is_row p_is_row, Fun.binds (fun_mk (st := s_is_row) l_is_row d_is_row p_is_row) fun _ _ _ _ _ _ us hl => match us, hl with | [_, _], _ => rfl⟩
  is_part := ⟨f_is_part, _, PySem.W.mg_of X G a_is_part, fun_mk (st := s_is_part) l_is_part d_is_part p_is_part, Fun.binds (fun_mk (st := s_is_part) l_is_part d_is_part p_is_part) fun _ _ _ _ _ _ us hl => match us, hl with | [_, _], _ => rfl⟩
  done := ⟨f_done, _, PySem.W.mg_of X G a_done, fun_mk (st := s_done) l_done d_done p_done, Fun.binds (fun_mk (st := s_done) l_done d_done p_done) fun _ _ _ _ _ _ us hl => match us, hl with | [_, _, _], _ => rfl⟩
  done_all := ⟨f_done_all, _, PySem.W.mg_of X G a_done_all, fun_mk (st := s_done_all) l_done_all d_done_all p_done_all, Fun.binds (fun_mk (st := s_done_all) l_done_all d_done_all p_done_all) fun _ _ _ _ _ _ us hl => match us, hl with | [_, _, _], _ => rfl⟩
  can_do := ⟨f_can_do, _, PySem.W.mg_of X G a_can_do, fun_mk (st := s_can_do) l_can_do d_can_do p_can_do, Fun.binds (fun_mk (st := s_can_do) l_can_do d_can_do p_can_do) fun _ _ _ _ _ _ us hl => match us, hl with | [_, _, _], _ => rfl⟩
  text_behind := ⟨f_text_behind, _, PySem.W.mg_of X G a_text_behind, fun_mk (st := s_text_behind) l_text_behind d_text_behind p_text_behind, Fun.binds (fun_mk (st := s_text_behind) l_text_behind d_text_behind p_text_behind) fun _ _ _ _ _ _ us hl => match us, hl with | [_, _, _], _ => rfl⟩
  check_text := ⟨f_check_text, _, PySem.W.mg_of X G a_check_text, fun_mk (st := s_check_text) l_check_text d_check_text p_check_text, Fun.binds (fun_mk (st := s_check_text) l_check_text d_check_text p_check_text) fun _ _ _ _ _ _ us hl => match us, hl with | [_], _ => rfl⟩
  check_changes := ⟨f_check_changes, _, PySem.W.mg_of X G a_check_changes, fun_mk (st := s_check_changes) l_check_changes d_check_changes p_check_changes, Fun.binds (fun_mk (st := s_check_changes) l_check_changes d_check_changes p_check_changes) fun _ _ _ _ _ _ us hl => match us, hl with | [_, _], _ => rfl⟩
  is_text := ⟨f_is_text, _, PySem.W.mg_of X G a_is_text, fun_mk (st := s_is_text) l_is_text d_is_text p_is_text, Fun.binds (fun_mk (st := s_is_text) l_is_text d_is_text p_is_text) fun _ _ _ _ _ _ us hl => match us, hl with | [_], _ => rfl⟩
  is_change := ⟨f_is_change, _, PySem.W.mg_of X G a_is_change, fun_mk (st := s_is_change) l_is_change d_is_change p_is_change, Fun.binds (fun_mk (st := s_is_change) l_is_change d_is_change p_is_change) fun _ _ _ _ _ _ us hl => match us, hl with | [_, _], _ => rfl⟩
  taken_back := ⟨f_taken_back, _, PySem.W.mg_of X G a_taken_back, fun_mk (st := s_taken_back) l_taken_back d_taken_back p_taken_back, Fun.binds (fun_mk (st := s_taken_back) l_taken_back d_taken_back p_taken_back) fun _ _ _ _ _ _ us hl => match us, hl with | [_, _, _], _ => rfl⟩
  kind_back := ⟨f_kind_back, _, PySem.W.mg_of X G a_kind_back, fun_mk (st := s_kind_back) l_kind_back d_kind_back p_kind_back, Fun.binds (fun_mk (st := s_kind_back) l_kind_back d_kind_back p_kind_back) fun _ _ _ _ _ _ us hl => match us, hl with | [_, _], _ => rfl⟩
  list_back := ⟨f_list_back, _, PySem.W.mg_of X G a_list_back, fun_mk (st := s_list_back) l_list_back d_list_back p_list_back, Fun.binds (fun_mk (st := s_list_back) l_list_back d_list_back p_list_back) fun _ _ _ _ _ _ us hl => match us, hl with | [_, _, _], _ => rfl⟩
  turned_kinds := ⟨f_turned_kinds, _, PySem.W.mg_of X G a_turned_kinds, fun_mk (st := s_turned_kinds) l_turned_kinds d_turned_kinds p_turned_kinds, Fun.binds (fun_mk (st := s_turned_kinds) l_turned_kinds d_turned_kinds p_turned_kinds) fun _ _ _ _ _ _ us hl => match us, hl with | [_], _ => rfl⟩
  turned := ⟨f_turned, _, PySem.W.mg_of X G a_turned, fun_mk (st := s_turned) l_turned d_turned p_turned, Fun.binds (fun_mk (st := s_turned) l_turned d_turned p_turned) fun _ _ _ _ _ _ us hl => match us, hl with | [_, _, _], _ => rfl⟩
  check_one := ⟨f_check_one, _, PySem.W.mg_of X G a_check_one, fun_mk (st := s_check_one) l_check_one d_check_one p_check_one, Fun.binds (fun_mk (st := s_check_one) l_check_one d_check_one p_check_one) fun _ _ _ _ _ _ us hl => match us, hl with | [_, _, _], _ => rfl⟩
  change_back := ⟨f_change_back, _, PySem.W.mg_of X G a_change_back, fun_mk (st := s_change_back) l_change_back d_change_back p_change_back, Fun.binds (fun_mk (st := s_change_back) l_change_back d_change_back p_change_back) fun _ _ _ _ _ _ us hl => match us, hl with | [_, _, _], _ => rfl⟩
  name_back := ⟨f_name_back, _, PySem.W.mg_of X G a_name_back, fun_mk (st := s_name_back) l_name_back d_name_back p_name_back, Fun.binds (fun_mk (st := s_name_back) l_name_back d_name_back p_name_back) fun _ _ _ _ _ _ us hl => match us, hl with | [_, _], _ => rfl⟩
  turned_back := ⟨f_turned_back, _, PySem.W.mg_of X G a_turned_back, fun_mk (st := s_turned_back) l_turned_back d_turned_back p_turned_back, Fun.binds (fun_mk (st := s_turned_back) l_turned_back d_turned_back p_turned_back) fun _ _ _ _ _ _ us hl => match us, hl with | [_], _ => rfl⟩
  lost_numbers := ⟨f_lost_numbers, _, PySem.W.mg_of X G a_lost_numbers, fun_mk (st := s_lost_numbers) l_lost_numbers d_lost_numbers p_lost_numbers, Fun.binds (fun_mk (st := s_lost_numbers) l_lost_numbers d_lost_numbers p_lost_numbers) fun _ _ _ _ _ _ us hl => match us, hl with | [_], _ => rfl⟩
  turned_kind := ⟨f_turned_kind, _, PySem.W.mg_of X G a_turned_kind, fun_mk (st := s_turned_kind) l_turned_kind d_turned_kind p_turned_kind, Fun.binds (fun_mk (st := s_turned_kind) l_turned_kind d_turned_kind p_turned_kind) fun _ _ _ _ _ _ us hl => match us, hl with | [_], _ => rfl⟩
  _law_draw := ⟨f__law_draw, _, PySem.W.mg_of X G a__law_draw, fun_mk (st := s__law_draw) l__law_draw d__law_draw p__law_draw, Fun.binds (fun_mk (st := s__law_draw) l__law_draw d__law_draw p__law_draw) fun _ _ _ _ _ _ us hl => match us, hl with | [_, _, _], _ => rfl⟩
  _law_all_kinds := ⟨f__law_all_kinds, _, PySem.W.mg_of X G a__law_all_kinds, fun_mk (st := s__law_all_kinds) l__law_all_kinds d__law_all_kinds p__law_all_kinds, Fun.binds (fun_mk (st := s__law_all_kinds) l__law_all_kinds d__law_all_kinds p__law_all_kinds) fun _ _ _ _ _ _ us hl => match us, hl with | [], _ => rfl⟩
  _law_some_kinds := ⟨f__law_some_kinds, _, PySem.W.mg_of X G a__law_some_kinds, fun_mk (st := s__law_some_kinds) l__law_some_kinds d__law_some_kinds p__law_some_kinds, Fun.binds (fun_mk (st := s__law_some_kinds) l__law_some_kinds d__law_some_kinds p__law_some_kinds) fun _ _ _ _ _ _ us hl => match us, hl with | [_, _, _], _ => rfl⟩
  _law_behind := ⟨f__law_behind, _, PySem.W.mg_of X G a__law_behind, fun_mk (st := s__law_behind) l__law_behind d__law_behind p__law_behind, Fun.binds (fun_mk (st := s__law_behind) l__law_behind d__law_behind p__law_behind) fun _ _ _ _ _ _ us hl => match us, hl with | [_, _, _], _ => rfl⟩
  _law_back := ⟨f__law_back, _, PySem.W.mg_of X G a__law_back, fun_mk (st := s__law_back) l__law_back d__law_back p__law_back, Fun.binds (fun_mk (st := s__law_back) l__law_back d__law_back p__law_back) fun _ _ _ _ _ _ us hl => match us, hl with | [_], _ => rfl⟩
  law_ := ⟨f_law, _, PySem.W.mg_of X G a_law, fun_mk (st := s_law) l_law d_law p_law, Fun.binds (fun_mk (st := s_law) l_law d_law p_law) fun _ _ _ _ _ _ us hl => match us, hl with | [_], _ => rfl⟩
  cChangeError := ⟨c_ChangeError, PySem.W.mg_of X G a_ChangeError, k_ChangeError⟩
  cBadKinds := ⟨c_BadKinds, PySem.W.mg_of X G a_BadKinds, k_BadKinds⟩
  cBadChange := ⟨c_BadChange, PySem.W.mg_of X G a_BadChange, k_BadChange⟩
  cBadText := ⟨c_BadText, PySem.W.mg_of X G a_BadText, k_BadText⟩
  cCannotDo := ⟨c_CannotDo, PySem.W.mg_of X G a_CannotDo, k_CannotDo⟩
  cKinds := ⟨c_Kinds, PySem.W.mg_of X G a_Kinds, k_Kinds⟩
  BadKinds_init := ⟨f_BadKinds_init, _, i_BadKinds_init, g_BadKinds_init, fun_mk (st := s_BadKinds_init) l_BadKinds_init d_BadKinds_init p_BadKinds_init, Fun.binds (fun_mk (st := s_BadKinds_init) l_BadKinds_init d_BadKinds_init p_BadKinds_init) fun _ _ _ _ _ _ us hl => match us, hl with | [_, _], _ => rfl⟩
  BadChange_init := ⟨f_BadChange_init, _, i_BadChange_init, g_BadChange_init, fun_mk (st := s_BadChange_init) l_BadChange_init d_BadChange_init p_BadChange_init, Fun.binds (fun_mk (st := s_BadChange_init) l_BadChange_init d_BadChange_init p_BadChange_init) fun _ _ _ _ _ _ us hl => match us, hl with | [_, _], _ => rfl⟩
  CannotDo_init := ⟨f_CannotDo_init, _, i_CannotDo_init, g_CannotDo_init, fun_mk (st := s_CannotDo_init) l_CannotDo_init d_CannotDo_init p_CannotDo_init, Fun.binds (fun_mk (st := s_CannotDo_init) l_CannotDo_init d_CannotDo_init p_CannotDo_init) fun _ _ _ _ _ _ us hl => match us, hl with | [_, _], _ => rfl⟩
  Kinds_init := ⟨f_Kinds_init, _, i_Kinds_init, g_Kinds_init, fun_mk (st := s_Kinds_init) l_Kinds_init d_Kinds_init p_Kinds_init, Fun.binds (fun_mk (st := s_Kinds_init) l_Kinds_init d_Kinds_init p_Kinds_init) fun _ _ _ _ _ _ us hl => match us, hl with | [_, _], _ => rfl⟩
  Kinds_getitem := ⟨f_Kinds_getitem, _, i_Kinds_getitem, g_Kinds_getitem, fun_mk (st := s_Kinds_getitem) l_Kinds_getitem d_Kinds_getitem p_Kinds_getitem, Fun.binds (fun_mk (st := s_Kinds_getitem) l_Kinds_getitem d_Kinds_getitem p_Kinds_getitem) fun _ _ _ _ _ _ us hl => match us, hl with | [_, _], _ => rfl⟩
  Kinds_contains := ⟨f_Kinds_contains, _, i_Kinds_contains, g_Kinds_contains, fun_mk (st := s_Kinds_contains) l_Kinds_contains d_Kinds_contains p_Kinds_contains, Fun.binds (fun_mk (st := s_Kinds_contains) l_Kinds_contains d_Kinds_contains p_Kinds_contains) fun _ _ _ _ _ _ us hl => match us, hl with | [_, _], _ => rfl⟩
  Kinds_len := ⟨f_Kinds_len, _, i_Kinds_len, g_Kinds_len, fun_mk (st := s_Kinds_len) l_Kinds_len d_Kinds_len p_Kinds_len, Fun.binds (fun_mk (st := s_Kinds_len) l_Kinds_len d_Kinds_len p_Kinds_len) fun _ _ _ _ _ _ us hl => match us, hl with | [_], _ => rfl⟩
  Kinds_eq := ⟨f_Kinds_eq, _, i_Kinds_eq, g_Kinds_eq, fun_mk (st := s_Kinds_eq) l_Kinds_eq d_Kinds_eq p_Kinds_eq, Fun.binds (fun_mk (st := s_Kinds_eq) l_Kinds_eq d_Kinds_eq p_Kinds_eq) fun _ _ _ _ _ _ us hl => match us, hl with | [_, _], _ => rfl⟩
  Kinds_names := ⟨f_Kinds_names, _, i_Kinds_names, g_Kinds_names, fun_mk (st := s_Kinds_names) l_Kinds_names d_Kinds_names p_Kinds_names, Fun.binds (fun_mk (st := s_Kinds_names) l_Kinds_names d_Kinds_names p_Kinds_names) fun _ _ _ _ _ _ us hl => match us, hl with | [_], _ => rfl⟩
  oBadKinds := ⟨⟨nm_BadKinds, q_BadKinds, N_BadKinds, bs_BadKinds, bm_BadKinds, sn_BadKinds, sub_BadKinds, ab_BadKinds, col_BadKinds, dd_BadKinds, m0_BadKinds, m1_BadKinds, m2_BadKinds, m3_BadKinds, m5_BadKinds, xl_BadKinds, xr_BadKinds⟩, sa_BadKinds, ex_BadKinds, t_BadKinds, k_BadKinds⟩
  oBadChange := ⟨⟨nm_BadChange, q_BadChange, N_BadChange, bs_BadChange, bm_BadChange, sn_BadChange, sub_BadChange, ab_BadChange, col_BadChange, dd_BadChange, m0_BadChange, m1_BadChange, m2_BadChange, m3_BadChange, m5_BadChange, xl_BadChange, xr_BadChange⟩, sa_BadChange, ex_BadChange, t_BadChange, k_BadChange⟩
  oCannotDo := ⟨⟨nm_CannotDo, q_CannotDo, N_CannotDo, bs_CannotDo, bm_CannotDo, sn_CannotDo, sub_CannotDo, ab_CannotDo, col_CannotDo, dd_CannotDo, m0_CannotDo, m1_CannotDo, m2_CannotDo, m3_CannotDo, m5_CannotDo, xl_CannotDo, xr_CannotDo⟩, sa_CannotDo, ex_CannotDo, t_CannotDo, k_CannotDo⟩
  eBadKinds := ⟨⟨cl_BadKinds, ga_BadKinds, gg_BadKinds, ex_BadKinds, hd_BadKinds, cc_BadKinds, cg, ct, mo_BadKinds⟩, t_BadKinds, kit_of cl_ChangeError t_ChangeError us_BadKinds (fun z => nomatch z)⟩
  eBadChange := ⟨⟨cl_BadChange, ga_BadChange, gg_BadChange, ex_BadChange, hd_BadChange, cc_BadChange, cg, ct, mo_BadChange⟩, t_BadChange, kit_of cl_ChangeError t_ChangeError us_BadChange (fun z => nomatch z)⟩
  eCannotDo := ⟨⟨cl_CannotDo, ga_CannotDo, gg_CannotDo, ex_CannotDo, hd_CannotDo, cc_CannotDo, cg, ct, mo_CannotDo⟩, t_CannotDo, kit_of cl_ChangeError t_ChangeError us_CannotDo (fun z => nomatch z)⟩
  eBadText := ⟨⟨cl_BadText, ga_BadText, gg_BadText, ex_BadText, hd_BadText, cc_BadText, cg, ct, mo_BadText⟩, t_BadText, kit_of cl_ChangeError t_ChangeError us_BadText (fun z => nomatch z)⟩
  xBadKinds := ⟨x_BadKinds_BadKinds, x_BadKinds_BadChange, x_BadKinds_CannotDo, x_BadKinds_BadText⟩
  xBadChange := ⟨x_BadChange_BadKinds, x_BadChange_BadChange, x_BadChange_CannotDo, x_BadChange_BadText⟩
  xCannotDo := ⟨x_CannotDo_BadKinds, x_CannotDo_BadChange, x_CannotDo_CannotDo, x_CannotDo_BadText⟩
  xBadText := ⟨x_BadText_BadKinds, x_BadText_BadChange, x_BadText_CannotDo, x_BadText_BadText⟩
  yBadText := x_BadText
  zBadKinds := z_BadKinds
  zBadChange := z_BadChange
  zCannotDo := z_CannotDo
  kf := ⟨⟨pg, hdK, po, saK⟩, nT, ⟨mkI, i_Kinds_init, g_Kinds_init, k_Kinds⟩, fn_getitem, ne, mroK, dictK, kit_of cl_Kinds t_Kinds dictK (fun _ => rfl), kit_of cl_Kinds t_Kinds noneK (fun _ => rfl), caK, cg, ct⟩
  bf := ⟨PySem.W.mg_none_of X G n_isinstance, PySem.W.mg_none_of X G n_str, PySem.W.mg_none_of X G n_int, PySem.W.mg_none_of X G n_bool, PySem.W.mg_none_of X G n_tuple, PySem.W.mg_none_of X G n_list, PySem.W.mg_none_of X G n_dict, PySem.W.mg_none_of X G n_len, PySem.W.mg_none_of X G n_all, PySem.W.mg_none_of X G n_any, PySem.W.mg_none_of X G n_set, PySem.W.mg_none_of X G n_sorted, PySem.W.mg_none_of X G n_enumerate, PySem.W.mg_none_of X G n_range, PySem.W.mg_none_of X G n_abs, PySem.W.mg_none_of X G n_reversed, PySem.W.mg_none_of X G n_TypeError, PySem.W.mg_none_of X G n_ValueError⟩
end K41

end

section
open PySem PySem.W PyProof.Rows
set_option maxRecDepth 100000 in
set_option maxHeartbeats 0 in
theorem PySem.Challenge.cw_changetables_k05_whole_ways_back_holds : PySem.Challenge.rw_changetables_k05_whole_ways_back.Holds := by
  w_on; o_law; k_head; (case hw => w_witness2)
  k_fill
  refine LamX.walk_ofTs (l := PySem.Challenge.rw_changetables_k05_whole_ways_back) (n := 63) (k := 24) (x := "script") (CX := fun _ => L2.CX0) rfl (by decide) rfl ⟨rfl, by decide, by decide⟩ (fun w h Y => PySem.W.kIn_of Y) ?F (fun _ _ _ _ _ z => z)
  case F =>
    intro w mg fa h Y KX G hmg
    refine' K41.end_of (K41.top_of KX G ?a_ChangeError ?k_ChangeError ?a_BadKinds ?k_BadKinds ?a_BadChange ?k_BadChange ?a_BadText ?k_BadText ?a_CannotDo ?k_CannotDo ?a_Kinds ?k_Kinds ?a__wall ?a_check_kinds ?a_needs_letter ?a_is_whole ?a_has_names ?a_is_name ?a_is_kind ?a_is_row ?a_is_part ?a_done ?a_done_all ?a_can_do ?a_text_behind ?a_check_text ?a_check_changes ?a_is_text ?a_is_change ?a_taken_back ?a_kind_back ?a_list_back ?a_turned_kinds ?a_turned ?a_check_one ?a_change_back ?a_name_back ?a_turned_back ?a_lost_numbers ?a_turned_kind ?a__law_draw ?a__law_all_kinds ?a__law_some_kinds ?a__law_behind ?a__law_back ?a_law ?i_BadKinds_init ?g_BadKinds_init ?i_BadChange_init ?g_BadChange_init ?i_CannotDo_init ?g_CannotDo_init ?i_Kinds_init ?g_Kinds_init ?i_Kinds_getitem ?g_Kinds_getitem ?i_Kinds_contains ?g_Kinds_contains ?i_Kinds_len ?g_Kinds_len ?i_Kinds_eq ?g_Kinds_eq ?i_Kinds_names ?g_Kinds_names ?l__wall ?d__wall ?p__wall ?l_check_kinds ?d_check_kinds ?p_check_kinds ?l_needs_letter ?d_needs_letter ?p_needs_letter ?l_is_whole ?d_is_whole ?p_is_whole ?l_has_names ?d_has_names ?p_has_names ?l_is_name ?d_is_name ?p_is_name ?l_is_kind ?d_is_kind ?p_is_kind ?l_is_row ?d_is_row ?p_is_row ?l_is_part ?d_is_part ?p_is_part ?l_done ?d_done ?p_done ?l_done_all ?d_done_all ?p_done_all ?l_can_do ?d_can_do ?p_can_do ?l_text_behind ?d_text_behind ?p_text_behind ?l_check_text ?d_check_text ?p_check_text ?l_check_changes ?d_check_changes ?p_check_changes ?l_is_text ?d_is_text ?p_is_text ?l_is_change ?d_is_change ?p_is_change ?l_taken_back ?d_taken_back ?p_taken_back ?l_kind_back ?d_kind_back ?p_kind_back ?l_list_back ?d_list_back ?p_list_back ?l_turned_kinds ?d_turned_kinds ?p_turned_kinds ?l_turned ?d_turned ?p_turned ?l_check_one ?d_check_one ?p_check_one ?l_change_back ?d_change_back ?p_change_back ?l_name_back ?d_name_back ?p_name_back ?l_turned_back ?d_turned_back ?p_turned_back ?l_lost_numbers ?d_lost_numbers ?p_lost_numbers ?l_turned_kind ?d_turned_kind ?p_turned_kind ?l__law_draw ?d__law_draw ?p__law_draw ?l__law_all_kinds ?d__law_all_kinds ?p__law_all_kinds ?l__law_some_kinds ?d__law_some_kinds ?p__law_some_kinds ?l__law_behind ?d__law_behind ?p__law_behind ?l__law_back ?d__law_back ?p__law_back ?l_law ?d_law ?p_law ?l_BadKinds_init ?d_BadKinds_init ?p_BadKinds_init ?l_BadChange_init ?d_BadChange_init ?p_BadChange_init ?l_CannotDo_init ?d_CannotDo_init ?p_CannotDo_init ?l_Kinds_init ?d_Kinds_init ?p_Kinds_init ?l_Kinds_getitem ?d_Kinds_getitem ?p_Kinds_getitem ?l_Kinds_contains ?d_Kinds_contains ?p_Kinds_contains ?l_Kinds_len ?d_Kinds_len ?p_Kinds_len ?l_Kinds_eq ?d_Kinds_eq ?p_Kinds_eq ?l_Kinds_names ?d_Kinds_names ?p_Kinds_names ?xl_BadKinds ?xr_BadKinds ?sa_BadKinds ?xl_BadChange ?xr_BadChange ?sa_BadChange ?xl_CannotDo ?xr_CannotDo ?sa_CannotDo ?cl_BadKinds ?ga_BadKinds ?gg_BadKinds ?ex_BadKinds ?hd_BadKinds ?cc_BadKinds ?mo_BadKinds ?t_BadKinds ?us_BadKinds ?x_BadKinds_BadKinds ?x_BadKinds_BadChange ?x_BadKinds_CannotDo ?x_BadKinds_BadText ?cl_BadChange ?ga_BadChange ?gg_BadChange ?ex_BadChange ?hd_BadChange ?cc_BadChange ?mo_BadChange ?t_BadChange ?us_BadChange ?x_BadChange_BadKinds ?x_BadChange_BadChange ?x_BadChange_CannotDo ?x_BadChange_BadText ?cl_CannotDo ?ga_CannotDo ?gg_CannotDo ?ex_CannotDo ?hd_CannotDo ?cc_CannotDo ?mo_CannotDo ?t_CannotDo ?us_CannotDo ?x_CannotDo_BadKinds ?x_CannotDo_BadChange ?x_CannotDo_CannotDo ?x_CannotDo_BadText ?cl_BadText ?ga_BadText ?gg_BadText ?ex_BadText ?hd_BadText ?cc_BadText ?mo_BadText ?t_BadText ?us_BadText ?x_BadText_BadKinds ?x_BadText_BadChange ?x_BadText_CannotDo ?x_BadText_BadText ?cl_ChangeError ?t_ChangeError ?cl_Kinds ?t_Kinds ?cg ?ct ?x_BadText ?z_BadKinds ?z_BadChange ?z_CannotDo ?pg ?hdK ?po ?saK ?mkI ?nT ?fn_getitem ?ne ?mroK ?dictK ?noneK ?caK ?n_isinstance ?n_str ?n_int ?n_bool ?n_tuple ?n_list ?n_dict ?n_len ?n_all ?n_any ?n_set ?n_sorted ?n_enumerate ?n_range ?n_abs ?n_reversed ?n_TypeError ?n_ValueError) hmg
    (case a_ChangeError => k_is)
    (case k_ChangeError => k_is)
    (case a_BadKinds => k_is)
    (case k_BadKinds => k_is)
    (case a_BadChange => k_is)
    (case k_BadChange => k_is)
    (case a_BadText => k_is)
    (case k_BadText => k_is)
    (case a_CannotDo => k_is)
    (case k_CannotDo => k_is)
    (case a_Kinds => k_is)
    (case k_Kinds => k_is)
    (case a__wall => k_is)
    (case a_check_kinds => k_is)
    (case a_needs_letter => k_is)
    (case a_is_whole => k_is)
    (case a_has_names => k_is)
    (case a_is_name => k_is)
    (case a_is_kind => k_is)
    (case a_is_row => k_is)
    (case a_is_part => k_is)
    (case a_done => k_is)
    (case a_done_all => k_is)
    (case a_can_do => k_is)
    (case a_text_behind => k_is)
    (case a_check_text => k_is)
    (case a_check_changes => k_is)
    (case a_is_text => k_is)
    (case a_is_change => k_is)
    (case a_taken_back => k_is)
    (case a_kind_back => k_is)
    (case a_list_back => k_is)
    (case a_turned_kinds => k_is)
    (case a_turned => k_is)
    (case a_check_one => k_is)
    (case a_change_back => k_is)
    (case a_name_back => k_is)
    (case a_turned_back => k_is)
    (case a_lost_numbers => k_is)
    (case a_turned_kind => k_is)
    (case a__law_draw => k_is)
    (case a__law_all_kinds => k_is)
    (case a__law_some_kinds => k_is)
    (case a__law_behind => k_is)
    (case a__law_back => k_is)
    (case a_law => k_is)
    (case i_BadKinds_init => k_is)
    (case g_BadKinds_init => k_is)
    (case i_BadChange_init => k_is)
    (case g_BadChange_init => k_is)
    (case i_CannotDo_init => k_is)
    (case g_CannotDo_init => k_is)
    (case i_Kinds_init => k_is)
    (case g_Kinds_init => k_is)
    (case i_Kinds_getitem => k_is)
    (case g_Kinds_getitem => k_is)
    (case i_Kinds_contains => k_is)
    (case g_Kinds_contains => k_is)
    (case i_Kinds_len => k_is)
    (case g_Kinds_len => k_is)
    (case i_Kinds_eq => k_is)
    (case g_Kinds_eq => k_is)
    (case i_Kinds_names => k_is)
    (case g_Kinds_names => k_is)
    (case l__wall => k_is)
    (case d__wall => k_is)
    (case p__wall => k_is)
    (case l_check_kinds => k_is)
    (case d_check_kinds => k_is)
    (case p_check_kinds => k_is)
    (case l_needs_letter => k_is)
    (case d_needs_letter => k_is)
    (case p_needs_letter => k_is)
    (case l_is_whole => k_is)
    (case d_is_whole => k_is)
    (case p_is_whole => k_is)
    (case l_has_names => k_is)
    (case d_has_names => k_is)
    (case p_has_names => k_is)
    (case l_is_name => k_is)
    (case d_is_name => k_is)
    (case p_is_name => k_is)
    (case l_is_kind => k_is)
    (case d_is_kind => k_is)
    (case p_is_kind => k_is)
    (case l_is_row => k_is)
    (case d_is_row => k_is)
    (case p_is_row => k_is)
    (case l_is_part => k_is)
    (case d_is_part => k_is)
    (case p_is_part => k_is)
    (case l_done => k_is)
    (case d_done => k_is)
    (case p_done => k_is)
    (case l_done_all => k_is)
    (case d_done_all => k_is)
    (case p_done_all => k_is)
    (case l_can_do => k_is)
    (case d_can_do => k_is)
    (case p_can_do => k_is)
    (case l_text_behind => k_is)
    (case d_text_behind => k_is)
    (case p_text_behind => k_is)
    (case l_check_text => k_is)
    (case d_check_text => k_is)
    (case p_check_text => k_is)
    (case l_check_changes => k_is)
    (case d_check_changes => k_is)
    (case p_check_changes => k_is)
    (case l_is_text => k_is)
    (case d_is_text => k_is)
    (case p_is_text => k_is)
    (case l_is_change => k_is)
    (case d_is_change => k_is)
    (case p_is_change => k_is)
    (case l_taken_back => k_is)
    (case d_taken_back => k_is)
    (case p_taken_back => k_is)
    (case l_kind_back => k_is)
    (case d_kind_back => k_is)
    (case p_kind_back => k_is)
    (case l_list_back => k_is)
    (case d_list_back => k_is)
    (case p_list_back => k_is)
    (case l_turned_kinds => k_is)
    (case d_turned_kinds => k_is)
    (case p_turned_kinds => k_is)
    (case l_turned => k_is)
    (case d_turned => k_is)
    (case p_turned => k_is)
    (case l_check_one => k_is)
    (case d_check_one => k_is)
    (case p_check_one => k_is)
    (case l_change_back => k_is)
    (case d_change_back => k_is)
    (case p_change_back => k_is)
    (case l_name_back => k_is)
    (case d_name_back => k_is)
    (case p_name_back => k_is)
    (case l_turned_back => k_is)
    (case d_turned_back => k_is)
    (case p_turned_back => k_is)
    (case l_lost_numbers => k_is)
    (case d_lost_numbers => k_is)
    (case p_lost_numbers => k_is)
    (case l_turned_kind => k_is)
    (case d_turned_kind => k_is)
    (case p_turned_kind => k_is)
    (case l__law_draw => k_is)
    (case d__law_draw => k_is)
    (case p__law_draw => k_is)
    (case l__law_all_kinds => k_is)
    (case d__law_all_kinds => k_is)
    (case p__law_all_kinds => k_is)
    (case l__law_some_kinds => k_is)
    (case d__law_some_kinds => k_is)
    (case p__law_some_kinds => k_is)
    (case l__law_behind => k_is)
    (case d__law_behind => k_is)
    (case p__law_behind => k_is)
    (case l__law_back => k_is)
    (case d__law_back => k_is)
    (case p__law_back => k_is)
    (case l_law => k_is)
    (case d_law => k_is)
    (case p_law => k_is)
    (case l_BadKinds_init => k_is)
    (case d_BadKinds_init => k_is)
    (case p_BadKinds_init => k_is)
    (case l_BadChange_init => k_is)
    (case d_BadChange_init => k_is)
    (case p_BadChange_init => k_is)
    (case l_CannotDo_init => k_is)
    (case d_CannotDo_init => k_is)
    (case p_CannotDo_init => k_is)
    (case l_Kinds_init => k_is)
    (case d_Kinds_init => k_is)
    (case p_Kinds_init => k_is)
    (case l_Kinds_getitem => k_is)
    (case d_Kinds_getitem => k_is)
    (case p_Kinds_getitem => k_is)
    (case l_Kinds_contains => k_is)
    (case d_Kinds_contains => k_is)
    (case p_Kinds_contains => k_is)
    (case l_Kinds_len => k_is)
    (case d_Kinds_len => k_is)
    (case p_Kinds_len => k_is)
    (case l_Kinds_eq => k_is)
    (case d_Kinds_eq => k_is)
    (case p_Kinds_eq => k_is)
    (case l_Kinds_names => k_is)
    (case d_Kinds_names => k_is)
    (case p_Kinds_names => k_is)
    (case xl_BadKinds => k_is)
    (case xr_BadKinds => decide +kernel)
    (case sa_BadKinds => k_is)
    (case xl_BadChange => k_is)
    (case xr_BadChange => decide +kernel)
    (case sa_BadChange => k_is)
    (case xl_CannotDo => k_is)
    (case xr_CannotDo => decide +kernel)
    (case sa_CannotDo => k_is)
    (case cl_BadKinds => k_is)
    (case ga_BadKinds => k_is)
    (case gg_BadKinds => k_is)
    (case ex_BadKinds => k_is)
    (case hd_BadKinds => k_is)
    (case cc_BadKinds => k_is)
    (case mo_BadKinds => k_is)
    (case t_BadKinds => k_is)
    (case us_BadKinds => k_is)
    (case x_BadKinds_BadKinds => k_is)
    (case x_BadKinds_BadChange => k_is)
    (case x_BadKinds_CannotDo => k_is)
    (case x_BadKinds_BadText => k_is)
    (case cl_BadChange => k_is)
    (case ga_BadChange => k_is)
    (case gg_BadChange => k_is)
    (case ex_BadChange => k_is)
    (case hd_BadChange => k_is)
    (case cc_BadChange => k_is)
    (case mo_BadChange => k_is)
    (case t_BadChange => k_is)
    (case us_BadChange => k_is)
    (case x_BadChange_BadKinds => k_is)
    (case x_BadChange_BadChange => k_is)
    (case x_BadChange_CannotDo => k_is)
    (case x_BadChange_BadText => k_is)
    (case cl_CannotDo => k_is)
    (case ga_CannotDo => k_is)
    (case gg_CannotDo => k_is)
    (case ex_CannotDo => k_is)
    (case hd_CannotDo => k_is)
    (case cc_CannotDo => k_is)
    (case mo_CannotDo => k_is)
    (case t_CannotDo => k_is)
    (case us_CannotDo => k_is)
    (case x_CannotDo_BadKinds => k_is)
    (case x_CannotDo_BadChange => k_is)
    (case x_CannotDo_CannotDo => k_is)
    (case x_CannotDo_BadText => k_is)
    (case cl_BadText => k_is)
    (case ga_BadText => k_is)
    (case gg_BadText => k_is)
    (case ex_BadText => k_is)
    (case hd_BadText => k_is)
    (case cc_BadText => k_is)
    (case mo_BadText => k_is)
    (case t_BadText => k_is)
    (case us_BadText => k_is)
    (case x_BadText_BadKinds => k_is)
    (case x_BadText_BadChange => k_is)
    (case x_BadText_CannotDo => k_is)
    (case x_BadText_BadText => k_is)
    (case cl_ChangeError => k_is)
    (case t_ChangeError => k_is)
    (case cl_Kinds => k_is)
    (case t_Kinds => k_is)
    (case cg => k_is)
    (case ct => k_is)
    (case x_BadText => k_exc)
    (case z_BadKinds => k_is)
    (case z_BadChange => k_is)
    (case z_CannotDo => k_is)
    (case pg => k_is)
    (case hdK => k_is)
    (case po => k_is)
    (case saK => k_is)
    (case mkI => k_is)
    (case nT => k_is)
    (case fn_getitem => k_is)
    (case ne => k_is)
    (case mroK => k_is)
    (case dictK => k_is)
    (case noneK => k_is)
    (case caK => k_is)
    (case n_isinstance => k_is)
    (case n_str => k_is)
    (case n_int => k_is)
    (case n_bool => k_is)
    (case n_tuple => k_is)
    (case n_list => k_is)
    (case n_dict => k_is)
    (case n_len => k_is)
    (case n_all => k_is)
    (case n_any => k_is)
    (case n_set => k_is)
    (case n_sorted => k_is)
    (case n_enumerate => k_is)
    (case n_range => k_is)
    (case n_abs => k_is)
    (case n_reversed => k_is)
    (case n_TypeError => k_is)
    (case n_ValueError => k_is)

end
