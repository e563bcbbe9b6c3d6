import PyProof.Rows.All
import Wide.All
import OpenK.AllK
import Wide.FinOn
import HandS.ForMost
import HandS.ForExc
import HandS.Wide
import HandS.Gcd
import HandS.IsInst
import HandS.Property
import HandS.Flow
import HandS.RaiseMore
import HandS.Ends
import HandS.Style
import PySem.Challenge.RW_carpets_k06_orders_and_multiples
set_option Elab.async false
set_option linter.all false
set_option maxRecDepth 100000
set_option maxHeartbeats 2000000
/-! MVA: calls that know that no repr is under way (A.guards), and rules of calls over them. -/
namespace MV
open PySem PySem.Spec PyProof.Rows L2

/-- as FnOk, asked only where no repr is under way -/
structure FnG (P : Program) (w : World) (K : PySem.W.Frag) (mg : Str → Option Value) (base : Heap) (CX : CXT)
    (k : Nat) (f : Addr) (fd : FuncData) (ps : List Str) (sp : Sp) : Prop where
  ln : ∀ vs H Q E, sp vs H Q E → vs.length = ps.length
  go : ∀ (A : Around) (outer : List Env) (s : Shared) (H : Hp) (args : Args) (us : List Value) (vs : List V) (Q : VK) (E : XK),
    Room k A → A.guards = some [] → Env0 P w K mg base A outer s H → BindsTo s fd args (ps.zip us) → Vals vs us →
    sp vs H Q E → codeAny (model P w) A (.call (.ref f) args) (CR CX outer P w H s Q E) s

section
variable {P : Program} {w : World} {K : PySem.W.Frag} {mg : Str → Option Value} {base : Heap} {CX : CXT}
  {k j : Nat} {f : Addr} {fd : FuncData} {ps : List Str} {sp sp' : Sp}

theorem FnG.ofOk (F : FnOk P w K mg base CX k f fd ps sp) : FnG P w K mg base CX k f fd ps sp where
  ln := F.len
  go A outer s H args us vs Q E r _ e b v q := F.run A outer s H args us vs Q E r e b v q

theorem FnG.up (F : FnG P w K mg base CX j f fd ps sp) (h : j ≤ k) : FnG P w K mg base CX k f fd ps sp where
  ln := F.ln
  go A outer s H args us vs Q E r g e b v q := F.go A outer s H args us vs Q E (r.mono h) g e b v q

/-- the rule of a def, the context of its body knowing that no repr is under way -/
theorem fng_of {name qual : Str} {params : Arguments} {body : List Stmt} {scope : Scope} {dV kV doc pm cdv ct oc : Value}
    {an od : Option Addr} {osl : Array (Option Value)} {N : List Str}
    (lk : K.lookup f = some ⟨oc, od, .func (PySem.W.fnOf name qual params body scope dV kV doc pm an cdv ct), osl⟩)
    (hcd : PySem.W.codeIn K cdv qual = true) (S : FnScope N ps scope)
    (ln : ∀ vs H Q E, sp vs H Q E → vs.length = ps.length)
    (hbody : ∀ (A : Around) (outer : List Env) (s : Shared) (H : Hp) (vs : List V) (Q : VK) (E : XK),
      Room k (A.deeper (envOfC qual scope s.heap.objs.size f cdv)) →
      (A.deeper (envOfC qual scope s.heap.objs.size f cdv)).guards = some [] → sp vs H Q E →
      ∃ t, PSs (cxOf CX P w K mg base N qual scope f cdv A outer s H E) body t ∧
        t { nx := fun _ H' => Q .non H', rt := Q } (start N vs) H) :
    FnG P w K mg base CX (k + 1) f (PySem.W.fnOf name qual params body scope dV kV doc pm an cdv ct) ps sp where
  ln := ln
  go A outer s H args us vs Q E hr hg e0 hb r hsp := by
    have keep := fun b o e => (e0.bs b o e).1
    have KX : K.In s.heap := e0.mod.kin.keeps keep
    have kinds : ∀ y ∈ ps.zip us, scope.names.lookup y.1 = some .local ∨ (scope.names.lookup y.1 = some .cell ∧
        ((cellsFrom (s.heap.objs.size + 1) scope.names []).lookup y.1).isSome = true) := by
      rintro ⟨n, v⟩ hy
      cases S.par n (List.of_mem_zip hy).1 with
      | inl q => exact .inl q
      | inr q => exact .inr ⟨q, PySem.W.cellsFrom_some _ _ _ (.inl q)⟩
    apply codeAny_call_function hr.depth (KX _ _ lk) rfl S.co S.gen rfl (PySem.W.codeRec_of KX hcd)
    refine hb _ _ _ _ (wpAny_newFunctionEnv_cells S.kind kinds ?_)
    rintro env rfl s1 x
    refine ⟨(e0.mod.nolimit.keeps keep).keeps x.toInCall.keep, codeAny_func ?_⟩
    obtain ⟨t, ht, q⟩ := hbody A outer s H vs Q E (hr.deeper _) hg hsp
    have I := inv_start (CX := CX) (E := E) S hr.hd e0 (ln _ _ _ _ hsp) r x
    apply wpAny_mono (ht.run [] s1 _ H _ I q)
    · intro fl s' hs
      cases fl with
      | brk => exact (let ⟨_, _, _, z⟩ := hs; False.elim z)
      | cont => exact (let ⟨_, _, _, z⟩ := hs; False.elim z)
      | ret u => exact (let ⟨v, _, H', J, rv, z⟩ := hs; ⟨v, H', J.os, J.bare, J.base, J.hok, rv, z⟩)
      | next => exact (let ⟨_, H', J, z⟩ := hs; ⟨V.non, H', J.os, J.bare, J.base, J.hok, rfl, z⟩)
    · exact fun _ _ hs => hs

/-- the rule of a def of the text; what it raises lies as CX says -/
theorem Fun.g {x qual : Str} {st : Stmt} {N : List Str} (F : Fun K x qual st f fd) (S : FnScope N ps (defScope st))
    (ln : ∀ vs H Q E, sp vs H Q E → vs.length = ps.length)
    (hb : ∀ (cdv : Value) (A : Around) (outer : List Env) (s : Shared) (H : Hp) (vs : List V) (Q : VK) (E : XK),
      Room k (A.deeper (envOfC qual (defScope st) s.heap.objs.size f cdv)) →
      (A.deeper (envOfC qual (defScope st) s.heap.objs.size f cdv)).guards = some [] → sp vs H Q E →
      ∃ t, PSs (cxOf CX P w K mg base N qual (defScope st) f cdv A outer s H E) (defBody st) t ∧
        t { nx := fun _ H' => Q .non H', rt := Q } (start N vs) H) :
    FnG P w K mg base CX (k + 1) f fd ps sp := by
  obtain ⟨oc, od, kV, doc, pm, an, cdv, ct, osl, rfl, lk, hcd⟩ := F.ex
  exact fng_of lk hcd S ln fun A outer s H vs Q E hr hg h => hb cdv A outer s H vs Q E hr hg h

/-- as Fun.g, for a def of which nothing comes out but values: with loops -/
theorem Fun.gn {x qual : Str} {st : Stmt} {N : List Str} (F : Fun K x qual st f fd) (S : FnScope N ps (defScope st))
    (ln : ∀ vs H Q E, sp vs H Q E → vs.length = ps.length)
    (hb : ∀ (cdv : Value) (A : Around) (outer : List Env) (s : Shared) (H : Hp) (vs : List V) (Q : VK) (E : XK),
      Room k (A.deeper (envOfC qual (defScope st) s.heap.objs.size f cdv)) →
      (A.deeper (envOfC qual (defScope st) s.heap.objs.size f cdv)).guards = some [] → sp vs H Q E →
      ∃ t, PSs (cxOf CX P w K mg base N qual (defScope st) f cdv A outer s H E).nox (defBody st) t ∧
        t { nx := fun _ H' => Q .non H', rt := Q } (start N vs) H) :
    FnG P w K mg base CX (k + 1) f fd ps sp :=
  Fun.g F S ln fun cdv A outer s H vs Q E hr hg h => (let ⟨t, p, q⟩ := hb cdv A outer s H vs Q E hr hg h; ⟨t, p.nox, q⟩)
end

/-! ### the call of such a def, by values and in the text -/
section
variable {X : Cx} {CX : CXT} {k : Nat} {f C : Addr} {fd : FuncData} {ps : List Str} {sp : Sp} {dvs : List V} {ds : List Value}
  {E : XK} {x m : Str} {p pos apos : Pos} {e o : Expr} {es : List Expr} {ta : TE} {t : TA}

/-- what a caller reads off a callee's end -/
def Back (X : Cx) (pins : List (Addr × Obj)) (σ : L2.St) (Q : VK) : Result → Shared → Prop
  | .ok (.ret u), s' => EP X pins σ Q u s'
  | .ok _, _ => False
  | .error z, s' => X.xe z s'
theorem ended {pins : List (Addr × Obj)} {σ : L2.St} {H : Hp} {s s' : Shared} {Q : VK} {r : Result} (hx : Passes CX X E)
    (I : Inv X pins σ H s) (h : CR CX X.stack X.prog X.w H s Q E r s') :
    Back X pins σ Q r s' := by
  match r, h with
  | .ok (.ret u), h => exact I.after h
  | .ok .next, h => exact h
  | .ok .brk, h => exact h
  | .ok .cont, h => exact h
  | .error z, h => exact hx pins σ H s z s' I h

theorem runG {A : Around} {pins : List (Addr × Obj)} {σ : L2.St} {H : Hp} {s : Shared} {Q : VK} {us : List Value} {vs : List V}
    (F : FnG X.prog X.w X.K X.mg X.base CX k f fd ps sp) (hr : Room k A) (hg : A.guards = some [])
    (e0 : Env0 X.prog X.w X.K X.mg X.base A X.stack s H) (hb : Binds X.K fd ps ds) (hd : Vals dvs ds) (hx : Passes CX X E)
    (I : Inv X pins σ H s) (r : Vals vs us) (h : sp (vs ++ dvs) H Q E) :
    codeAny (model X.prog X.w) A (.call (.ref f) ⟨us, []⟩) (Back X pins σ Q) s := by
  have r2 := r.append hd
  have hl : (us ++ ds).length = ps.length := r2.length.symm.trans (F.ln _ _ _ _ h)
  exact codeAny_mono (F.go A X.stack s H ⟨us, []⟩ (us ++ ds) (vs ++ dvs) Q E hr hg e0 (hb s us I.kIn hl) r2 h)
    fun r s' hq => ended hx I hq

/-- a call by values -/
theorem callG {pins : List (Addr × Obj)} {σ : L2.St} {H : Hp} {s : Shared} {Q : VK} {us : List Value} {vs : List V}
    (F : FnG X.prog X.w X.K X.mg X.base CX k f fd ps sp) (hr : Room k X.A) (hg : X.A.guards = some [])
    (hb : Binds X.K fd ps ds) (hd : Vals dvs ds) (hx : Passes CX X E)
    (I : Inv X pins σ H s) (r : Vals vs us) (h : sp (vs ++ dvs) H Q E) :
    wpAny (model X.prog X.w) X.A (call (.ref f) us) (EP X pins σ Q) X.xe s := by
  refine wpAny_call (codeAny_mono (runG F hr hg I.env0 hb hd hx I r h) fun z s' q => ?_)
  match z, q with
  | .ok (.ret _), q => exact q
  | .error _, q => exact q

theorem peg_call (F : FnG X.prog X.w X.K X.mg X.base CX k f fd ps sp) (hr : Room k X.A) (hg : X.A.guards = some [])
    (hn : Gl X x) (hm : X.mg x = some (.ref f)) (hk : PySem.W.keepIn X.K (.ref f) = true) (hb : Binds X.K fd ps ds)
    (hd : Vals dvs ds) (hx : Passes CX X E) (ha : PA X (e :: es) t)
    (hdb : (x == ("__debug__" : Str)) = false := by decide)
    (he : starEach (e :: es) X.env = (false, eval e X.env) :: starEach es X.env := by rfl)
    (hpl : (backTo pos (starEach es X.env)).any (·.1) = false := by rfl) :
    PE X (.Call (.Name x p) (e :: es) [] pos) (tCall sp dvs E t) := by
  constructor
  intro pins s σ H Q I h
  apply wpAny_Call_Name_kw
  refine ld_glob I hn hm (PySem.W.callWith_K (h₀ := X.base) I.ok.mod.kin hk ?_ he hpl) hdb
  exact thn (ha.run pos pins s σ H _ I h) fun us s1 ⟨vs, H1, I1, r, q⟩ => ⟨I1.kIn, callG F hr hg hb hd hx I1 r q⟩

theorem peg_call0 (F : FnG X.prog X.w X.K X.mg X.base CX k f fd ps sp) (hr : Room k X.A) (hg : X.A.guards = some [])
    (hn : Gl X x) (hm : X.mg x = some (.ref f)) (hk : PySem.W.keepIn X.K (.ref f) = true) (hb : Binds X.K fd ps ds)
    (hd : Vals dvs ds) (hx : Passes CX X E) (hdb : (x == ("__debug__" : Str)) = false := by decide) :
    PE X (.Call (.Name x p) [] [] pos) (tCall sp dvs E tNil) := by
  constructor
  intro pins s σ H Q I h
  apply wpAny_Call_Name_kw
  exact ld_glob I hn hm (PySem.W.callWith_K0 I.kIn hk (callG (us := []) F hr hg hb hd hx I .nil h)) hdb

/-- o.m(..) -/
theorem peg_meth {pl : Sem Bool} (he : PE X o ta) (c : Cls X.K C) (hm : Meth X.K C m f)
    (F : FnG X.prog X.w X.K X.mg X.base CX k f fd ps sp) (hr : Room k X.A) (hg : X.A.guards = some [])
    (hb : Binds X.K fd ps ds) (hd : Vals dvs ds) (hx : Passes CX X E) (ha : PA X (e :: es) t)
    (hst : starEach (e :: es) X.env = (false, eval e X.env) :: starEach es X.env := by rfl)
    (hpl : (backTo pos (starEach es X.env)).any (·.1) = false := by rfl)
    (ht : eval (.Call (.Attribute o m apos) (e :: es) [] pos) X.env = (do
      let ov ← eval o X.env
      standAt apos.atName
      let (g, first) ← holding [ov] (getMethod ov m pl)
      callWith pos g first (backTo pos (starEach (e :: es) X.env)) (backToKw pos (keywordEach [] X.env))) := by rfl) :
    PE X (.Call (.Attribute o m apos) (e :: es) [] pos) (tMeth C m sp dvs E ta t) := by
  constructor
  intro pins s σ H Q I h
  refine PySem.W.methodCall_KW (pl := pl) (thn (he.run pins s σ H _ I h) ?_) ht
  rintro u s1 ⟨_, H1, I1, rx, a, dx, fs, rfl, ea, l, q⟩
  cases rx
  refine getmeth_ok I1 ea c hm l (PySem.W.callWith_K (first := [.ref a]) (h₀ := X.base) I.ok.mod.kin hm.kp ?_ hst hpl)
  refine thn (ha.run pos pins s1 σ H1 _ I1 q) fun us s2 ⟨vs, H2, I2, r, q2⟩ => ⟨I2.kIn, ?_⟩
  exact callG (us := .ref a :: us) (vs := .ref a :: vs) F hr hg hb hd hx I2 (.cons rfl r) q2

theorem peg_meth0 {pl : Sem Bool} (he : PE X o ta) (c : Cls X.K C) (hm : Meth X.K C m f)
    (F : FnG X.prog X.w X.K X.mg X.base CX k f fd ps sp) (hr : Room k X.A) (hg : X.A.guards = some [])
    (hb : Binds X.K fd ps ds) (hd : Vals dvs ds) (hx : Passes CX X E)
    (ht : eval (.Call (.Attribute o m apos) [] [] pos) X.env = (do
      let ov ← eval o X.env
      standAt apos.atName
      let (g, first) ← holding [ov] (getMethod ov m pl)
      callWith pos g first (backTo pos (starEach [] X.env)) (backToKw pos (keywordEach [] X.env))) := by rfl) :
    PE X (.Call (.Attribute o m apos) [] [] pos) (tMeth C m sp dvs E ta tNil) := by
  constructor
  intro pins s σ H Q I h
  refine PySem.W.methodCall_KW (pl := pl) (thn (he.run pins s σ H _ I h) ?_) ht
  rintro u s1 ⟨_, H1, I1, rx, a, dx, fs, rfl, ea, l, q⟩
  cases rx
  refine getmeth_ok I1 ea c hm l (PySem.W.callWith_K0 (first := [.ref a]) I1.kIn hm.kp ?_)
  exact callG (us := [.ref a]) (vs := [.ref a]) F hr hg hb hd hx I1 (.cons rfl .nil) q

theorem guards_make {A : Around} (h : A.guards = some []) (C : Addr) (us : List Value) (kw : List (Str × Value)) :
    (A.under (.builtin "type.__call__" ⟨.ref C :: us, kw⟩)).guards = some [] := by
  have z : ∀ c : Code, c.isGuard = false → (A.under c).guards = A.guards := fun c hc => by
    simp [Around.under, Code.guards, hc, pushGuards]
  rw [z _ rfl, h]

/-- C(..), by values -/
theorem makeG {pins : List (Addr × Obj)} {σ : L2.St} {H : Hp} {s : Shared} {Q : VK} {us : List Value} {vs : List V} (M : Mk X.K C f)
    (F : FnG X.prog X.w X.K X.mg X.base CX k f fd ps sp) (hr : Room (k + 1) X.A) (hg : X.A.guards = some [])
    (hb : Binds X.K fd ps ds) (hd : Vals dvs ds) (hx : Passes CX X E) (I : Inv X pins σ H s) (r : Vals vs us)
    (h : ∀ x dx, H x = none → H dx = none → dx ≠ x → sp (.ref x :: (vs ++ dvs)) (upd (upd H dx (.own x)) x (.ins C dx []))
      (fun v H2 => v = .non ∧ Q (.ref x) H2) E) :
    wpAny (model X.prog X.w) X.A (call (.ref C) us) (EP X pins σ Q) X.xe s := by
  have n := s.heap.objs.size
  have free : ∀ i, s.heap.objs.size ≤ i → H i = none := fun i hi => I.hok.fresh hi
  have q := h (s.heap.objs.size + 1) s.heap.objs.size (free _ (by omega)) (free _ (by omega)) (by
    show s.heap.objs.size ≠ s.heap.objs.size + 1
    exact Nat.ne_of_lt (Nat.lt_succ_self _))
  have J := Inv.made (C := C) I
  have w2 := runG (us := Value.ref (s.heap.objs.size + 1) :: us) (vs := V.ref (s.heap.objs.size + 1) :: vs) F (hr.make C us [])
    (guards_make hg C us []) (J.env0.make C us []) hb hd hx J (.cons rfl r) q
  refine wpAny_call (make_map (f := f) I.kIn M.makes M.init (beq_iff_eq.mp M.fn) (codeAny_mono w2 ?_))
  rintro (z | (_ | _ | _ | u)) s' hq
  · exact hq
  · exact hq.elim
  · exact hq.elim
  · exact hq.elim
  · obtain ⟨v, H', I3, rv, rfl, q3⟩ := hq
    exact ⟨rv, V.ref (s.heap.objs.size + 1), H', I3, rfl, q3⟩

theorem peg_make (M : Mk X.K C f) (F : FnG X.prog X.w X.K X.mg X.base CX k f fd ps sp) (hr : Room (k + 1) X.A)
    (hg : X.A.guards = some []) (hn : Gl X x) (hm : X.mg x = some (.ref C)) (hb : Binds X.K fd ps ds) (hd : Vals dvs ds)
    (hx : Passes CX X E) (ha : PA X (e :: es) t) (hdb : (x == ("__debug__" : Str)) = false := by decide)
    (he : starEach (e :: es) X.env = (false, eval e X.env) :: starEach es X.env := by rfl)
    (hpl : (backTo pos (starEach es X.env)).any (·.1) = false := by rfl) :
    PE X (.Call (.Name x p) (e :: es) [] pos) (tMake C sp dvs E t) := by
  constructor
  intro pins s σ H Q I h
  apply wpAny_Call_Name_kw
  refine ld_glob I hn hm (PySem.W.callWith_K (h₀ := X.base) I.ok.mod.kin M.kp ?_ he hpl) hdb
  exact thn (ha.run pos pins s σ H _ I h) fun us s1 ⟨vs, H1, I1, r, q⟩ => ⟨I1.kIn, makeG M F hr hg hb hd hx I1 r q⟩
end
end MV

set_option Elab.async false
set_option linter.all false
set_option maxRecDepth 100000
set_option maxHeartbeats 2000000
/-! MVB: the end of a law over FnG; repr of data; own in, ==, !=. -/
namespace MV
open PySem PySem.Spec PyProof.Rows L2

/-! ### the end -/
/-- the abstract heap at the law's entry: the script and nothing else -/
def scriptHp (a : Addr) (o : Obj) (xs : List V) : Hp := fun b => if b = a then some (.frz o (.lst xs)) else none
theorem scriptHp_at {a b : Addr} {o : Obj} {xs : List V} {u : HO} (h : scriptHp a o xs b = some u) : b = a ∧ u = .frz o (.lst xs) := by
  unfold scriptHp at h
  split at h
  · exact ⟨by assumption, (Option.some.inj h).symm⟩
  · cases h
theorem scriptHp_none {a b : Addr} {o : Obj} {xs : List V} (h : b ≠ a) : scriptHp a o xs b = none := if_neg h

/-- what the law's run needs of an abstract heap in which at most the script is tracked -/
theorem law_core {P : Program} {w : World} {K : PySem.W.Frag} {mg mb : Str → Option Value} {k : Nat} {fa a : Addr} {fd : FuncData}
    {x : Str} {sp : Sp} {s₁ : Shared} {H : Hp} {CX : CXT}
    (KX : K.In s₁.heap) (hns : s₁.heap.Ns mainGlobals mg) (hb : s₁.heap.Ns builtinsNs mb) (hbb : ∀ x : Str, x ≠ "__name__" → mb x = bootBuiltins x)
    (hlim : s₁.heap.NoLimit) (hg : s₁.gens = #[]) (hr : Room k callerA)
    (F : ∀ base : Heap, K.In base → base.Ns mainGlobals mg → FnG P w K mg base CX k fa fd [x] sp)
    (hbind : ∀ (s : Shared) (u : Value), BindsTo s fd ⟨[u], []⟩ [(x, u)])
    (hsp : sp [.ref a] H (fun v _ => v = .bl true) fun _ _ _ => False)
    (hCX : ∀ e s', CX [] H s₁ (fun _ _ _ => False) e s' → False)
    (ok : HOk P w H s₁.heap) (only : ∀ b u, H b = some u → K.lookup b = none ∧ ∃ o xs, u = .frz o (.lst xs)) :
    codeAny (model P w) callerA (.call (.ref fa) ⟨[.ref a], []⟩)
      (fun r s' => r = .ok (.ret (.bool true)) ∧ OldK s₁.heap s'.heap ∧ s'.os = s₁.os ∧ AllBare s'.gens) s₁ := by
  have dictFree : ∀ {b : Addr} {o : Obj} {es : Array DictEntry} {ep : Nat}, s₁.heap.get? b = some o → o.data = .dict es ep → H b = none := by
    intro b o es ep e d
    match q : H b with
    | none => rfl
    | some u =>
      obtain ⟨_, ob, xs, rfl⟩ := only b u q
      obtain ⟨e2, _, its, n, _, e3⟩ := ok b _ q
      rw [e2] at e3
      cases e3
      rw [e2] at e
      cases e
      cases d
  have ns : ∀ {b : Addr} {m : Str → Option Value}, s₁.heap.Ns b m → (hidT s₁.heap H).Ns b m := by
    rintro b m ⟨o, es, ep, e, d, r⟩
    exact ⟨o, es, ep, hidT_get e (dictFree e d), d, r⟩
  have kin : K.In (hidT s₁.heap H) := by
    intro b o e
    refine hidT_get (KX b o e) ?_
    match q : H b with
    | none => rfl
    | some u => exact absurd e (by rw [(only b u q).1]; simp)
  obtain ⟨ml, l1, l2⟩ := hlim
  have e0 : Env0 P w K mg (hidT s₁.heap H) callerA [] s₁ H :=
    { frames := rfl
      mod := ⟨kin, ns hns, ⟨mb, ns hb, hbb⟩, ⟨ml, ns l1, l2⟩⟩
      bs := fun b o e => of_hidT e
      bsz := Nat.le_of_eq (hidT_size _ _)
      funs := trivial
      frf := fun b z => absurd z List.not_mem_nil
      hok := ok
      bare := .of_eq hg }
  refine codeAny_mono ((F _ kin (ns hns)).go callerA [] s₁ H _ [.ref a] [.ref a] _ _ hr rfl e0 (hbind s₁ (.ref a)) (.cons rfl .nil) hsp) ?_
  intro r s' h
  match r, h with
  | .error e, h => exact (hCX e s' h).elim
  | .ok (.ret u), h =>
    obtain ⟨v, H', os, bare, un, hok', rv, q⟩ := h
    have e1 : v = .bl true := q
    subst e1
    have e2 : u = Value.bool true := rv
    subst e2
    refine ⟨rfl, OldK.of_keep ?_, os, bare⟩
    intro b o e
    match q : H b with
    | none => exact un.keep b o e q List.not_mem_nil List.not_mem_nil
    | some z =>
      obtain ⟨_, ob, xs, rfl⟩ := only b z q
      have e3 := (ok b _ q).1
      rw [e] at e3
      cases e3
      exact (hok' b _ (un.frzs b o _ q)).1

theorem law_callG {P : Program} {w : World} {K : PySem.W.Frag} {mg mb : Str → Option Value} {k : Nat} {fa a : Addr} {fd : FuncData}
    {x : Str} {sp : Sp} {s₁ : Shared} {vs : List Value} {ns : List Int} {CX : CXT}
    (KX : K.In s₁.heap) (hns : s₁.heap.Ns mainGlobals mg) (hb : s₁.heap.Ns builtinsNs mb) (hbb : ∀ x : Str, x ≠ "__name__" → mb x = bootBuiltins x)
    (hlim : s₁.heap.NoLimit) (hg : s₁.gens = #[])
    (ha : s₁.heap.get? a = some { cls := .type "list", data := .seq vs.toArray }) (hi : IntsAre vs ns) (hl : ns.length ≤ sizeLine) (hr : Room k callerA)
    (F : ∀ base : Heap, K.In base → base.Ns mainGlobals mg → FnG P w K mg base CX k fa fd [x] sp)
    (hbind : ∀ (s : Shared) (u : Value), BindsTo s fd ⟨[u], []⟩ [(x, u)])
    (hsp : ∀ H : Hp, SqL K H a (ns.map V.int) → sp [.ref a] H (fun v _ => v = .bl true) fun _ _ _ => False)
    (hCX : ∀ H e s', CX [] H s₁ (fun _ _ _ => False) e s' → False) :
    codeAny (model P w) callerA (.call (.ref fa) ⟨[.ref a], []⟩)
      (fun r s' => r = .ok (.ret (.bool true)) ∧ OldK s₁.heap s'.heap ∧ s'.os = s₁.os ∧ AllBare s'.gens) s₁ := by
  have rv := vals_ints hi
  have n1 := hi.length
  match hk : K.lookup a with
  | some o =>
    have e := (KX a o hk).symm.trans ha
    cases e
    refine law_core (H := fun _ => none) KX hns hb hbb hlim hg hr F hbind (hsp _ (.inr ⟨_, vs.toArray, _, hk, rfl, rfl, rfl, ?_, by simpa using rv⟩)) (hCX _) (fun b u z => nomatch z) (fun b u z => nomatch z)
    rw [List.size_toArray]
    omega
  | none =>
    have hS : SqL K (scriptHp a { cls := .type "list", data := .seq vs.toArray } (ns.map V.int)) a (ns.map V.int) := .inl (.inr ⟨_, if_pos rfl⟩)
    refine law_core (H := scriptHp a { cls := .type "list", data := .seq vs.toArray } (ns.map V.int)) KX hns hb hbb hlim hg hr F hbind (hsp _ hS) (hCX _) (fun b u z => ?_) (fun b u z => ?_)
    · obtain ⟨rfl, rfl⟩ := scriptHp_at z
      exact ⟨ha, by rw [List.length_map]; exact hl, vs, _, rv, ha⟩
    · obtain ⟨rfl, rfl⟩ := scriptHp_at z
      exact ⟨hk, _, _, rfl⟩

/-- the law's row from the promise of its def -/
theorem walkG {l : PySem.W.OpenLaw} {n k : Nat} {q : Program} {loose : List Str} {XP : (Str → Option Value) → Heap → Prop} {YP : World → Heap → Prop}
    {d : DefRec} {K : Params → PySem.W.Frag} {CX : CXT} {sp : PySem.W.Frag → Sp} {x : Str}
    (hn : l.most = some n) (hn2 : n ≤ sizeLine) (hdf : d.params.defaults = []) (hr : Room k callerA)
    (hY : ∀ (w : World) (h : Heap), YP w h → (K w.params).In h)
    (F : ∀ (w : World) (mg : Str → Option Value) (fa : Addr) (h : Heap), (K w.params).In h → h.Ns mainGlobals mg → mg d.name = some (.ref fa) →
      ∃ fd : FuncData, (∀ (s : Shared) (u : Value), BindsTo s fd ⟨[u], []⟩ [(x, u)]) ∧
        ∀ base : Heap, (K w.params).In base → base.Ns mainGlobals mg → FnG l.prog w (K w.params) mg base CX k fa fd [x] (sp (K w.params)))
    (hsp : ∀ (K : PySem.W.Frag) (H : Hp) (a : Addr) (ns : List Int), ns.length ≤ n → SqL K H a (ns.map V.int) → sp K [.ref a] H (fun v _ => v = .bl true) fun _ _ _ => False)
    (hCX : ∀ (H : Hp) (s : Shared) (e : Value) (s' : Shared), CX [] H s (fun _ _ _ => False) e s' → False) :
    PySem.W.WalkO q loose XP YP l.row.toRowW d [] (fun f vs => PySem.call f vs) := by
  refine Att.attach_call hn hdf ?_
  intro w s₀ s₁ mg mb fa o pm cd doc a vs ns G Y ho hd hcd hmg hobj hints hlen hg
  obtain ⟨fd, hb, hF⟩ := F w mg fa _ (hY w _ Y) G.T.g hmg
  exact law_callG (hY w _ Y) G.T.g G.T.b G.T.builtins G.T.nolimit hg hobj hints (Nat.le_trans hlen hn2) hr hF hb
    (fun H hS => hsp _ H a ns hlen hS) fun H e s' => hCX H s₁ e s'

/-! ### properties, own in, own ==, own != -/
section
variable {X : Cx} {CX : CXT} {k : Nat} {f C p : Addr} {fd : FuncData} {ps : List Str} {sp : Sp} {dvs : List V} {ds : List Value}
  {E : XK} {x m : Str} {pos : Pos} {e : Expr} {ta : TE} {n : Str}
/-- e.n, a property -/
theorem peg_prop (he : PE X e ta) (c : Cls X.K C) (hp : PropOf X.K C n p f)
    (F : FnG X.prog X.w X.K X.mg X.base CX k f fd ps sp) (hr : Room (k + 1) X.A) (hg : X.A.guards = some [])
    (hb : Binds X.K fd ps ds) (hd : Vals dvs ds) (hx : Passes CX X.nox E)
    (hab : attributeBase e n X.env (eval e X.env) = eval e X.env := by rfl) :
    PE X (.Attribute e n pos) (tProp C sp dvs E ta) := by
  constructor
  intro pins s σ H Q I h
  refine attr_of hab (thn (he.run pins s σ H _ I h) ?_)
  rintro u s1 ⟨_, H1, I1, rx, a, dx, fs, rfl, ea, q⟩
  cases rx
  obtain ⟨mA, O, _⟩ := ins_get I1.hok ea
  obtain ⟨od, J, _⟩ := O.look
  obtain ⟨rest, hrec⟩ := hp.rec_
  have g := PySem.W.plainGet_of (c.get n)
  have hc : (PySem.W.clsIn X.K C).isSome = true := by
    obtain ⟨cd, hc, _⟩ := PySem.W.any_some c.hd
    rw [hc]
    rfl
  have I2 := I1.tok (s1.toks + 1)
  refine PySem.W.get_bind I1.kIn J g.1 (PySem.W.findObj_data hc hp.at_ hp.get hp.tak) g.2
    (wpAny_call (PySem.W.prop_get (s := { s1 with toks := s1.toks + 1 }) I1.kIn hrec ?_))
  refine codeAny_mono (runG (X := X.nox) (us := [.ref a]) (vs := [.ref a]) F hr.in1 hg I2.env0.in1 hb hd hx (I2.wish _) (.cons rfl .nil) q) fun r s' hq => ?_
  match r, hq with
  | .error _, hq => exact False.elim hq
  | .ok (.ret u), ⟨v, H', I3, rv, q3⟩ =>
    show wpAny _ _ (handedOut u) _ _ _
    rw [PySem.W.handedOut_of (handed_of rv)]
    exact wpAny_pure ⟨v, H', I3.wish _, rv, q3⟩

/-- y in x, x an instance whose class has a def __contains__ -/
def rHas (C : Addr) (sp : Sp) (E : XK) (neg : Bool) : R2 := fun y x H Q => ∃ a dx fs, x = .ref a ∧ H a = some (.ins C dx fs) ∧
  sp [x, y] H (fun z H' => ∃ b, z = .bl b ∧ Q (.bl (if neg then !b else b)) H') E
structure HasC (K : PySem.W.Frag) (C f : Addr) : Prop where
  at_ : PySem.W.findIn K (.ref C) "__contains__" = some (some (.ref f))
  fn : PySem.W.isFn K (.ref f) = true
theorem opg_in (h : HasC X.K C f) (F : FnG X.prog X.w X.K X.mg X.base CX k f fd ps sp) (hr : Room k X.A) (hg : X.A.guards = some [])
    (hb : Binds X.K fd ps []) (hx : Passes CX X E) : OpR X (compareOp .In) (rHas C sp E false) := by
  intro pins s σ H y x v u Q I ry rx q
  obtain ⟨a, dx, fs, rfl, ea, q⟩ := q
  cases rx
  obtain ⟨mA, O, _⟩ := ins_get I.hok ea
  obtain ⟨od, J, _⟩ := O.look
  obtain ⟨m, hF⟩ := I.fr
  refine PySem.W.in_K hF I.ok.mod.kin J h.at_ h.fn (thn (callG (us := [.ref a, v]) (vs := [.ref a, y]) F hr hg hb .nil hx I (.cons rfl (.cons ry .nil)) q) ?_)
  rintro _ s' ⟨_, H', I', rv, b, rfl, q'⟩
  cases rv
  exact wpAny_truthy_bool ⟨V.bl _, H', I', rfl, q'⟩
theorem opg_notIn (h : HasC X.K C f) (F : FnG X.prog X.w X.K X.mg X.base CX k f fd ps sp) (hr : Room k X.A) (hg : X.A.guards = some [])
    (hb : Binds X.K fd ps []) (hx : Passes CX X E) : OpR X (compareOp .NotIn) (rHas C sp E true) := by
  intro pins s σ H y x v u Q I ry rx q
  obtain ⟨a, dx, fs, rfl, ea, q⟩ := q
  cases rx
  obtain ⟨mA, O, _⟩ := ins_get I.hok ea
  obtain ⟨od, J, _⟩ := O.look
  obtain ⟨m, hF⟩ := I.fr
  refine PySem.W.notIn_K hF I.ok.mod.kin J h.at_ h.fn (thn (callG (us := [.ref a, v]) (vs := [.ref a, y]) F hr hg hb .nil hx I (.cons rfl (.cons ry .nil)) q) ?_)
  rintro _ s' ⟨_, H', I', rv, b, rfl, q'⟩
  cases rv
  exact wpAny_truthy_bool ⟨V.bl _, H', I', rfl, q'⟩
end
end MV

set_option Elab.async false
set_option linter.all false
set_option maxRecDepth 100000
set_option maxHeartbeats 2000000
/-! MVC: == and != by an own __eq__. -/
namespace MV
open PySem PySem.Spec PyProof.Rows L2
open PySem.W (InstAt looks_findIn looks_subIn findIn subIn isFn ifBound_K notFirst)

section
variable {prog : Program} {w : World} {A : Around} {E : Value → Shared → Prop} {s : Shared} {K : PySem.W.Frag} {x C f : Addr} {ox : Obj} {od : Option Obj} {name : Str} {b tb : Value} {id : String}

/-- a special name that the class has from a built-in, called -/
theorem ifBoundB {M : Model} {args : List Value} {Q : Option Value → Shared → Prop} (X : K.In s.heap) (I : InstAt s.heap x ox C od)
    (hs : findIn K (.ref C) name = some (some (.builtin id))) (hb : ∀ self, bindSpecial (.builtin id) self = pure (.builtin id, [self]))
    (h : wpAny M A (call (.builtin id) (.ref x :: args)) (fun v => Q (some v)) E s) :
    wpAny M A (callSpecialIfBound? (.ref x) name args) Q E s := by
  simp only [callSpecialIfBound?, bindSpecialIfBound?]
  apply wpAny_holding
  apply wpAny_bind
  apply wpAny_bind
  apply wpAny_bind
  refine I.type.here ((looks_findIn X hs).here ?_)
  simp only [hb]
  have fin : wpAny M A (call (.builtin id) ([.ref x] ++ args) >>= fun v => pure (some v)) Q E s :=
    wpAny_bind (thn h fun v s' z => wpAny_pure z)
  refine wpAny_bind (wpAny_askSetting (wpAny_ite ?_))
  split
  · exact wpAny_bind (wpAny_pure (wpAny_pure fin))
  · exact wpAny_tryCatch (wpAny_bind (wpAny_pure (wpAny_pure fin)))

/-- a built-in slot's own check of its first argument, an instance -/
theorem checkSlot {M : Model} {owner n : String} {rest : List Value} {Q : Unit → Shared → Prop} (hk : builtinKind id = some .slot)
    (hs : splitId id = some (owner, n)) (ha : argsOk id ⟨.ref x :: rest, []⟩) (X : K.In s.heap) (I : InstAt s.heap x ox C od)
    (hob : subIn K (.ref C) (.type owner) = some true) (hq : Q () s) :
    wpAny M A (checkBuiltinCall id ⟨.ref x :: rest, []⟩) Q E s := by
  simp only [checkBuiltinCall, hk, hs]
  apply wpAny_bind
  unfold isInstance
  refine wpAny_bind (I.type.here ((looks_subIn X hob).here ?_))
  match hsig : Manifest.signature? id with
  | none => exact wpAny_pure hq
  | some sig =>
    simp only [argsOk, hsig] at ha
    have h2 : Bind.checkArgs id sig ⟨.ref x :: rest, []⟩ = pure () := ha
    show wpAny M A (Bind.checkArgs id sig ⟨.ref x :: rest, []⟩) Q E _
    rw [h2]
    exact wpAny_pure hq

/-- what != asks of a class with an own __eq__ and no own __ne__ -/
structure EqC (K : PySem.W.Frag) (C f : Addr) : Prop where
  at_ : findIn K (.ref C) "__eq__" = some (some (.ref f))
  fn : isFn K (.ref f) = true
  ne_ : findIn K (.ref C) "__ne__" = some (some (.builtin "object.__ne__"))
  ob : subIn K (.ref C) (.type "object") = some true

theorem neEntry (X : K.In s.heap) (I : InstAt s.heap x ox C od) (c : EqC K C f) (hu : A.units < cLine) {Q : Fin → Shared → Prop}
    (hcall : wpAny (model prog w) A (call (.ref f) [.ref x, b]) (fun v s' => ∃ r, v = .bool r ∧ Q (.done (.ret (.bool (!r)))) s') E s) :
    wpAny (model prog w) A (Builtin.«object.__ne__» ⟨[.ref x, b], []⟩) Q E s := by
  unfold Builtin.«object.__ne__»
  repeat (first
    | with_reducible refine wpAny_cRoomFor hu ?_
    | (refine wpAny_bind (m := callSpecialIfBound? (.ref x) (Str.ofString "__eq__") [b])
        (ifBound_K X I c.at_ c.fn (thn hcall fun r s' hr => by
          obtain ⟨b, rfl, hq⟩ := hr
          repeat (first | exact hq | exact wpAny_pure hq | exact wpAny_truthy_bool hq | (refine wpAny_bind (m := truthy (.bool _)) (wpAny_truthy_bool ?_)) | wp_step))))
    | wp_step)

theorem neOwn (X : K.In s.heap) (I : InstAt s.heap x ox C od) (c : EqC K C f) (hb : PySem.W.Looks (model prog w) s.heap (typeOf b) tb)
    (hn : notFirst K C tb = true) (hu : A.units + 1 < cLine) {Q : Value → Shared → Prop}
    (hcall : wpAny (model prog w) A.in1 (call (.ref f) [.ref x, b]) (fun v s' => ∃ r, v = .bool r ∧ Q (.bool (!r)) s') E s) :
    wpAny (model prog w) A (richCompare .NotEq (.ref x) b) Q E s := by
  have one : wpAny (model prog w) A (tryCompare (.ref x) (cmpInfo .NotEq).2.1 b) (fun r s' => ∃ v, r = some v ∧ Q v s') E s := by
    have ent : wpAny (model prog w) A.in1 (Builtin.«object.__ne__» ⟨[.ref x, b], []⟩)
        (fun fin s' => match fin with
          | .done q => ∃ r, q = .ret (.bool r) ∧ Q (.bool r) s'
          | .again _ => False) E s :=
      neEntry X I c hu (thn hcall fun v s' ⟨r, e, q⟩ => ⟨r, e, !r, rfl, q⟩)
    unfold tryCompare
    refine wpAny_bind (ifBoundB X I c.ne_ F.cmp_object.ne.bind (wpAny_call (codeAny_call_builtin F.cmp_object.ne.plain F.cmpEntry_ne
      (checkSlot F.cmpKind_ne F.cmpSplit_ne (F.cmpArgs_ne _ _) X I c.ob ?_))))
    refine thn ent ?_
    rintro (q | _) s' h
    · obtain ⟨r, rfl, q⟩ := h
      first | exact ⟨_, rfl, q⟩ | exact wpAny_pure ⟨_, rfl, q⟩
    · exact h.elim
  unfold richCompare
  simp only [oneThing_ref]
  refine wpAny_holding (wpAny_bind (wpAny_cRoomFor (Nat.lt_of_succ_lt hu) ?_))
  refine wpAny_bind (I.type.here (wpAny_bind (hb.here ?_)))
  have tail : wpAny (model prog w) A (tryCompare (.ref x) (cmpInfo .NotEq).2.1 b >>= fun r => match r with
      | some v => pure v
      | none => (pure .none : Sem Value)) Q E s := wpAny_bind (thn one fun r s' ⟨v, e, q⟩ => by subst e; exact wpAny_pure q)
  split
  · rename_i q
    have e : subIn K tb (.ref C) = some false := by
      rcases Bool.or_eq_true_iff.mp hn with e | e
      · rw [beq_iff_eq.mp e] at q
        simp at q
      · exact beq_iff_eq.mp e
    refine wpAny_bind ((looks_subIn X e).here ?_)
    simp only [Bool.false_eq_true, if_false]
    refine wpAny_bind (thn one ?_)
    rintro _ s' ⟨v, rfl, q⟩
    exact wpAny_pure q
  · refine wpAny_bind (wpAny_pure ?_)
    simp only [Bool.false_eq_true, if_false]
    refine wpAny_bind (thn one ?_)
    rintro _ s' ⟨v, rfl, q⟩
    exact wpAny_pure q
end
end MV

set_option Elab.async false
set_option linter.all false
set_option maxRecDepth 100000
set_option maxHeartbeats 2000000
namespace MV
open PySem PySem.Spec PyProof.Rows L2
section
variable {X : Cx} {CX : CXT} {k : Nat} {f C : Addr} {fd : FuncData} {ps : List Str} {sp : Sp} {E : XK}
/-- x == y, x != y, x an instance of a class with an own __eq__ -/
def rOwnEq (K : PySem.W.Frag) (C : Addr) (sp : Sp) (E : XK) (neg : Bool) : R2 := fun x y H Q => ∃ a dx fs t, x = .ref a ∧ H a = some (.ins C dx fs) ∧
  TyX K H y t ∧ PySem.W.notFirst K C t = true ∧ sp [x, y] H (fun z H' => ∃ b, z = .bl b ∧ Q (.bl (if neg then !b else b)) H') E
theorem opg_eq (c : EqC X.K C f) (F : FnG X.prog X.w X.K X.mg X.base CX k f fd ps sp) (hr : Room k X.A) (hg : X.A.guards = some [])
    (hb : Binds X.K fd ps []) (hx : Passes CX X E) : OpR X (compareOp .Eq) (rOwnEq X.K C sp E false) := by
  intro pins s σ H x y v u Q I rx ry q
  obtain ⟨a, dx, fs, t, rfl, ea, ty, nf, q⟩ := q
  cases rx
  obtain ⟨mA, O, _⟩ := ins_get I.hok ea
  obtain ⟨od, J, _⟩ := O.look
  obtain ⟨m, hF⟩ := I.fr
  obtain ⟨P, kx, hP, _⟩ := kit_of I ry ty
  show wpAny _ _ (richCompare .Eq _ _) _ _ _
  refine PySem.W.cmp_K (op := .Eq) hr.units0 hF I.ok.mod.kin J (kx.ty _ _ I.kIn hP) nf c.at_ c.fn ?_
  refine thn (callG (us := [.ref a, u]) (vs := [.ref a, y]) F hr hg hb .nil hx I (.cons rfl (.cons ry .nil)) q) ?_
  rintro _ s' ⟨_, H', I', rv, b, rfl, q'⟩
  cases rv
  exact ⟨V.bl _, H', I', rfl, q'⟩
theorem opg_ne (c : EqC X.K C f) (F : FnG X.prog X.w X.K X.mg X.base CX k f fd ps sp) (hr : Room (k + 1) X.A) (hg : X.A.guards = some [])
    (hb : Binds X.K fd ps []) (hx : Passes CX X E) : OpR X (compareOp .NotEq) (rOwnEq X.K C sp E true) := by
  intro pins s σ H x y v u Q I rx ry q
  obtain ⟨a, dx, fs, t, rfl, ea, ty, nf, q⟩ := q
  cases rx
  obtain ⟨mA, O, _⟩ := ins_get I.hok ea
  obtain ⟨od, J, _⟩ := O.look
  obtain ⟨P, kx, hP, _⟩ := kit_of I ry ty
  show wpAny _ _ (richCompare .NotEq _ _) _ _ _
  have hu : X.A.units + 1 < cLine := by have := hr.un; omega
  refine neOwn I.kIn J c (kx.ty _ _ I.kIn hP) nf hu (wpAny_call ?_)
  refine codeAny_mono (runG (us := [.ref a, u]) (vs := [.ref a, y]) F hr.in1 hg I.env0.in1 hb .nil hx I (.cons rfl (.cons ry .nil)) q) fun r s' hq => ?_
  match r, hq with
  | .error _, hq => exact hq
  | .ok (.ret w), ⟨_, H', I', rv, b, e, q'⟩ =>
    subst e
    have e2 : w = Value.bool b := rv
    subst e2
    exact ⟨b, rfl, V.bl (!b), H', I', rfl, q'⟩
end
end MV

set_option Elab.async false
set_option linter.all false
set_option maxRecDepth 100000
set_option maxHeartbeats 2000000
/-! MVE: what a step leaves of the heap (Stp), int tuples (IT), readings by lemmas (r_*), the walk over them. -/
namespace MV
open PySem PySem.Spec PyProof.Rows L2

/-! ### the tape of draws -/
/-- at t the tape: the script's ints, how many are read, what is left of a great one, the seed -/
def TapeL (H : Hp) (t l : Addr) : Prop := ∃ (ns : List Int) (a b c : Int), l ≠ t ∧
  H t = some (.lst [.ref l, .int a, .int b, .int c]) ∧ H l = some (.lst (ns.map V.int)) ∧ 0 ≤ a ∧ 0 ≤ c ∧ c < 2147483647
def Tape (H : Hp) (t : Addr) : Prop := ∃ l, TapeL H t l

/-- what a step leaves: all objects, but for the list at t (the tape), which stays a tape -/
structure Stp (t : Option Addr) (H H' : Hp) : Prop where
  ge : ∀ b o, (t = some b → ∀ xs, o ≠ .lst xs) → H b = some o → H' b = some o
  tp : ∀ a l, t = some a → TapeL H a l → TapeL H' a l

theorem TapeL.more {H H' : Hp} {a l : Addr} (T : TapeL H a l) (s : ∀ b o, H b = some o → H' b = some o) : TapeL H' a l := by
  obtain ⟨ns, x, b, c, h1, h2, h3, h4⟩ := T
  exact ⟨ns, x, b, c, h1, s _ _ h2, s _ _ h3, h4⟩
theorem Tape.more {H H' : Hp} {a : Addr} (T : Tape H a) (s : ∀ b o, H b = some o → H' b = some o) : Tape H' a := (let ⟨l, h⟩ := T; ⟨l, h.more s⟩)
theorem Stp.refl (t : Option Addr) (H : Hp) : Stp t H H := ⟨fun _ _ _ h => h, fun _ _ _ h => h⟩
theorem Stp.all {H H' : Hp} (s : Stp none H H') : ∀ b o, H b = some o → H' b = some o := fun b o h => s.ge b o (fun z => nomatch z) h
theorem Stp.of {H H' : Hp} (s : ∀ b o, H b = some o → H' b = some o) (t : Option Addr) : Stp t H H' := ⟨fun b o _ h => s b o h, fun _ _ _ T => T.more s⟩
theorem Stp.w {H H' : Hp} {t : Option Addr} (s : Stp none H H') : Stp t H H' := Stp.of s.all t
theorem Stp.trans {H H1 H2 : Hp} {t : Option Addr} (a : Stp t H H1) (b : Stp t H1 H2) : Stp t H H2 :=
  ⟨fun c o n h => b.ge c o n (a.ge c o n h), fun c l e T => b.tp c l e (a.tp c l e T)⟩
theorem Stp.new {H : Hp} {p : Addr} {o : HO} (h : H p = none) : Stp none H (upd H p o) := Stp.of (fun b u e => by
  rw [upd_ne (ne_of_none e h)]
  exact e) none
theorem Tape.mv {t : Option Addr} {H H' : Hp} {a : Addr} (s : Stp t H H') (h : t = none ∨ t = some a) (T : Tape H a) : Tape H' a := by
  rcases h with rfl | rfl
  · exact T.more s.all
  · exact (let ⟨l, h⟩ := T; ⟨l, s.tp a l rfl h⟩)
theorem Tape.mvN {H H' : Hp} {a : Addr} (s : Stp none H H') (T : Tape H a) : Tape H' a := T.more s.all
theorem Tape.mvS {H H' : Hp} {a : Addr} (s : Stp (some a) H H') (T : Tape H a) : Tape H' a := (let ⟨l, h⟩ := T; ⟨l, s.tp a l rfl h⟩)
theorem Stp.same {H H' : Hp} (s : Stp none H H') : Same H H' := s.all

/-! ### int tuples, lists, instances -/
/-- v is a tuple of the ints ns -/
def IT (H : Hp) (v : V) (ns : List Int) : Prop := ∃ p, v = .ref p ∧ H p = some (.tup (ns.map V.int))
theorem IT.mv {t : Option Addr} {H H' : Hp} {v : V} {ns : List Int} (s : Stp t H H') (h : IT H v ns) : IT H' v ns := by
  obtain ⟨p, e, h⟩ := h
  exact ⟨p, e, s.ge _ _ (fun _ xs z => by cases z) h⟩
/-- as IT, or a tuple of the text that is always there -/
def IK (K : PySem.W.Frag) (H : Hp) (v : V) (ns : List Int) : Prop := ∃ p, v = .ref p ∧ SqT K H p (ns.map V.int)
theorem IT.k {K : PySem.W.Frag} {H : Hp} {v : V} {ns : List Int} (h : IT H v ns) : IK K H v ns := by
  obtain ⟨p, e, h⟩ := h
  exact ⟨p, e, SqT.of h⟩
theorem SqT.mvS {K : PySem.W.Frag} {t : Option Addr} {H H' : Hp} {p : Addr} {xs : List V} (s : Stp t H H') (h : SqT K H p xs) : SqT K H' p xs := by
  rcases h with h | h
  · rcases h with h | ⟨o, h⟩
    · exact .inl (.inl (s.ge _ _ (fun _ xs z => by cases z) h))
    · exact .inl (.inr ⟨o, s.ge _ _ (fun _ xs z => by cases z) h⟩)
  · exact .inr h
theorem IK.mv {K : PySem.W.Frag} {t : Option Addr} {H H' : Hp} {v : V} {ns : List Int} (s : Stp t H H') (h : IK K H v ns) : IK K H' v ns := by
  obtain ⟨p, e, h⟩ := h
  exact ⟨p, e, SqT.mvS s h⟩
theorem At.tup {t : Option Addr} {H H' : Hp} {p : Addr} {xs : List V} (s : Stp t H H') (h : H p = some (.tup xs)) : H' p = some (.tup xs) :=
  s.ge _ _ (fun _ xs z => by cases z) h
theorem At.ins {t : Option Addr} {H H' : Hp} {p C dx : Addr} {fs : List (Str × V)} (s : Stp t H H') (h : H p = some (.ins C dx fs)) : H' p = some (.ins C dx fs) :=
  s.ge _ _ (fun _ xs z => by cases z) h
theorem At.lst {H H' : Hp} {p : Addr} {xs : List V} (s : Stp none H H') (h : H p = some (.lst xs)) : H' p = some (.lst xs) := s.all _ _ h
theorem At.lstS {t : Addr} {H H' : Hp} {p : Addr} {xs : List V} (s : Stp (some t) H H') (n : p ≠ t) (h : H p = some (.lst xs)) : H' p = some (.lst xs) :=
  s.ge _ _ (fun z => absurd (Option.some.inj z).symm n) h

theorem dp_ints {K : PySem.W.Frag} {H : Hp} : ∀ ns : List Int, DpAll K H (ns.map V.int) (ns.map PyData.int)
  | [] => .nil
  | n :: r => .cons (.int n) (dp_ints r)
theorem IK.dp {K : PySem.W.Frag} {H : Hp} {v : V} {ns : List Int} (h : IK K H v ns) : Dp K H v (.tuple (ns.map PyData.int)) := by
  obtain ⟨p, rfl, h⟩ := h
  exact .tup h (dp_ints ns)
theorem canLay_ints : ∀ ns : List Int, PyData.canLayAll0 (ns.map PyData.int) = true
  | [] => by rw [List.map_nil, PyData.canLayAll0]
  | n :: r => by rw [List.map_cons, PyData.canLayAll0, canLay_ints r, PyData.canLay0]; rfl
theorem depth_ints : ∀ ns : List Int, PyData.depthAll (ns.map PyData.int) = 0
  | [] => by rw [List.map_nil, PyData.depthAll]
  | n :: r => by rw [List.map_cons, PyData.depthAll, depth_ints r, PyData.depth]; rfl
theorem shaped_int (ns : List Int) : SeqAt.shaped (.tuple (ns.map PyData.int)) = true := by
  unfold SeqAt.shaped
  rw [PyData.canLay0, canLay_ints, PyData.depth, depth_ints]
  rfl
theorem eqvAll_ints : ∀ ns ms : List Int, PyData.eqvAll (ns.map PyData.int) (ms.map PyData.int) = decide (ns = ms)
  | [], [] => by rw [List.map_nil, PyData.eqvAll]; rfl
  | [], _ :: _ => by rw [List.map_nil, List.map_cons, PyData.eqvAll]; rfl
  | _ :: _, [] => by rw [List.map_nil, List.map_cons, PyData.eqvAll]; rfl
  | n :: r, m :: q => by
    rw [List.map_cons, List.map_cons, PyData.eqvAll, PyData.eqv, eqvAll_ints r q]
    by_cases h : n = m
    · subst h
      by_cases h2 : r = q
      · subst h2; simp
      · simp [h2]
    · simp [h]
theorem eqv_ints (ns ms : List Int) : PyData.eqv (.tuple (ns.map PyData.int)) (.tuple (ms.map PyData.int)) = decide (ns = ms) := by
  rw [PyData.eqv, eqvAll_ints]

/-! ### readings -/
section
variable {K : PySem.W.Frag} {σ : L2.St} {H H1 H2 : Hp} {Q : VK} {v x y : V} {i j : Int} {n : Nat} {ta tb te tc : TE} {t u : TS} {D : Ends} {tt uu : TT} {a tr : TA} {r : R2} {g : TG} {gs : TGs}
theorem r_var (h : σ[n]? = some (some v)) (q : Q v H) : tVar n σ H Q := ⟨v, h, q⟩
theorem r_c (q : Q v H) : tC v σ H Q := q
theorem r_op (q : ta σ H fun x H1 => tb σ H1 fun y H2 => r x y H2 Q) : tOp r ta tb σ H Q := q
theorem r_un {r : V → Hp → VK → Prop} (q : ta σ H fun x H1 => r x H1 Q) : tUn r ta σ H Q := q
theorem r_nil {Q : List V → Hp → Prop} (q : Q [] H) : tNil σ H Q := q
theorem r_cons {Q : List V → Hp → Prop} (q : ta σ H fun x H1 => tr σ H1 fun xs H2 => Q (x :: xs) H2) : tCons ta tr σ H Q := q
/-- a new tuple, a new list of xs is handed to Q -/
def NewT (xs : List V) (H : Hp) (Q : VK) : Prop := xs.length ≤ sizeLine ∧ ∀ p, H p = none → Q (.ref p) (upd H p (.tup xs))
def NewL (xs : List V) (H : Hp) (Q : VK) : Prop := xs.length ≤ sizeLine ∧ ∀ p, H p = none → Q (.ref p) (upd H p (.lst xs))
theorem r_tup (q : a σ H fun xs H1 => NewT xs H1 Q) : tTup a σ H Q := q
theorem r_lst (q : a σ H fun xs H1 => NewL xs H1 Q) : tLst a σ H Q := q
theorem r_newT {xs : List V} (hl : xs.length ≤ sizeLine) (k : ∀ p H2, Stp none H H2 → H2 p = some (.tup xs) → H p = none → Q (.ref p) H2) :
    NewT xs H Q := ⟨hl, fun p hp => k p _ (Stp.new hp) upd_same hp⟩
theorem r_newL {xs : List V} (hl : xs.length ≤ sizeLine) (k : ∀ p H2, Stp none H H2 → H2 p = some (.lst xs) → H p = none → Q (.ref p) H2) :
    NewL xs H Q := ⟨hl, fun p hp => k p _ (Stp.new hp) upd_same hp⟩
theorem sz100 {n : Nat} (h : n ≤ 100) : n ≤ sizeLine := Nat.le_trans h (by decide)
theorem r_newI {ns : List Int} (hl : ns.length ≤ 100) (k : ∀ v H2, Stp none H H2 → IT H2 v ns → Q v H2) :
    NewT (ns.map V.int) H Q :=
  ⟨sz100 (by rw [List.length_map]; exact hl), fun p hp => k _ _ (Stp.new hp) ⟨p, rfl, upd_same⟩⟩
theorem r_newI2 (k : ∀ v H2, Stp none H H2 → IT H2 v [i, j] → Q v H2) : NewT [V.int i, V.int j] H Q := r_newI (ns := [i, j]) (Nat.le_of_ble_eq_true rfl) k
theorem r_newI3 {l : Int} (k : ∀ v H2, Stp none H H2 → IT H2 v [i, j, l] → Q v H2) : NewT [V.int i, V.int j, V.int l] H Q := r_newI (ns := [i, j, l]) (Nat.le_of_ble_eq_true rfl) k
theorem r_newL1 (k : ∀ p H2, Stp none H H2 → H2 p = some (.lst [x]) → H p = none → Q (.ref p) H2) : NewL [x] H Q := r_newL (sz100 (Nat.le_of_ble_eq_true rfl)) k
theorem r_newL2 (k : ∀ p H2, Stp none H H2 → H2 p = some (.lst [x, y]) → H p = none → Q (.ref p) H2) : NewL [x, y] H Q := r_newL (sz100 (Nat.le_of_ble_eq_true rfl)) k
theorem r_newL3 {z : V} (k : ∀ p H2, Stp none H H2 → H2 p = some (.lst [x, y, z]) → H p = none → Q (.ref p) H2) : NewL [x, y, z] H Q := r_newL (sz100 (Nat.le_of_ble_eq_true rfl)) k
theorem r_cb {r : List V → Hp → VK → Prop} (q : a σ H fun vs H1 => r vs H1 Q) : tCB r a σ H Q := q
theorem r_call {sp : Sp} {dvs : List V} {E : XK} (q : a σ H fun vs H1 => sp (vs ++ dvs) H1 Q E) : tCall sp dvs E a σ H Q := q
theorem r_prop {C : Addr} {sp : Sp} {dvs : List V} {E : XK} (q : ta σ H fun x H1 => ∃ a dx fs, x = .ref a ∧ H1 a = some (.ins C dx fs) ∧ sp (.ref a :: dvs) H1 Q E) : tProp C sp dvs E ta σ H Q := q
theorem r_meth {C : Addr} {m : Str} {sp : Sp} {dvs : List V} {E : XK} (q : ta σ H fun x H1 => ∃ b dx fs, x = .ref b ∧ H1 b = some (.ins C dx fs) ∧ fs.lookup m = none ∧ a σ H1 fun vs H2 => sp (x :: (vs ++ dvs)) H2 Q E) :
    tMeth C m sp dvs E ta a σ H Q := q
/-- C(..): a new object is handed to __init__ and then to Q -/
def MkR (C : Addr) (sp : Sp) (vs : List V) (H1 : Hp) (Q : VK) (E : XK) : Prop := ∀ x dx, H1 x = none → H1 dx = none → dx ≠ x →
    sp (.ref x :: vs) (upd (upd H1 dx (.own x)) x (.ins C dx [])) (fun v H2 => v = .non ∧ Q (.ref x) H2) E
theorem r_make {C : Addr} {sp : Sp} {dvs : List V} {E : XK} (q : a σ H fun vs H1 => MkR C sp (vs ++ dvs) H1 Q E) : tMake C sp dvs E a σ H Q := q
theorem r_andV (q : ta σ H fun x H1 => ∃ c, x = .bl c ∧ if c = true then tb σ H1 Q else Q (.bl false) H1) : tAndV ta tb σ H Q := q
theorem r_orV (q : ta σ H fun x H1 => ∃ c, x = .bl c ∧ if c = true then Q (.bl true) H1 else tb σ H1 Q) : tOrV ta tb σ H Q := q
theorem r_notV (q : ta σ H fun x H1 => ∃ c, x = .bl c ∧ Q (.bl (!c)) H1) : tNotV ta σ H Q := q
theorem r_chain {r' : R2} (q : ta σ H fun x H1 => tb σ H1 fun y H2 => r x y H2 fun z H3 => ∃ k, z = .bl k ∧ (if k = true then tc σ H3 fun w' H4 => r' y w' H4 Q else Q (.bl false) H3)) : tChain r r' ta tb tc σ H Q := q
theorem r_ifE (q : tt σ H fun c H1 => if c = true then ta σ H1 Q else tb σ H1 Q) : tIf tt ta tb σ H Q := q
section
variable {Q : Bool → Hp → Prop}
theorem r_test (q : te σ H fun x H' => ∃ k, x = .bl k ∧ Q k H') : tTest te σ H Q := q
theorem r_B (q : te σ H fun x H' => ∃ k, x = .bl k ∧ Q k H') : tB te σ H Q := q
theorem r_and (q : tt σ H fun c H1 => if c = true then uu σ H1 Q else Q false H1) : tAnd tt uu σ H Q := q
theorem r_or (q : tt σ H fun c H1 => if c = true then Q true H1 else uu σ H1 Q) : tOr tt uu σ H Q := q
theorem r_not (q : tt σ H fun c H1 => Q (!c) H1) : tNot tt σ H Q := q
theorem r_yes (q : Q true H) : tYes σ H Q := q
theorem r_k {b : Bool} (q : Q b H) : ∃ k, V.bl b = .bl k ∧ Q k H := ⟨b, rfl, q⟩
end
theorem r_kV {b : Bool} {P : Bool → Prop} (q : P b) : ∃ k, V.bl b = .bl k ∧ P k := ⟨b, rfl, q⟩
theorem r_seq (q : t { D with nx := u D } σ H) : tSeq t u D σ H := q
theorem r_next (q : D.nx σ H) : tNext D σ H := q
theorem r_asg (q : te σ H fun x H1 => g x σ H1 D.nx) : tAsg te g D σ H := q
theorem r_drop (q : te σ H fun _ H1 => D.nx σ H1) : tDrop te D σ H := q
theorem r_ret (q : te σ H D.rt) : tRet te D σ H := q
theorem r_ifS (q : tt σ H fun b H1 => if b = true then t D σ H1 else u D σ H1) : tIfS tt t u D σ H := q
theorem r_par {m : Nat} (q : a σ H fun vs H1 => ∃ v w, vs = [v, w] ∧ D.nx ((σ.set n (some v)).set m (some w)) H1) : tPar n m a D σ H := q
theorem r_par1 {m : Nat} (q : D.nx ((σ.set n (some x)).set m (some y)) H) : ∃ v w, [x, y] = [v, w] ∧ D.nx ((σ.set n (some v)).set m (some w)) H := ⟨x, y, rfl, q⟩
section
variable {Q : L2.St → Hp → Prop} {vs : List V}
theorem r_gname (q : Q (σ.set n (some v)) H) : gName n v σ H Q := q
theorem r_gnil (q : Q σ H) : gNil [] σ H Q := ⟨rfl, q⟩
theorem r_gcons (q : g v σ H fun σ' H' => gs vs σ' H' Q) : gCons g gs (v :: vs) σ H Q := ⟨v, vs, rfl, q⟩
theorem r_unpack {ns : List Int} (h : IK K H v ns) (hn : ns.length = n) (q : gs (ns.map V.int) σ H Q) : gTup K n gs v σ H Q := by
  obtain ⟨p, rfl, h⟩ := h
  exact ⟨p, _, rfl, h, by rw [List.length_map]; exact hn, q⟩
theorem r_unpack2 (h : IK K H v [i, j]) (q : gs [V.int i, V.int j] σ H Q) : gTup K 2 gs v σ H Q := r_unpack h rfl q
theorem r_unpack3 {l : Int} (h : IK K H v [i, j, l]) (q : gs [V.int i, V.int j, V.int l] σ H Q) : gTup K 3 gs v σ H Q := r_unpack h rfl q
end
-- operators by values
theorem r_add (q : Q (.int (i + j)) H) : rI0 (fun i j => .int (i + j)) (.int i) (.int j) H Q := ⟨i, j, rfl, rfl, q⟩
theorem r_sub (q : Q (.int (i - j)) H) : rI0 (fun i j => .int (i - j)) (.int i) (.int j) H Q := ⟨i, j, rfl, rfl, q⟩
theorem r_mod (h : 0 < j) (q : Q (.int (i % j)) H) : rI (fun _ j => 0 < j) (fun i j => .int (i % j)) (.int i) (.int j) H Q := ⟨i, j, rfl, rfl, h, q⟩
theorem r_div (h : CDivW i j) (q : Q (.int (i / j)) H) : rI CDivW (fun i j => .int (i / j)) (.int i) (.int j) H Q := ⟨i, j, rfl, rfl, h, q⟩
theorem r_mulW (h : CMulW i j) (q : Q (.int (i * j)) H) : rI CMulW (fun i j => .int (i * j)) (.int i) (.int j) H Q := ⟨i, j, rfl, rfl, h, q⟩
theorem r_mul (h : CMul i j) (q : Q (.int (i * j)) H) : rI CMul (fun i j => .int (i * j)) (.int i) (.int j) H Q := ⟨i, j, rfl, rfl, h, q⟩
theorem r_pow (h : CPow i j) (q : Q (.int (i ^ j.toNat)) H) : rI CPow (fun i j => .int (i ^ j.toNat)) (.int i) (.int j) H Q := ⟨i, j, rfl, rfl, h, q⟩
theorem r_neg (q : Q (.int (-i)) H) : rU (fun i => .int (-i)) (.int i) H Q := ⟨i, rfl, q⟩
theorem r_lt (q : Q (.bl (decide (i < j))) H) : rI0 (fun i j => .bl (decide (i < j))) (.int i) (.int j) H Q := ⟨i, j, rfl, rfl, q⟩
theorem r_le (q : Q (.bl (decide (i ≤ j))) H) : rI0 (fun i j => .bl (decide (i ≤ j))) (.int i) (.int j) H Q := ⟨i, j, rfl, rfl, q⟩
theorem r_gt (q : Q (.bl (decide (j < i))) H) : rI0 (fun i j => .bl (decide (j < i))) (.int i) (.int j) H Q := ⟨i, j, rfl, rfl, q⟩
theorem r_ge (q : Q (.bl (decide (j ≤ i))) H) : rI0 (fun i j => .bl (decide (j ≤ i))) (.int i) (.int j) H Q := ⟨i, j, rfl, rfl, q⟩
theorem dec_int : decide (V.int i = V.int j) = decide (i = j) := decide_eq_decide.mpr ⟨V.int.inj, congrArg V.int⟩
theorem r_eqI (q : Q (.bl (decide (i = j))) H) : rEq (.int i) (.int j) H Q := ⟨rfl, by rw [dec_int]; exact q⟩
theorem r_neI (q : Q (.bl (!decide (i = j))) H) : rNe (.int i) (.int j) H Q := ⟨rfl, by rw [dec_int]; exact q⟩
theorem dec_str {s z : Str} : decide (V.str s = V.str z) = decide (s = z) := decide_eq_decide.mpr ⟨V.str.inj, congrArg V.str⟩
theorem r_eqS {s z : Str} (q : Q (.bl (decide (s = z))) H) : rEq (.str s) (.str z) H Q := ⟨rfl, by rw [dec_str]; exact q⟩
theorem r_neS {s z : Str} (q : Q (.bl (!decide (s = z))) H) : rNe (.str s) (.str z) H Q := ⟨rfl, by rw [dec_str]; exact q⟩
/-- == and != of int tuples -/
theorem r_eqT {ns ms : List Int} (hx : IK K H x ns) (hy : IK K H y ms) (q : Q (.bl (decide (ns = ms))) H) : rEqD K x y H Q :=
  ⟨_, _, hx.dp, hy.dp, shaped_int ns, shaped_int ms, by rw [eqv_ints]; exact q⟩
theorem r_neT {ns ms : List Int} (hx : IK K H x ns) (hy : IK K H y ms) (q : Q (.bl (!decide (ns = ms))) H) : rNeD K x y H Q :=
  ⟨_, _, hx.dp, hy.dp, shaped_int ns, shaped_int ms, by rw [eqv_ints]; exact q⟩
/-- an item of an int tuple -/
theorem r_ixI {ns : List Int} {m : Int} (h : IK K H v ns) (hn : ns[n]? = some m) (q : Q (.int m) H) : rIx K v (.int (n : Nat)) H Q := by
  obtain ⟨p, rfl, h⟩ := h
  exact .inr (.inl ⟨p, _, _, _, rfl, rfl, h, atI_nat (by rw [List.getElem?_map, hn]; rfl), q⟩)
theorem r_ix0 {m : Int} {ns : List Int} (h : IK K H v (m :: ns)) (q : Q (.int m) H) : rIx K v (.int 0) H Q := r_ixI (n := 0) h rfl q
theorem r_ix1 {m k : Int} {ns : List Int} (h : IK K H v (k :: m :: ns)) (q : Q (.int m) H) : rIx K v (.int 1) H Q := r_ixI (n := 1) h rfl q
theorem r_ix2 {m k l : Int} {ns : List Int} (h : IK K H v (k :: l :: m :: ns)) (q : Q (.int m) H) : rIx K v (.int 2) H Q := r_ixI (n := 2) h rfl q
/-- an item of a list that stands in H -/
theorem r_ixL {p : Addr} {xs : List V} (h : H p = some (.lst xs)) (hn : xs[n]? = some v) (q : Q v H) : rIx K (.ref p) (.int (n : Nat)) H Q :=
  .inl ⟨p, xs, _, v, rfl, rfl, SqL.of h, atI_nat hn, q⟩
theorem r_ixLi {p : Addr} {xs : List V} {i : Int} (h : H p = some (.lst xs)) (h0 : 0 ≤ i) (hn : xs[i.toNat]? = some v) (q : Q v H) : rIx K (.ref p) (.int i) H Q := by
  have e : i = ((i.toNat : Nat) : Int) := (Int.toNat_of_nonneg h0).symm
  rw [e]
  exact r_ixL h hn q
theorem ixN_nat {m k : Nat} (h : k < m) : ixN m ((k : Nat) : Int) = some k := by
  unfold ixN
  rw [if_pos (Int.natCast_nonneg k), if_pos (by omega)]
  rfl
theorem r_setL {p : Addr} {xs : List V} {Q : Hp → Prop} (h : H p = some (.lst xs)) (hn : n < xs.length) (q : Q (upd H p (.lst (xs.set n v)))) : rSetL (.ref p) (.int (n : Nat)) v H Q :=
  ⟨p, xs, _, n, rfl, rfl, h, ixN_nat hn, q⟩
-- tests
theorem r_ite {p : Prop} [Decidable p] {A B : Prop} (h1 : p → A) (h2 : ¬ p → B) : if decide p = true then A else B := by
  by_cases h : p
  · rw [if_pos (decide_eq_true h)]; exact h1 h
  · rw [if_neg (by simp [h])]; exact h2 h
theorem r_iteN {p : Prop} [Decidable p] {A B : Prop} (h1 : ¬ p → A) (h2 : p → B) : if (!decide p) = true then A else B := by
  by_cases h : p
  · rw [if_neg (by simp [h])]; exact h2 h
  · rw [if_pos (by simp [h])]; exact h1 h
theorem r_T {A B : Prop} (q : A) : if true = true then A else B := q
theorem r_F {A B : Prop} (q : B) : if false = true then A else B := q
theorem r_iT {b : Bool} {A B : Prop} (h : b = true) (q : A) : if b = true then A else B := by rw [h]; exact q
theorem r_iF {b : Bool} {A B : Prop} (h : b = false) (q : B) : if b = true then A else B := by rw [h]; exact q

/-! ### more readings -/
theorem r_call0 {sp : Sp} {E : XK} (q : a σ H fun vs H1 => sp vs H1 Q E) : tCall sp [] E a σ H Q := by
  unfold tCall
  simp only [List.append_nil]
  exact q
theorem r_meth0 {C : Addr} {m : Str} {sp : Sp} {E : XK} (q : ta σ H fun x H1 => ∃ b dx fs, x = .ref b ∧ H1 b = some (.ins C dx fs) ∧ fs.lookup m = none ∧ a σ H1 fun vs H2 => sp (x :: vs) H2 Q E) :
    tMeth C m sp [] E ta a σ H Q := by
  unfold tMeth
  simp only [List.append_nil]
  exact q
theorem r_make0 {C : Addr} {sp : Sp} {E : XK} (q : a σ H fun vs H1 => MkR C sp vs H1 Q E) : tMake C sp [] E a σ H Q := by
  unfold tMake
  simp only [List.append_nil]
  exact q
theorem r_isi {c t u : _} {b : Bool} {x : V} (cl : ClsV c u) (ty : TyX K H x t) (e : PySem.W.kitOne K t u = some b) (q : Q (.bl b) H) : rIsi K [x, c] H Q :=
  ⟨x, c, t, u, b, rfl, cl, ty, e, q⟩
theorem r_isiII (q : Q (.bl true) H) : rIsi K [.int i, .ty "int"] H Q := r_isi (.ty _) (.base (.int i)) (kit_ty (by decide +kernel)) q
theorem r_isiIB (q : Q (.bl false) H) : rIsi K [.int i, .ty "bool"] H Q := r_isi (.ty _) (.base (.int i)) (kit_ty (by decide +kernel)) q
theorem ty_tup {p : Addr} {xs : List V} (h : SqT K H p xs) : TyX K H (.ref p) (.type "tuple") := by
  rcases h with h | ⟨o, _, _, h1, h2, _⟩
  · rcases h with h | ⟨o, h⟩
    · exact .base (.tup h)
    · exact .fTuple h
  · exact .kTuple h1 h2
theorem r_isiTT {ns : List Int} (h : IK K H v ns) (q : Q (.bl true) H) : rIsi K [v, .ty "tuple"] H Q := by
  obtain ⟨p, rfl, h⟩ := h
  exact r_isi (.ty _) (ty_tup h) (kit_ty (by decide +kernel)) q
def rLenV (K : PySem.W.Frag) : List V → Hp → VK → Prop := fun xs H Q => ∃ p ys, xs = [.ref p] ∧ (SqL K H p ys ∨ SqT K H p ys) ∧ Q (.int ys.length) H
theorem r_cbLen (q : a σ H fun vs H1 => rLenV K vs H1 Q) : tCB (fun xs H Q => ∃ p ys, xs = [.ref p] ∧ (SqL K H p ys ∨ SqT K H p ys) ∧ Q (.int ys.length) H) a σ H Q := q
theorem r_lenI {ns : List Int} {m : Int} (h : IK K H v ns) (e : (ns.length : Int) = m) (q : Q (.int m) H) : rLenV K [v] H Q := by
  obtain ⟨p, rfl, h⟩ := h
  refine ⟨p, _, rfl, .inr h, ?_⟩
  rw [List.length_map, e]
  exact q
theorem r_len2 (h : IK K H v [i, j]) (q : Q (.int 2) H) : rLenV K [v] H Q := r_lenI h rfl q
theorem r_len3 {l : Int} (h : IK K H v [i, j, l]) (q : Q (.int 3) H) : rLenV K [v] H Q := r_lenI h rfl q
theorem r_lenL {p : Addr} {xs : List V} (h : H p = some (.lst xs)) (q : Q (.int xs.length) H) : rLenV K [.ref p] H Q := ⟨p, xs, rfl, .inl (SqL.of h), q⟩
def rInt1 : List V → Hp → VK → Prop := fun xs H Q => (∃ i, xs = [.int i] ∧ Q (.int i) H) ∨ ∃ k, xs = [.bl k] ∧ Q (.int (if k then 1 else 0)) H
theorem r_cbInt (q : a σ H fun vs H1 => rInt1 vs H1 Q) : tCB (fun xs H Q => (∃ i, xs = [.int i] ∧ Q (.int i) H) ∨ ∃ k, xs = [.bl k] ∧ Q (.int (if k then 1 else 0)) H) a σ H Q := q
theorem r_int1 (q : Q (.int i) H) : rInt1 [.int i] H Q := .inl ⟨i, rfl, q⟩
theorem r_int1B {b : Bool} (q : Q (.int (if b then 1 else 0)) H) : rInt1 [.bl b] H Q := .inr ⟨b, rfl, q⟩
def rReprI : List V → Hp → VK → Prop := fun xs H Q => ∃ i, xs = [.int i] ∧ i.natAbs.log2 < 1920 ∧ Q (.str (toString i)) H
theorem r_cbRepr (q : a σ H fun vs H1 => rReprI vs H1 Q) : tCB (fun xs H Q => ∃ i, xs = [.int i] ∧ i.natAbs.log2 < 1920 ∧ Q (.str (toString i)) H) a σ H Q := q
theorem r_reprI (h : i.natAbs.log2 < 1920) (q : Q (.str (toString i)) H) : rReprI [.int i] H Q := ⟨i, rfl, h, q⟩
def rTupL (K : PySem.W.Frag) : List V → Hp → VK → Prop := fun xs H Q => ∃ p ys, xs = [.ref p] ∧ ((SqL K H p ys ∧ ∀ l, H l = none → Q (.ref l) (upd H l (.tup ys))) ∨ (SqT K H p ys ∧ Q (.ref p) H))
theorem r_cbTup (q : a σ H fun vs H1 => rTupL K vs H1 Q) : tCB (fun xs H Q => ∃ p ys, xs = [.ref p] ∧ ((SqL K H p ys ∧ ∀ l, H l = none → Q (.ref l) (upd H l (.tup ys))) ∨ (SqT K H p ys ∧ Q (.ref p) H))) a σ H Q := q
theorem r_tupL {p : Addr} {ns : List Int} (h : H p = some (.lst (ns.map V.int))) (k : ∀ v H2, Stp none H H2 → IT H2 v ns → Q v H2) : rTupL K [.ref p] H Q :=
  ⟨p, _, rfl, .inl ⟨SqL.of h, fun l hl => k _ _ (Stp.new hl) ⟨l, rfl, upd_same⟩⟩⟩
def rLstL (K : PySem.W.Frag) : List V → Hp → VK → Prop := fun xs H Q => ∃ p ys, xs = [.ref p] ∧ (SqL K H p ys ∨ SqT K H p ys) ∧ ∀ l, H l = none → Q (.ref l) (upd H l (.lst ys))
theorem r_cbLst (q : a σ H fun vs H1 => rLstL K vs H1 Q) : tCB (fun xs H Q => ∃ p ys, xs = [.ref p] ∧ (SqL K H p ys ∨ SqT K H p ys) ∧ ∀ l, H l = none → Q (.ref l) (upd H l (.lst ys))) a σ H Q := q
theorem r_lstL {p : Addr} {xs : List V} (h : SqL K H p xs) (k : ∀ l H2, Stp none H H2 → H2 l = some (.lst xs) → H l = none → Q (.ref l) H2) : rLstL K [.ref p] H Q :=
  ⟨p, xs, rfl, .inl h, fun l hl => k l _ (Stp.new hl) upd_same hl⟩
theorem r_nT {A B : Prop} (q : B) : if (!true) = true then A else B := q
theorem r_nF {A B : Prop} (q : A) : if (!false) = true then A else B := q
theorem r_gcd {i j : Int} (q : Q (.int ((Nat.gcd i.natAbs j.natAbs : Nat) : Int)) H) : rGcd [.int i, .int j] H Q := ⟨i, j, rfl, q⟩
theorem r_setLi {p : Addr} {xs : List V} {i : Int} {Q : Hp → Prop} (h : H p = some (.lst xs)) (h0 : 0 ≤ i) (hn : i.toNat < xs.length) (q : Q (upd H p (.lst (xs.set i.toNat v)))) : rSetL (.ref p) (.int i) v H Q := by
  have e : i = ((i.toNat : Nat) : Int) := (Int.toNat_of_nonneg h0).symm
  rw [e]
  exact r_setL h hn q
/-- xs[i] = v, both parts read -/
theorem r_gsub {to ti : TE} {t : TSet} {Q : L2.St → Hp → Prop} (q : to σ H fun o H1 => ti σ H1 fun i H2 => t o i v H2 fun H3 => Q σ H3) : gSub to ti t v σ H Q := q
/-- x.f handed to Q -/
def FldR (K : PySem.W.Frag) (f : Str) (x : V) (H : Hp) (Q : VK) : Prop := ∃ a C dx fs v, x = .ref a ∧ H a = some (.ins C dx fs) ∧ Cls K C ∧ NoAttr K C f ∧ fs.lookup f = some v ∧ Q v H
theorem r_fld {f : Str} (q : ta σ H fun x H1 => FldR K f x H1 Q) : tFld K ta f σ H Q := q
theorem mulW_of {i j : Int} (hi : i.natAbs < 10 ^ 70) (hj : j.natAbs < 10 ^ 70) : CMulW i j :=
  wide_mul (a := 240) (b := 240) (Nat.lt_of_lt_of_le hi (by decide)) (Nat.lt_of_lt_of_le hj (by decide)) (by decide) (by decide) (by decide)
theorem divW_of {i j : Int} (h : 0 < j) (hj : j.natAbs < 10 ^ 70) : CDivW i j :=
  wide_div (b := 240) h (Nat.lt_of_lt_of_le hj (by decide)) (by decide) (by decide)
theorem log2_of {i : Int} (h : i.natAbs < 10 ^ 500) : i.natAbs.log2 < 1920 := by
  have : i.natAbs < 2 ^ 1920 := Nat.lt_of_lt_of_le h (by decide +kernel)
  by_cases z : i.natAbs = 0
  · rw [z]; decide
  · exact (Nat.log2_lt z).mpr this
theorem r_p6 (q : Q (.int 1000000) H) : rI CPow (fun i j => .int (i ^ j.toNat)) (.int 10) (.int 6) H Q := ⟨10, 6, rfl, rfl, ⟨by decide, by decide, by decide⟩, q⟩
theorem r_p9 (q : Q (.int 1000000000) H) : rI CPow (fun i j => .int (i ^ j.toNat)) (.int 10) (.int 9) H Q := ⟨10, 9, rfl, rfl, ⟨by decide, by decide, by decide⟩, q⟩
theorem r_p10 (q : Q (.int 10000000000) H) : rI CPow (fun i j => .int (i ^ j.toNat)) (.int 10) (.int 10) H Q := ⟨10, 10, rfl, rfl, ⟨by decide, by decide, by decide⟩, q⟩
theorem r_p11 (q : Q (.int 100000000000) H) : rI CPow (fun i j => .int (i ^ j.toNat)) (.int 10) (.int 11) H Q := ⟨10, 11, rfl, rfl, ⟨by decide, by decide, by decide⟩, q⟩
theorem r_p12 (q : Q (.int 1000000000000) H) : rI CPow (fun i j => .int (i ^ j.toNat)) (.int 10) (.int 12) H Q := ⟨10, 12, rfl, rfl, ⟨by decide, by decide, by decide⟩, q⟩
theorem r_p18 (q : Q (.int 1000000000000000000) H) : rI CPow (fun i j => .int (i ^ j.toNat)) (.int 10) (.int 18) H Q := ⟨10, 18, rfl, rfl, ⟨by decide, by decide, by decide⟩, q⟩
theorem r_p20 (q : Q (.int 100000000000000000000) H) : rI CPow (fun i j => .int (i ^ j.toNat)) (.int 10) (.int 20) H Q := ⟨10, 20, rfl, rfl, ⟨by decide, by decide, by decide⟩, q⟩
theorem r_p26 (q : Q (.int 100000000000000000000000000) H) : rI CPow (fun i j => .int (i ^ j.toNat)) (.int 10) (.int 26) H Q := ⟨10, 26, rfl, rfl, ⟨by decide, by decide, by decide⟩, q⟩
theorem r_p27 (q : Q (.int 1000000000000000000000000000) H) : rI CPow (fun i j => .int (i ^ j.toNat)) (.int 10) (.int 27) H Q := ⟨10, 27, rfl, rfl, ⟨by decide, by decide, by decide⟩, q⟩
theorem r_p30 (q : Q (.int 1000000000000000000000000000000) H) : rI CPow (fun i j => .int (i ^ j.toNat)) (.int 10) (.int 30) H Q := ⟨10, 30, rfl, rfl, ⟨by decide, by decide, by decide⟩, q⟩
theorem r_sfld {f : Str} {tv : TE} (q : tv σ H fun y H1 => ta σ H1 fun x H2 => ∃ a C dx fs, x = .ref a ∧ H2 a = some (.ins C dx fs) ∧ Cls K C ∧ NoAttr K C f ∧ fs.length < 1000 ∧ D.nx σ (upd H2 a (.ins C dx (putF f y fs)))) :
    sFld K ta tv f D σ H := q
theorem r_unl2 {Q : L2.St → Hp → Prop} {p : Addr} (h : H p = some (.lst [x, y])) (q : gs [x, y] σ H Q) : gLst K 2 gs (.ref p) σ H Q := ⟨p, _, rfl, SqL.of h, rfl, q⟩
/-- what isinstance asks of a class of the text -/
structure IsC (K : PySem.W.Frag) (C : Addr) : Prop where
  ca : PySem.W.findIn K (.ref C) "__class__" = some (some (.builtin "object.__class__"))
  cn : PySem.W.specialIn K (.builtin "object.__class__") "__get__" = some (some (.builtin "getset_descriptor.__get__"))
  ct : PySem.W.takesIn K (.builtin "object.__class__") = some true
  cm : PySem.W.mroIn K C (.type "object") = some true
theorem IsC.ty {C p dx : Addr} {fs : List (Str × V)} (c : IsC K C) (cl : Cls K C) (h : H p = some (.ins C dx fs)) : TyX K H (.ref p) (.ref C) :=
  .base (.ins h cl c.ca c.cn c.ct c.cm)
theorem kit_self {C : Addr} : PySem.W.kitOne K (.ref C) (.ref C) = some true := by
  unfold PySem.W.kitOne
  rw [if_pos (by simp)]
theorem notFirst_self {C : Addr} : PySem.W.notFirst K C (.ref C) = true := by
  unfold PySem.W.notFirst
  simp
/-- a property's object is known -/
theorem r_propAt {C p dx : Addr} {fs : List (Str × V)} {sp : Sp} {E : XK} (h : H p = some (.ins C dx fs)) (q : sp [.ref p] H Q E) :
    ∃ a dx fs, V.ref p = .ref a ∧ H a = some (.ins C dx fs) ∧ sp (.ref a :: []) H Q E := ⟨p, dx, fs, rfl, h, q⟩
theorem r_sl {rs : V → Option Int → Option Int → Hp → VK → Prop} {tl th : TO} (q : te σ H fun x H1 => tl σ H1 fun l H2 => th σ H2 fun u H3 => rs x l u H3 Q) : tSl rs te tl th σ H Q := q
theorem r_noPart {Q : Option Int → Hp → Prop} (q : Q none H) : tNoPart σ H Q := q
theorem r_part {Q : Option Int → Hp → Prop} (q : te σ H fun x H1 => ∃ i, x = .int i ∧ Q (some i) H1) : tPart te σ H Q := q
theorem r_pk {P : Int → Prop} (q : P i) : ∃ i', V.int i = .int i' ∧ P i' := ⟨i, rfl, q⟩
theorem r_slL {p : Addr} {xs : List V} {lo hi : Option Int} (h : SqL K H p xs) (k : ∀ l H2, Stp none H H2 → H2 l = some (.lst (cutV xs lo hi)) → H l = none → Q (.ref l) H2) : rSlL K (.ref p) lo hi H Q :=
  ⟨p, xs, rfl, h, fun l hl => k l _ (Stp.new hl) upd_same hl⟩
theorem cutV_map (ns : List Int) (lo hi : Option Int) : ∃ ms : List Int, cutV (ns.map V.int) lo hi = ms.map V.int :=
  ⟨(ns.drop (HT.sIx ns.length 0 lo)).take (HT.sIx ns.length ns.length hi - HT.sIx ns.length 0 lo), by
    unfold cutV
    simp only [List.length_map, List.map_take, List.map_drop]⟩
theorem r_set1 {t : Addr} {p q r s : V} {Q : Hp → Prop} (h : H t = some (.lst [p, q, r, s])) (k : Q (upd H t (.lst [p, v, r, s]))) : rSetL (.ref t) (.int 1) v H Q := r_setLi h (by decide) (Nat.le_of_ble_eq_true rfl) k
theorem r_set2 {t : Addr} {p q r s : V} {Q : Hp → Prop} (h : H t = some (.lst [p, q, r, s])) (k : Q (upd H t (.lst [p, q, v, s]))) : rSetL (.ref t) (.int 2) v H Q := r_setLi h (by decide) (Nat.le_of_ble_eq_true rfl) k
theorem r_set3 {t : Addr} {p q r s : V} {Q : Hp → Prop} (h : H t = some (.lst [p, q, r, s])) (k : Q (upd H t (.lst [p, q, r, v]))) : rSetL (.ref t) (.int 3) v H Q := r_setLi h (by decide) (Nat.le_of_ble_eq_true rfl) k
/-- the tape at t, written out -/
structure TapeIs (H : Hp) (t l : Addr) (ns : List Int) (a b c : Int) : Prop where
  ne : l ≠ t
  at_ : H t = some (.lst [.ref l, .int a, .int b, .int c])
  li : H l = some (.lst (ns.map V.int))
  a0 : 0 ≤ a
  c0 : 0 ≤ c
  c1 : c < 2147483647
theorem Tape.is {t : Addr} (T : Tape H t) : ∃ l ns a b c, TapeIs H t l ns a b c := by
  obtain ⟨l, ns, a, b, c, h1, h2, h3, h4, h5, h6⟩ := T
  exact ⟨l, ns, a, b, c, h1, h2, h3, h4, h5, h6⟩
theorem TapeIs.put {t l : Addr} {ns : List Int} {a b c a' b' c' : Int} (T : TapeIs H t l ns a b c) (a0 : 0 ≤ a') (c0 : 0 ≤ c') (c1 : c' < 2147483647) :
    Stp (some t) H (upd H t (.lst [.ref l, .int a', .int b', .int c'])) ∧ TapeIs (upd H t (.lst [.ref l, .int a', .int b', .int c'])) t l ns a' b' c' := by
  have T' : TapeIs (upd H t (.lst [.ref l, .int a', .int b', .int c'])) t l ns a' b' c' := ⟨T.ne, upd_same, by rw [upd_ne T.ne]; exact T.li, a0, c0, c1⟩
  refine ⟨⟨fun x o n e => ?_, fun x l' e z => ?_⟩, T'⟩
  · by_cases h : x = t
    · subst h
      rw [T.at_] at e
      exact absurd (Option.some.inj e).symm (n rfl _)
    · rw [upd_ne h]; exact e
  · cases e
    have el : l' = l := by
      obtain ⟨_, _, _, _, _, h, _⟩ := z
      rw [T.at_] at h
      simp only [Option.some.injEq, HO.lst.injEq, List.cons.injEq, V.ref.injEq] at h
      exact h.1.symm
    subst el
    exact ⟨ns, a', b', c', T'.ne, T'.at_, T'.li, a0, c0, c1⟩
theorem r_while {c : TT} {tb : TS} (W : Nat → L2.St → Hp → Prop) (h0 : ∃ m, W m σ H) (hs : ∀ m σ H, W m σ H →
    c σ H fun b H1 => if b = true then ∃ N : L2.St → Hp → Prop, (∀ σ' H', N σ' H' → ∃ m', m' < m ∧ W m' σ' H') ∧ tb { D with nx := N, ct := N, bk := D.nx } σ H1 else D.nx σ H1) :
    tWhile c tb D σ H := ⟨W, h0, hs⟩
end
end MV

set_option Elab.async false
set_option linter.all false
set_option maxRecDepth 100000
set_option maxHeartbeats 2000000
/-! MVF: loops and comprehensions as readings. -/
namespace MV
open PySem PySem.Spec PyProof.Rows L2
section
variable {K : PySem.W.Frag} {σ : L2.St} {H : Hp} {n : Nat} {tl : TE} {g : TG} {tb : TS} {D : Ends} {ta : TA} {x : V}
/-- a loop over a list that stands still -/
def ForL (g : TG) (tb : TS) (D : Ends) (σ : L2.St) (x : V) (H1 : Hp) : Prop := ∃ (a : Addr) (xs : List V) (Pv : Nat → L2.St → Hp → Prop), x = .ref a ∧ Pv 0 σ H1 ∧
  (∀ i σ H, i ≤ xs.length → Pv i σ H → H a = some (.lst xs)) ∧
  (∀ i x σ H, xs[i]? = some x → Pv i σ H → g x σ H fun σ2 H2 => tb { D with nx := Pv (i + 1), ct := Pv (i + 1), bk := D.nx } σ2 H2) ∧ (∀ σ H, Pv xs.length σ H → D.nx σ H)
def ForLR (K : PySem.W.Frag) (g : TG) (tb : TS) (D : Ends) (σ : L2.St) (x : V) (H1 : Hp) : Prop := ∃ a, x = .ref a ∧ (∃ xs, SqL K H1 a xs) ∧ ∃ W : Nat → Nat → L2.St → Hp → Prop, (∃ m, W 0 m σ H1) ∧ ∀ i m σ H, W i m σ H →
  ((Itl K a).stop i H ∧ D.nx σ H) ∨ ((Itl K a).go i H ∧ ∃ N : L2.St → Hp → Prop, (∀ σ' H', N σ' H' → ∃ m', m' < m ∧ W (i + 1) m' σ' H') ∧ ∀ x H', (Itl K a).yld i H x H' → g x σ H' fun σ2 H2 => tb { D with nx := N, ct := N, bk := D.nx } σ2 H2)
theorem r_forL (q : tl σ H fun x H1 => ForLR K g tb D σ x H1) : tFor (iList K tl) g tb D σ H := q
theorem ForL.ok (q : ForL g tb D σ x H) : ForLR K g tb D σ x H := by
  obtain ⟨a, xs, Pv, rfl, h0, hl, hs, hd⟩ := q
  exact ⟨a, rfl, ⟨xs, SqL.of (hl 0 σ H (Nat.zero_le _) h0)⟩, for_list Pv h0 (fun i σ H h p => SqL.of (hl i σ H h p)) hs hd⟩
/-- range(n) -/
def ForR (g : TG) (tb : TS) (D : Ends) (σ : L2.St) (vs : List V) (H1 : Hp) : Prop := ∃ (n : Nat) (Pv : Nat → L2.St → Hp → Prop), vs = [.int n] ∧ n < 2 ^ 62 ∧ Pv 0 σ H1 ∧
  (∀ i σ H, i < n → Pv i σ H → g (.int i) σ H fun σ2 H2 => tb { D with nx := Pv (i + 1), ct := Pv (i + 1), bk := D.nx } σ2 H2) ∧ (∀ σ H, Pv n σ H → D.nx σ H)
def ForRn (g : TG) (tb : TS) (D : Ends) (σ : L2.St) (vs : List V) (H : Hp) : Prop := ∃ j : Int, vs = [.int j] ∧ -(2 ^ 62) ≤ j ∧ j < 2 ^ 62 ∧ ∃ W : Nat → Nat → L2.St → Hp → Prop, (∃ m, W 0 m σ H) ∧ ∀ i m σ H, W i m σ H →
      ((Itr 0 j.toNat).stop i H ∧ D.nx σ H) ∨ ((Itr 0 j.toNat).go i H ∧ ∃ N : L2.St → Hp → Prop, (∀ σ' H', N σ' H' → ∃ m', m' < m ∧ W (i + 1) m' σ' H') ∧ ∀ x H', (Itr 0 j.toNat).yld i H x H' → g x σ H' fun σ2 H2 => tb { D with nx := N, ct := N, bk := D.nx } σ2 H2)
theorem ForR.ok {vs : List V} (q : ForR g tb D σ vs H) : ForRn g tb D σ vs H := by
  obtain ⟨n, Pv, rfl, hn, h0, hs, hd⟩ := q
  refine ⟨n, rfl, by omega, by omega, for_range (lo := 0) (n := (n : Int).toNat) Pv h0 (fun i σ H h p => ?_) hd⟩
  rw [Int.zero_add]
  exact hs i σ H h p
theorem r_forR (q : ta σ H fun vs H1 => ForRn g tb D σ vs H1) : tFor (iRng1 ta) g tb D σ H := q
theorem r_forRc {i : Int} (q : ForR g tb D σ [.int i] H) : tFor (iRng1 (tCons (tC (.int i)) tNil)) g tb D σ H := ForR.ok q
theorem r_forRv {m : Nat} {v : V} (h : σ[m]? = some (some v)) (q : ForR g tb D σ [v] H) : tFor (iRng1 (tCons (tVar m) tNil)) g tb D σ H := ⟨v, h, ForR.ok q⟩

/-- [te for n in an int tuple], the terms made of ints alone -/
def LcI (K : PySem.W.Frag) (n : Nat) (te : TE) (vs : List Nat) (σ : L2.St) (Q : VK) (v : V) (H1 : Hp) : Prop := ∃ (ns : List Int) (f : Int → Int), IK K H1 v ns ∧ ns.length ≤ 100 ∧
  (∀ m H', m ∈ ns → Stp none H1 H' → wipe ((wipe σ vs).set n (some (.int m))) vs = wipe σ vs ∧ ∀ Q : VK, Q (.int (f m)) H' → te ((wipe σ vs).set n (some (.int m))) H' Q) ∧
  ∀ p H2, Stp none H1 H2 → H2 p = some (.lst ((ns.map f).map V.int)) → H1 p = none → Q (.ref p) H2
theorem LcI.ok {te : TE} {vs : List Nat} {Q : VK} {v : V} (q : LcI K n te vs σ Q v H) : ∃ a, v = .ref a ∧ (∃ xs, SqT K H a xs) ∧ ∀ D, H D = none → ∃ W : Nat → Nat → Hp → Prop, (∃ m, W 0 m (upd H D (.lst []))) ∧ ∀ i m H, W i m H →
  ((Itt K a).stop i H ∧ Q (.ref D) H) ∨ ((Itt K a).go i H ∧ ∃ Nx : Hp → Prop, (∀ H', Nx H' → ∃ m', m' < m ∧ W (i + 1) m' H') ∧ ∀ x H', (Itt K a).yld i H x H' → gName n x (wipe σ vs) H' fun σ2 H2 => wipe σ2 vs = wipe σ vs ∧ tYes σ2 H2 fun b H3 =>
    if b = true then te σ2 H3 fun y H4 => ∃ acc, H4 D = some (.lst acc) ∧ acc.length < sizeLine ∧ Nx (upd H4 D (.lst (acc ++ [y]))) else Nx H3) := by
  obtain ⟨ns, f, ⟨a, rfl, ha⟩, hl, hs, hd⟩ := q
  refine ⟨a, rfl, ⟨_, ha⟩, fun D hD => ?_⟩
  have up : ∀ {H' : Hp} {o : HO}, (∀ b o, H b = some o → H' b = some o) → ∀ b o', H b = some o' → upd H' D o b = some o' := fun s b o' e => by
    rw [upd_ne (ne_of_none e hD)]
    exact s b o' e
  refine lc_tup (fun i H' => (∀ b o, H b = some o → H' b = some o) ∧ H' D = some (.lst (((ns.take i).map f).map V.int))) ⟨up fun _ _ e => e, upd_same⟩
    (fun i H' _ p => SqT.mvS (Stp.of p.1 none) ha) (fun i x H' hx p => ?_) (fun H' p => hd D H' (Stp.of p.1 none) ?_ hD)
  · rw [List.getElem?_map] at hx
    obtain ⟨m, hm, rfl⟩ := Option.map_eq_some_iff.mp hx
    obtain ⟨w1, w2⟩ := hs m H' (List.mem_of_getElem? hm) (Stp.of p.1 none)
    refine ⟨w1, ?_⟩
    refine w2 _ ⟨_, p.2, ?_, up p.1, ?_⟩
    · rw [List.length_map, List.length_map, List.length_take]
      exact Nat.lt_of_le_of_lt (Nat.le_trans (Nat.min_le_right _ _) hl) (by decide)
    · rw [upd_same]
      have : i < ns.length := (List.getElem?_eq_some_iff.mp hm).1
      rw [List.take_succ, hm]
      simp
  · have e := p.2
    rw [List.length_map, List.take_length] at e
    exact e
theorem r_lcV {m : Nat} {te : TE} {vs : List Nat} {Q : VK} {v : V} (h : σ[m]? = some (some v)) (q : LcI K n te vs σ Q v H) : tLc (iTup K (tVar m)) (gName n) tYes te vs σ H Q := ⟨v, h, q.ok⟩
theorem r_nX {p : Prop} [Decidable p] {A B : Prop} (h : p) (q : B) : if (!decide p) = true then A else B := by
  rw [if_neg (by simp [h])]; exact q
theorem r_pX {p : Prop} [Decidable p] {A B : Prop} (h : p) (q : A) : if decide p = true then A else B := by
  rw [if_pos (by simp [h])]; exact q
theorem r_pN {p : Prop} [Decidable p] {A B : Prop} (h : ¬ p) (q : B) : if decide p = true then A else B := by
  rw [if_neg (by simp [h])]; exact q
end
theorem byTxt {α : Type} {p : α → Prop} {q : Prop} (h : ∃ a, p a) (k : ∀ a, p a → q) : q := (let ⟨a, z⟩ := h; k a z)
end MV

set_option maxHeartbeats 1000000
/-! the mathematics of nets: a shift in a net, its order -/
namespace MV

/-- the remainder of (x, y) in the cell of the net a, b, c -/
def lowX (a b c x y : Int) : Int := (x - y / c * b) % a
def lowY (c y : Int) : Int := y - y / c * c
/-- (x, y) is a shift of the net -/
def InN (a b c x y : Int) : Prop := lowX a b c x y = 0 ∧ lowY c y = 0

theorem lowY_mod (c y : Int) : lowY c y = y % c := by
  unfold lowY
  rw [Int.emod_def, Int.mul_comm c]
theorem lowY_add {c : Int} (hc : c ≠ 0) (y t : Int) : lowY c (y + t * c) = lowY c y := by
  rw [lowY_mod, lowY_mod, Int.add_mul_emod_self_right]
theorem lowX_add {a c : Int} (hc : c ≠ 0) (b x y s t : Int) : lowX a b c (x + s * a + t * b) (y + t * c) = lowX a b c x y := by
  unfold lowX
  rw [Int.add_mul_ediv_right _ _ hc]
  have e : x + s * a + t * b - (y / c + t) * b = (x - y / c * b) + s * a := by
    rw [Int.add_mul]; omega
  rw [e, Int.add_mul_emod_self_right]
/-- what (x, y) and its remainder differ by -/
theorem low_is {a b c : Int} (x y : Int) : x = lowX a b c x y + ((x - y / c * b) / a) * a + (y / c) * b ∧ y = lowY c y + (y / c) * c := by
  constructor
  · have h := Int.emod_add_mul_ediv (x - y / c * b) a
    unfold lowX
    have e : (x - y / c * b) / a * a = a * ((x - y / c * b) / a) := Int.mul_comm _ _
    omega
  · unfold lowY; omega
theorem low_sum {a b c : Int} (hc : c ≠ 0) (x y u v : Int) : lowX a b c (lowX a b c x y + u) (lowY c y + v) = lowX a b c (x + u) (y + v) ∧
    lowY c (lowY c y + v) = lowY c (y + v) := by
  obtain ⟨h1, h2⟩ := low_is (a := a) (b := b) (c := c) x y
  have e1 : x + u = (lowX a b c x y + u) + ((x - y / c * b) / a) * a + (y / c) * b := by omega
  have e2 : y + v = (lowY c y + v) + (y / c) * c := by omega
  constructor
  · rw [e1, e2]
    exact (lowX_add hc _ _ _ _ _).symm
  · rw [e2]
    exact (lowY_add hc _ _).symm
/-- the law's step: both remainders added -/
theorem low_step {a b c : Int} (hc : c ≠ 0) (x y u v : Int) :
    lowX a b c (lowX a b c x y + lowX a b c u v) (lowY c y + lowY c v) = lowX a b c (x + u) (y + v) ∧
    lowY c (lowY c y + lowY c v) = lowY c (y + v) := by
  have h1 := low_sum hc (a := a) (b := b) x y (lowX a b c u v) (lowY c v)
  have h2 := low_sum hc (a := a) (b := b) u v x y
  rw [h1.1, h1.2, Int.add_comm x, Int.add_comm y, h2.1, h2.2, Int.add_comm u, Int.add_comm v]
  exact ⟨rfl, rfl⟩

theorem lowX_rng {a b c x y : Int} (ha : 0 < a) : 0 ≤ lowX a b c x y ∧ lowX a b c x y < a :=
  ⟨Int.emod_nonneg _ (by omega), Int.emod_lt_of_pos _ ha⟩
theorem lowY_rng {c y : Int} (hc : 0 < c) : 0 ≤ lowY c y ∧ lowY c y < c := by
  rw [lowY_mod]
  exact ⟨Int.emod_nonneg _ (by omega), Int.emod_lt_of_pos _ hc⟩

theorem inN_iff {a b c x y : Int} : InN a b c x y ↔ c ∣ y ∧ a ∣ x - y / c * b := by
  unfold InN lowX
  rw [lowY_mod, ← Int.dvd_iff_emod_eq_zero, ← Int.dvd_iff_emod_eq_zero]
  exact And.comm
theorem inN_zero {a b c : Int} (hc : c ≠ 0) : InN a b c 0 0 := by
  rw [inN_iff]
  simp
theorem inN_add {a b c x y u v : Int} (hc : c ≠ 0) (h : InN a b c x y) (h2 : InN a b c u v) : InN a b c (x + u) (y + v) := by
  have e := low_step hc (a := a) (b := b) x y u v
  obtain ⟨h1, h3⟩ := h
  obtain ⟨h2, h4⟩ := h2
  rw [h1, h3, h2, h4] at e
  have z := inN_zero (a := a) (b := b) hc
  exact ⟨e.1.symm.trans z.1, e.2.symm.trans z.2⟩
theorem inN_neg {a b c x y : Int} (hc : c ≠ 0) (h : InN a b c x y) : InN a b c (-x) (-y) := by
  rw [inN_iff] at *
  obtain ⟨⟨k, rfl⟩, h2⟩ := h
  rw [Int.mul_ediv_cancel_left _ hc] at h2
  refine ⟨⟨-k, by rw [Int.mul_neg]⟩, ?_⟩
  have e : -(c * k) = c * (-k) := by rw [Int.mul_neg]
  rw [e, Int.mul_ediv_cancel_left _ hc]
  have e2 : -x - -k * b = -(x - k * b) := by rw [Int.neg_mul]; omega
  rw [e2]
  exact Int.dvd_neg.mpr h2
theorem inN_neg_iff {a b c x y : Int} (hc : c ≠ 0) : InN a b c (-x) (-y) ↔ InN a b c x y :=
  ⟨fun h => by have z := inN_neg hc h; rwa [Int.neg_neg, Int.neg_neg] at z, inN_neg hc⟩

/-! the order of a shift, as the program reckons it -/
def gcdI (a b : Int) : Int := ((Nat.gcd a.natAbs b.natAbs : Nat) : Int)
def ordT (c y : Int) : Int := c / gcdI c y
def ordA (b c x y : Int) : Int := ordT c y * x - ordT c y * y / c * b
def ord (a b c x y : Int) : Int := ordT c y * (a / gcdI a (ordA b c x y))

theorem gcdI_pos {a : Int} (h : 0 < a) (b : Int) : 0 < gcdI a b := by
  unfold gcdI
  have : 0 < Nat.gcd a.natAbs b.natAbs := Nat.gcd_pos_of_pos_left _ (by omega)
  omega
theorem gcdI_left (a b : Int) : gcdI a b ∣ a := by
  unfold gcdI
  exact Int.ofNat_dvd_left.mpr (Nat.gcd_dvd_left _ _)
theorem gcdI_right (a b : Int) : gcdI a b ∣ b := by
  unfold gcdI
  exact Int.ofNat_dvd_left.mpr (Nat.gcd_dvd_right _ _)
theorem nat_dvd_gcd {c : Nat} (hc : 0 < c) (y n : Nat) : c ∣ n * y ↔ c / Nat.gcd c y ∣ n := by
  have hg : 0 < Nat.gcd c y := Nat.gcd_pos_of_pos_left _ hc
  obtain ⟨u, hu⟩ := Nat.gcd_dvd_left c y
  obtain ⟨v, hv⟩ := Nat.gcd_dvd_right c y
  have hcop := Nat.coprime_div_gcd_div_gcd hg
  have e1 : c / Nat.gcd c y = u := Nat.div_eq_of_eq_mul_right hg hu
  have e2 : y / Nat.gcd c y = v := Nat.div_eq_of_eq_mul_right hg hv
  rw [e1, e2] at hcop
  rw [e1]
  constructor
  · intro h
    have h2 : Nat.gcd c y * u ∣ Nat.gcd c y * (n * v) := by
      have e : Nat.gcd c y * (n * v) = n * y := by
        conv => rhs; rw [hv]
        rw [Nat.mul_left_comm]
      rw [e, ← hu]; exact h
    exact hcop.dvd_of_dvd_mul_right (Nat.dvd_of_mul_dvd_mul_left hg h2)
  · rintro ⟨k, rfl⟩
    refine ⟨k * v, ?_⟩
    conv => lhs; rw [hv]
    conv => rhs; rw [hu]
    simp only [Nat.mul_assoc, Nat.mul_left_comm, Nat.mul_comm]
/-- c | n y exactly if c / gcd (c, y) | n -/
theorem dvd_gcd {c : Int} (hc : 0 < c) (y n : Int) : c ∣ n * y ↔ c / gcdI c y ∣ n := by
  have h := nat_dvd_gcd (c := c.natAbs) (by omega) y.natAbs n.natAbs
  rw [← Int.natAbs_mul] at h
  have e : c / gcdI c y = ((c.natAbs / Nat.gcd c.natAbs y.natAbs : Nat) : Int) := by
    unfold gcdI
    have : c = (c.natAbs : Int) := by omega
    conv => lhs; rw [this]
    simp
  rw [← Int.natAbs_dvd_natAbs, h, e, ← Int.natAbs_dvd_natAbs, Int.natAbs_natCast]
theorem ordT_pos {c : Int} (hc : 0 < c) (y : Int) : 0 < ordT c y := by
  unfold ordT
  have := gcdI_pos hc y
  exact Int.ediv_pos_of_pos_of_dvd hc (by omega) (gcdI_left c y)
theorem ord_pos {a c : Int} (ha : 0 < a) (hc : 0 < c) (b x y : Int) : 0 < ord a b c x y := by
  unfold ord
  have h := gcdI_pos ha (ordA b c x y)
  have h2 : 0 < a / gcdI a (ordA b c x y) := Int.ediv_pos_of_pos_of_dvd ha (by omega) (gcdI_left _ _)
  exact Int.mul_pos (ordT_pos hc y) h2
/-- a multiple of a shift belongs to the net exactly if the order divides its number -/
theorem inN_mul {a b c : Int} (ha : 0 < a) (hc : 0 < c) (x y n : Int) : InN a b c (n * x) (n * y) ↔ ord a b c x y ∣ n := by
  have hc0 : c ≠ 0 := by omega
  have hT := ordT_pos hc y
  have hTy : c ∣ ordT c y * y := (dvd_gcd hc y (ordT c y)).mpr (Int.dvd_refl _)
  obtain ⟨e, he⟩ := hTy
  rw [inN_iff, dvd_gcd hc]
  have key : ∀ k : Int, (ordT c y * k) * x - (ordT c y * k) * y / c * b = k * ordA b c x y := by
    intro k
    unfold ordA
    have e1 : ordT c y * k * y = c * (k * e) := by
      rw [Int.mul_right_comm, he, Int.mul_assoc, Int.mul_comm e]
    rw [e1, he, Int.mul_ediv_cancel_left _ hc0, Int.mul_ediv_cancel_left _ hc0, Int.mul_sub]
    rw [Int.mul_comm (ordT c y) k, Int.mul_assoc, Int.mul_assoc]
  constructor
  · rintro ⟨⟨k, rfl⟩, h2⟩
    have h3 := key k
    have h2' : a ∣ ordT c y * k * x - ordT c y * k * y / c * b := h2
    rw [h3, dvd_gcd ha] at h2'
    exact Int.mul_dvd_mul (Int.dvd_refl _) h2'
  · rintro ⟨k, rfl⟩
    have e1 : ord a b c x y * k = ordT c y * (a / gcdI a (ordA b c x y) * k) := by unfold ord; rw [Int.mul_assoc]
    rw [e1]
    refine ⟨⟨_, rfl⟩, ?_⟩
    rw [key, dvd_gcd ha]
    exact ⟨k, rfl⟩
theorem inN_size {a b c : Int} (hc : 0 < c) (x y : Int) : InN a b c (a * c * x) (a * c * y) := by
  rw [inN_iff]
  have e : a * c * y = c * (a * y) := by rw [Int.mul_comm a, Int.mul_assoc]
  refine ⟨⟨a * y, e⟩, ?_⟩
  rw [e, Int.mul_ediv_cancel_left _ (by omega)]
  refine ⟨c * x - y * b, ?_⟩
  rw [Int.mul_sub, Int.mul_assoc, Int.mul_assoc]
theorem ord_dvd_size {a b c : Int} (ha : 0 < a) (hc : 0 < c) (x y : Int) : ord a b c x y ∣ a * c :=
  (inN_mul ha hc x y _).mp (inN_size hc x y)
theorem ord_neg {a b c : Int} (ha : 0 < a) (hc : 0 < c) (x y : Int) : ord a b c (-x) (-y) = ord a b c x y := by
  have h : ∀ n, ord a b c (-x) (-y) ∣ n ↔ ord a b c x y ∣ n := by
    intro n
    rw [← inN_mul ha hc, ← inN_mul ha hc, Int.mul_neg, Int.mul_neg, inN_neg_iff (by omega)]
  exact Int.dvd_antisymm (Int.le_of_lt (ord_pos ha hc _ _ _)) (Int.le_of_lt (ord_pos ha hc _ _ _)) ((h _).mpr (Int.dvd_refl _)) ((h _).mp (Int.dvd_refl _))
/-- the least number from 1 whose multiple belongs to the net is the order -/
theorem ord_least {a b c : Int} (ha : 0 < a) (hc : 0 < c) {x y n : Int} (hn : 0 < n) (h : InN a b c (n * x) (n * y))
    (hl : ∀ m, 0 < m → m < n → ¬ InN a b c (m * x) (m * y)) : n = ord a b c x y := by
  have h1 := (inN_mul ha hc x y n).mp h
  have h2 := Int.le_of_dvd hn h1
  have h3 := ord_pos ha hc b x y
  have h4 := hl (ord a b c x y) h3
  have h5 := (inN_mul ha hc x y _).mpr (Int.dvd_refl (ord a b c x y))
  have h6 : ¬ ord a b c x y < n := fun z => h4 z h5
  omega
end MV

set_option Elab.async false
set_option linter.all false
set_option maxRecDepth 100000
set_option maxHeartbeats 4000000
namespace Law
open PySem PySem.Spec PyProof.Rows L2 MV
def topS (i : Nat) : Stmt := PySem.Challenge.pw_carpets_k06_orders_and_multiples.main.body.getD i (.Pass ⟨0, 0, 0, 0⟩)
abbrev s_is_integer : Stmt := topS 8
abbrev N_is_integer : List Str := ["value"]
abbrev P_is_integer : List Str := ["value"]
theorem sc_is_integer : FnScope N_is_integer P_is_integer (defScope s_is_integer) := ⟨rfl, rfl, rfl, by decide +kernel, rfl, by decide +kernel, by decide +kernel⟩
abbrev s_is_place : Stmt := topS 10
abbrev N_is_place : List Str := ["value"]
abbrev P_is_place : List Str := ["value"]
theorem sc_is_place : FnScope N_is_place P_is_place (defScope s_is_place) := ⟨rfl, rfl, rfl, by decide +kernel, rfl, by decide +kernel, by decide +kernel⟩
abbrev s_check_place : Stmt := topS 11
abbrev N_check_place : List Str := ["value"]
abbrev P_check_place : List Str := ["value"]
theorem sc_check_place : FnScope N_check_place P_check_place (defScope s_check_place) := ⟨rfl, rfl, rfl, by decide +kernel, rfl, by decide +kernel, by decide +kernel⟩
abbrev s_check_positive : Stmt := topS 9
abbrev N_check_positive : List Str := ["value"]
abbrev P_check_positive : List Str := ["value"]
theorem sc_check_positive : FnScope N_check_positive P_check_positive (defScope s_check_positive) := ⟨rfl, rfl, rfl, by decide +kernel, rfl, by decide +kernel, by decide +kernel⟩
abbrev s_are_numbers : Stmt := topS 16
abbrev N_are_numbers : List Str := ["a", "b", "c"]
abbrev P_are_numbers : List Str := ["a", "b", "c"]
theorem sc_are_numbers : FnScope N_are_numbers P_are_numbers (defScope s_are_numbers) := ⟨rfl, rfl, rfl, by decide +kernel, rfl, by decide +kernel, by decide +kernel⟩
abbrev s_two_shifts : Stmt := topS 17
abbrev N_two_shifts : List Str := ["numbers", "a", "b", "c"]
abbrev P_two_shifts : List Str := ["numbers"]
theorem sc_two_shifts : FnScope N_two_shifts P_two_shifts (defScope s_two_shifts) := ⟨rfl, rfl, rfl, by decide +kernel, rfl, by decide +kernel, by decide +kernel⟩
abbrev s_Net_init : Stmt := inClass (topS 21) 0
abbrev N_Net_init : List Str := ["self", "a", "b", "c"]
abbrev P_Net_init : List Str := ["self", "a", "b", "c"]
theorem sc_Net_init : FnScope N_Net_init P_Net_init (defScope s_Net_init) := ⟨rfl, rfl, rfl, by decide +kernel, rfl, by decide +kernel, by decide +kernel⟩
abbrev s_Net_numbers : Stmt := inClass (topS 21) 3
abbrev N_Net_numbers : List Str := ["self"]
abbrev P_Net_numbers : List Str := ["self"]
theorem sc_Net_numbers : FnScope N_Net_numbers P_Net_numbers (defScope s_Net_numbers) := ⟨rfl, rfl, rfl, by decide +kernel, rfl, by decide +kernel, by decide +kernel⟩
abbrev s_Net_size : Stmt := inClass (topS 21) 4
abbrev N_Net_size : List Str := ["self", "a", "_", "c"]
abbrev P_Net_size : List Str := ["self"]
theorem sc_Net_size : FnScope N_Net_size P_Net_size (defScope s_Net_size) := ⟨rfl, rfl, rfl, by decide +kernel, rfl, by decide +kernel, by decide +kernel⟩
abbrev s_Net_contains : Stmt := inClass (topS 21) 5
abbrev N_Net_contains : List Str := ["self", "x"]
abbrev P_Net_contains : List Str := ["self", "x"]
theorem sc_Net_contains : FnScope N_Net_contains P_Net_contains (defScope s_Net_contains) := ⟨rfl, rfl, rfl, by decide +kernel, rfl, by decide +kernel, by decide +kernel⟩
abbrev s_home : Stmt := topS 20
abbrev N_home : List Str := ["numbers", "place", "a", "b", "c", "x", "y"]
abbrev P_home : List Str := ["numbers", "place"]
theorem sc_home : FnScope N_home P_home (defScope s_home) := ⟨rfl, rfl, rfl, by decide +kernel, rfl, by decide +kernel, by decide +kernel⟩
abbrev s_Net_reduced : Stmt := inClass (topS 21) 9
abbrev N_Net_reduced : List Str := ["self", "place"]
abbrev P_Net_reduced : List Str := ["self", "place"]
theorem sc_Net_reduced : FnScope N_Net_reduced P_Net_reduced (defScope s_Net_reduced) := ⟨rfl, rfl, rfl, by decide +kernel, rfl, by decide +kernel, by decide +kernel⟩
abbrev s_Net_order : Stmt := inClass (topS 21) 10
abbrev N_Net_order : List Str := ["self", "shift", "a", "b", "c", "x", "y", "times", "along"]
abbrev P_Net_order : List Str := ["self", "shift"]
theorem sc_Net_order : FnScope N_Net_order P_Net_order (defScope s_Net_order) := ⟨rfl, rfl, rfl, by decide +kernel, rfl, by decide +kernel, by decide +kernel⟩
abbrev s_Net_is_within : Stmt := inClass (topS 21) 12
abbrev N_Net_is_within : List Str := ["self", "other", "first", "second"]
abbrev P_Net_is_within : List Str := ["self", "other"]
theorem sc_Net_is_within : FnScope N_Net_is_within P_Net_is_within (defScope s_Net_is_within) := ⟨rfl, rfl, rfl, by decide +kernel, rfl, by decide +kernel, by decide +kernel⟩
abbrev s_Net_scaled : Stmt := inClass (topS 21) 13
abbrev N_Net_scaled : List Str := ["self", "factor", "a", "b", "c"]
abbrev P_Net_scaled : List Str := ["self", "factor"]
theorem sc_Net_scaled : FnScope N_Net_scaled P_Net_scaled (defScope s_Net_scaled) := ⟨rfl, rfl, rfl, by decide +kernel, rfl, by decide +kernel, by decide +kernel⟩
abbrev s_Net_eq : Stmt := inClass (topS 21) 14
abbrev N_Net_eq : List Str := ["self", "other"]
abbrev P_Net_eq : List Str := ["self", "other"]
theorem sc_Net_eq : FnScope N_Net_eq P_Net_eq (defScope s_Net_eq) := ⟨rfl, rfl, rfl, by decide +kernel, rfl, by decide +kernel, by decide +kernel⟩
abbrev s_law_tape : Stmt := topS 23
abbrev N_law_tape : List Str := ["_law_script"]
abbrev P_law_tape : List Str := ["_law_script"]
theorem sc_law_tape : FnScope N_law_tape P_law_tape (defScope s_law_tape) := ⟨rfl, rfl, rfl, by decide +kernel, rfl, by decide +kernel, by decide +kernel⟩
abbrev s_law_draw : Stmt := topS 24
abbrev N_law_draw : List Str := ["_law_tape_here", "_law_many", "_law_digit", "_law_cell", "_law_near"]
abbrev P_law_draw : List Str := ["_law_tape_here", "_law_many"]
theorem sc_law_draw : FnScope N_law_draw P_law_draw (defScope s_law_draw) := ⟨rfl, rfl, rfl, by decide +kernel, rfl, by decide +kernel, by decide +kernel⟩
abbrev s_law_great : Stmt := topS 25
abbrev N_law_great : List Str := ["_law_tape_here", "_law_size", "_law_high", "_law_value"]
abbrev P_law_great : List Str := ["_law_tape_here", "_law_size"]
theorem sc_law_great : FnScope N_law_great P_law_great (defScope s_law_great) := ⟨rfl, rfl, rfl, by decide +kernel, rfl, by decide +kernel, by decide +kernel⟩
abbrev s_law_place : Stmt := topS 26
abbrev N_law_place : List Str := ["_law_tape_here"]
abbrev P_law_place : List Str := ["_law_tape_here"]
theorem sc_law_place : FnScope N_law_place P_law_place (defScope s_law_place) := ⟨rfl, rfl, rfl, by decide +kernel, rfl, by decide +kernel, by decide +kernel⟩
abbrev s_law_low : Stmt := topS 27
abbrev N_law_low : List Str := ["_law_net_here", "_law_place_here", "_law_times"]
abbrev P_law_low : List Str := ["_law_net_here", "_law_place_here"]
theorem sc_law_low : FnScope N_law_low P_law_low (defScope s_law_low) := ⟨rfl, rfl, rfl, by decide +kernel, rfl, by decide +kernel, by decide +kernel⟩
abbrev s_law_net : Stmt := topS 28
abbrev N_law_net : List Str := ["_law_tape_here", "_law_most", "_law_wide"]
abbrev P_law_net : List Str := ["_law_tape_here", "_law_most"]
theorem sc_law_net : FnScope N_law_net P_law_net (defScope s_law_net) := ⟨rfl, rfl, rfl, by decide +kernel, rfl, by decide +kernel, by decide +kernel⟩
abbrev s_law_steps : Stmt := topS 29
abbrev N_law_steps : List Str := ["_law_net_here", "_law_place_here", "_law_low_here", "_law_here", "_law_many"]
abbrev P_law_steps : List Str := ["_law_net_here", "_law_place_here"]
theorem sc_law_steps : FnScope N_law_steps P_law_steps (defScope s_law_steps) := ⟨rfl, rfl, rfl, by decide +kernel, rfl, by decide +kernel, by decide +kernel⟩
abbrev s_law : Stmt := topS 30
abbrev N_law : List Str := ["_law_script", "_law_tape_here", "_law_turn", "_law_net_here", "_law_made", "_law_one", "_law_many", "_law_factor", "_law_larger", "_law_number"]
abbrev P_law : List Str := ["_law_script"]
theorem sc_law : FnScope N_law P_law (defScope s_law) := ⟨rfl, rfl, rfl, by decide +kernel, rfl, by decide +kernel, by decide +kernel⟩
structure Ad where
  C_Net : Addr
  is_integer : Addr
  is_integer_d : FuncData
  is_place : Addr
  is_place_d : FuncData
  check_place : Addr
  check_place_d : FuncData
  check_positive : Addr
  check_positive_d : FuncData
  are_numbers : Addr
  are_numbers_d : FuncData
  two_shifts : Addr
  two_shifts_d : FuncData
  Net_init : Addr
  Net_init_d : FuncData
  Net_numbers : Addr
  Net_numbers_d : FuncData
  p_Net_numbers : Addr
  Net_size : Addr
  Net_size_d : FuncData
  p_Net_size : Addr
  Net_contains : Addr
  Net_contains_d : FuncData
  home : Addr
  home_d : FuncData
  Net_reduced : Addr
  Net_reduced_d : FuncData
  Net_order : Addr
  Net_order_d : FuncData
  Net_is_within : Addr
  Net_is_within_d : FuncData
  Net_scaled : Addr
  Net_scaled_d : FuncData
  Net_eq : Addr
  Net_eq_d : FuncData
  law_tape : Addr
  law_tape_d : FuncData
  law_draw : Addr
  law_draw_d : FuncData
  law_great : Addr
  law_great_d : FuncData
  law_place : Addr
  law_place_d : FuncData
  law_low : Addr
  law_low_d : FuncData
  law_net : Addr
  law_net_d : FuncData
  law_steps : Addr
  law_steps_d : FuncData
  law : Addr
  law_d : FuncData
structure Txt (K : PySem.W.Frag) (mg : Str → Option Value) (a : Ad) : Prop where
  g_Net : mg "Net" = some (.ref a.C_Net)
  cl_Net : Cls K a.C_Net
  k_Net : Mk K a.C_Net a.Net_init
  g_is_integer : mg "is_integer" = some (.ref a.is_integer)
  F_is_integer : Fun K "is_integer" "is_integer" s_is_integer a.is_integer a.is_integer_d
  b_is_integer : Binds K a.is_integer_d P_is_integer []
  g_is_place : mg "is_place" = some (.ref a.is_place)
  F_is_place : Fun K "is_place" "is_place" s_is_place a.is_place a.is_place_d
  b_is_place : Binds K a.is_place_d P_is_place []
  g_check_place : mg "check_place" = some (.ref a.check_place)
  F_check_place : Fun K "check_place" "check_place" s_check_place a.check_place a.check_place_d
  b_check_place : Binds K a.check_place_d P_check_place []
  g_check_positive : mg "check_positive" = some (.ref a.check_positive)
  F_check_positive : Fun K "check_positive" "check_positive" s_check_positive a.check_positive a.check_positive_d
  b_check_positive : Binds K a.check_positive_d P_check_positive []
  g_are_numbers : mg "are_numbers" = some (.ref a.are_numbers)
  F_are_numbers : Fun K "are_numbers" "are_numbers" s_are_numbers a.are_numbers a.are_numbers_d
  b_are_numbers : Binds K a.are_numbers_d P_are_numbers []
  g_two_shifts : mg "two_shifts" = some (.ref a.two_shifts)
  F_two_shifts : Fun K "two_shifts" "two_shifts" s_two_shifts a.two_shifts a.two_shifts_d
  b_two_shifts : Binds K a.two_shifts_d P_two_shifts []
  F_Net_init : Fun K "__init__" "Net.__init__" s_Net_init a.Net_init a.Net_init_d
  b_Net_init : Binds K a.Net_init_d P_Net_init []
  p_Net_numbers : PropOf K a.C_Net "numbers" a.p_Net_numbers a.Net_numbers
  F_Net_numbers : Fun K "numbers" "Net.numbers" s_Net_numbers a.Net_numbers a.Net_numbers_d
  b_Net_numbers : Binds K a.Net_numbers_d P_Net_numbers []
  p_Net_size : PropOf K a.C_Net "size" a.p_Net_size a.Net_size
  F_Net_size : Fun K "size" "Net.size" s_Net_size a.Net_size a.Net_size_d
  b_Net_size : Binds K a.Net_size_d P_Net_size []
  h_Net : HasC K a.C_Net a.Net_contains
  F_Net_contains : Fun K "__contains__" "Net.__contains__" s_Net_contains a.Net_contains a.Net_contains_d
  b_Net_contains : Binds K a.Net_contains_d P_Net_contains []
  g_home : mg "home" = some (.ref a.home)
  F_home : Fun K "home" "home" s_home a.home a.home_d
  b_home : Binds K a.home_d P_home []
  m_Net_reduced : Meth K a.C_Net "reduced" a.Net_reduced
  F_Net_reduced : Fun K "reduced" "Net.reduced" s_Net_reduced a.Net_reduced a.Net_reduced_d
  b_Net_reduced : Binds K a.Net_reduced_d P_Net_reduced []
  m_Net_order : Meth K a.C_Net "order" a.Net_order
  F_Net_order : Fun K "order" "Net.order" s_Net_order a.Net_order a.Net_order_d
  b_Net_order : Binds K a.Net_order_d P_Net_order []
  m_Net_is_within : Meth K a.C_Net "is_within" a.Net_is_within
  F_Net_is_within : Fun K "is_within" "Net.is_within" s_Net_is_within a.Net_is_within a.Net_is_within_d
  b_Net_is_within : Binds K a.Net_is_within_d P_Net_is_within []
  m_Net_scaled : Meth K a.C_Net "scaled" a.Net_scaled
  F_Net_scaled : Fun K "scaled" "Net.scaled" s_Net_scaled a.Net_scaled a.Net_scaled_d
  b_Net_scaled : Binds K a.Net_scaled_d P_Net_scaled []
  e_Net : EqC K a.C_Net a.Net_eq
  F_Net_eq : Fun K "__eq__" "Net.__eq__" s_Net_eq a.Net_eq a.Net_eq_d
  b_Net_eq : Binds K a.Net_eq_d P_Net_eq []
  g_law_tape : mg "_law_tape" = some (.ref a.law_tape)
  F_law_tape : Fun K "_law_tape" "_law_tape" s_law_tape a.law_tape a.law_tape_d
  b_law_tape : Binds K a.law_tape_d P_law_tape []
  g_law_draw : mg "_law_draw" = some (.ref a.law_draw)
  F_law_draw : Fun K "_law_draw" "_law_draw" s_law_draw a.law_draw a.law_draw_d
  b_law_draw : Binds K a.law_draw_d P_law_draw []
  g_law_great : mg "_law_great" = some (.ref a.law_great)
  F_law_great : Fun K "_law_great" "_law_great" s_law_great a.law_great a.law_great_d
  b_law_great : Binds K a.law_great_d P_law_great []
  g_law_place : mg "_law_place" = some (.ref a.law_place)
  F_law_place : Fun K "_law_place" "_law_place" s_law_place a.law_place a.law_place_d
  b_law_place : Binds K a.law_place_d P_law_place []
  g_law_low : mg "_law_low" = some (.ref a.law_low)
  F_law_low : Fun K "_law_low" "_law_low" s_law_low a.law_low a.law_low_d
  b_law_low : Binds K a.law_low_d P_law_low []
  g_law_net : mg "_law_net" = some (.ref a.law_net)
  F_law_net : Fun K "_law_net" "_law_net" s_law_net a.law_net a.law_net_d
  b_law_net : Binds K a.law_net_d P_law_net []
  g_law_steps : mg "_law_steps" = some (.ref a.law_steps)
  F_law_steps : Fun K "_law_steps" "_law_steps" s_law_steps a.law_steps a.law_steps_d
  b_law_steps : Binds K a.law_steps_d P_law_steps []
  g_law : mg "law" = some (.ref a.law)
  F_law : Fun K "law" "law" s_law a.law a.law_d
  b_law : Binds K a.law_d P_law []
  z_bool : mg "bool" = none
  z_int : mg "int" = none
  z_isinstance : mg "isinstance" = none
  z_len : mg "len" = none
  z_list : mg "list" = none
  z_range : mg "range" = none
  z_repr : mg "repr" = none
  z_tuple : mg "tuple" = none
  g_gcd : mg "gcd" = some (.builtin "math.gcd")
  n_Net_numbers : NoAttr K a.C_Net "_numbers"
  i_Net : IsC K a.C_Net
local macro_rules | `(tactic| walk_at "up") => `(tactic| first
  | assumption
  | (refine' IT.mv ?s ?g; (case s => assumption); (case g => walk_at "up"))
  | (refine' IT.k ?g; (case g => walk_at "up"))
  | (refine' IK.mv ?s ?g; (case s => assumption); (case g => walk_at "up"))
  | (refine' Tape.mvN ?s ?g; (case s => assumption); (case g => walk_at "up"))
  | (refine' Tape.mvS ?s ?g; (case s => assumption); (case g => walk_at "up"))
  | (refine' At.tup ?s ?g; (case s => assumption); (case g => walk_at "up"))
  | (refine' At.ins ?s ?g; (case s => assumption); (case g => walk_at "up"))
  | (refine' At.lst ?s ?g; (case s => assumption); (case g => walk_at "up"))
  | (refine' At.lstS ?s ?n ?g; (case s => assumption); (case n => assumption); (case g => walk_at "up"))
  | fail)
local macro_rules | `(tactic| walk_at "st") => `(tactic| first
  | assumption
  | exact Stp.refl _ _
  | (refine' Stp.w ?s; (case s => assumption))
  | (refine' Stp.trans ?g ?s; (case s => (first | assumption | (refine' Stp.w ?u; (case u => assumption)))); (case g => walk_at "st"))
  | fail)
local macro_rules | `(tactic| walk_at "bT") => `(tactic| first
  | decide
  | (simp only [Bool.not_eq_true', Bool.not_eq_false', decide_eq_true_eq, decide_eq_false_iff_not]; omega)
  | fail)
local macro_rules | `(tactic| walk_at "sd") => `(tactic| first | assumption | decide | omega | fail)
local macro_rules | `(tactic| walk_at "r") => `(tactic| first
  | (with_reducible refine r_seq ?_)
  | (with_reducible refine r_asg ?_)
  | ((with_reducible refine' r_var ?h ?k); (case h => rfl))
  | (with_reducible refine r_c ?_)
  | (with_reducible refine r_op ?_)
  | (with_reducible refine r_un ?_)
  | (with_reducible refine r_nil ?_)
  | (with_reducible refine r_cons ?_)
  | (with_reducible refine r_tup ?_)
  | (with_reducible refine r_lst ?_)
  | (with_reducible refine r_cbLen ?_)
  | (with_reducible refine r_cbInt ?_)
  | (with_reducible refine r_cbRepr ?_)
  | (with_reducible refine r_cbTup ?_)
  | (with_reducible refine r_cbLst ?_)
  | (with_reducible refine r_cb ?_)
  | (with_reducible refine r_prop ?_)
  | (with_reducible refine r_andV ?_)
  | (with_reducible refine r_orV ?_)
  | (with_reducible refine r_notV ?_)
  | (with_reducible refine r_chain ?_)
  | (with_reducible refine r_ifE ?_)
  | (with_reducible refine r_test ?_)
  | (with_reducible refine r_B ?_)
  | (with_reducible refine r_and ?_)
  | (with_reducible refine r_or ?_)
  | (with_reducible refine r_not ?_)
  | (with_reducible refine r_yes ?_)
  | (with_reducible refine r_k ?_)
  | (with_reducible refine r_kV ?_)
  | (with_reducible refine r_next ?_)
  | (with_reducible refine r_drop ?_)
  | (with_reducible refine r_ret ?_)
  | (with_reducible refine r_ifS ?_)
  | (with_reducible refine r_par ?_)
  | (with_reducible refine r_par1 ?_)
  | (with_reducible refine r_gname ?_)
  | (with_reducible refine r_gnil ?_)
  | (with_reducible refine r_gcons ?_)
  | ((with_reducible refine' r_unpack2 ?h ?k); (case h => walk_at "up"))
  | ((with_reducible refine' r_unpack3 ?h ?k); (case h => walk_at "up"))
  | (with_reducible refine r_add ?_)
  | (with_reducible refine r_sub ?_)
  | (with_reducible refine r_neg ?_)
  | ((with_reducible refine' r_mod ?h ?k); (case h => walk_at "sd"))
  | ((with_reducible refine' r_div ?h ?k); (case h => walk_at "sd"))
  | ((with_reducible refine' r_mul ?h ?k); (case h => walk_at "sd"))
  | ((with_reducible refine' r_mulW ?h ?k); (case h => walk_at "sd"))
  | ((with_reducible refine' r_pow ?h ?k); (case h => (show (0 : Int) ≤ _ ∧ _ ∧ _; decide)))
  | (with_reducible refine r_lt ?_)
  | (with_reducible refine r_le ?_)
  | (with_reducible refine r_gt ?_)
  | (with_reducible refine r_ge ?_)
  | (with_reducible refine r_eqI ?_)
  | (with_reducible refine r_neI ?_)
  | (with_reducible refine r_eqS ?_)
  | (with_reducible refine r_neS ?_)
  | ((with_reducible refine' r_eqT ?h ?g ?k); (case h => walk_at "up"); (case g => walk_at "up"))
  | ((with_reducible refine' r_neT ?h ?g ?k); (case h => walk_at "up"); (case g => walk_at "up"))
  | ((with_reducible refine' r_ix0 ?h ?k); (case h => walk_at "up"))
  | ((with_reducible refine' r_ix1 ?h ?k); (case h => walk_at "up"))
  | ((with_reducible refine' r_ix2 ?h ?k); (case h => walk_at "up"))
  | (with_reducible refine r_newI2 (fun v H2 S I => ?_))
  | (with_reducible refine r_newI3 (fun v H2 S I => ?_))
  | (with_reducible refine r_newL1 (fun p H2 S hp np => ?_))
  | (with_reducible refine r_newL2 (fun p H2 S hp np => ?_))
  | (with_reducible refine r_newL3 (fun p H2 S hp np => ?_))
  | (with_reducible refine r_T ?_)
  | (with_reducible refine r_F ?_)
  | fail)
local macro_rules | `(tactic| walk_at "go") => `(tactic| repeat (walk_at "r"))
local macro_rules | `(tactic| walk_at "r") => `(tactic| first
  | (with_reducible refine r_call0 ?_)
  | (with_reducible refine r_meth0 ?_)
  | (with_reducible refine r_make0 ?_)
  | (with_reducible refine r_isiII ?_)
  | (with_reducible refine r_isiIB ?_)
  | ((with_reducible refine' r_isiTT ?h ?k); (case h => walk_at "up"))
  | ((with_reducible refine' r_len2 ?h ?k); (case h => walk_at "up"))
  | ((with_reducible refine' r_len3 ?h ?k); (case h => walk_at "up"))
  | ((with_reducible refine' r_lenL ?h ?k); (case h => walk_at "up"))
  | (with_reducible refine r_int1 ?_)
  | (with_reducible refine r_int1B ?_)
  | (with_reducible refine r_nT ?_)
  | (with_reducible refine r_nF ?_)
  | (with_reducible refine r_gcd ?_)
  | (with_reducible refine r_gsub ?_)
  | (with_reducible refine r_fld ?_)
  | (with_reducible refine r_p6 ?_)
  | (with_reducible refine r_p9 ?_)
  | (with_reducible refine r_p10 ?_)
  | (with_reducible refine r_p11 ?_)
  | (with_reducible refine r_p12 ?_)
  | (with_reducible refine r_p18 ?_)
  | (with_reducible refine r_p20 ?_)
  | (with_reducible refine r_p26 ?_)
  | (with_reducible refine r_p27 ?_)
  | (with_reducible refine r_p30 ?_)
  | ((with_reducible refine' r_iF ?h ?k); (case h => walk_at "bT"))
  | ((with_reducible refine' r_iT ?h ?k); (case h => walk_at "bT"))
  | (with_reducible refine r_sfld ?_)
  | (with_reducible refine r_sl ?_)
  | (with_reducible refine r_noPart ?_)
  | (with_reducible refine r_part ?_)
  | (with_reducible refine r_pk ?_)
  | ((with_reducible refine' r_unl2 ?h ?k); (case h => walk_at "up"))
  | ((with_reducible refine' r_ixLi ?h ?h0 ?hn ?k); (case h => walk_at "up"); (case h0 => walk_at "sd"); (case hn => rfl))
  | fail)

section
variable {P : Program} {w : World} {K : PySem.W.Frag} {mg : Str → Option Value} {base : Heap} {ad : Ad} {H : Hp} {Q : VK} {E : XK} {i j x y : Int} {v : V}

/-! ### checks -/
def sp_is_integer : Sp := fun vs H Q _ => ∃ i, vs = [.int i] ∧ Q (.bl true) H
theorem do_is_integer (q : Q (.bl true) H) : sp_is_integer [.int i] H Q E := ⟨i, rfl, q⟩
theorem ok_is_integer (T : Txt K mg ad) : FnG P w K mg base CX0 1 ad.is_integer ad.is_integer_d P_is_integer sp_is_integer := by
  refine Fun.g T.F_is_integer sc_is_integer (fun vs H Q E h => ?_) (fun cdv A outer s H vs Q E hr hg h => ?_)
  · obtain ⟨i, rfl, _⟩ := h
    rfl
  · obtain ⟨i, rfl, q⟩ := h
    refine ⟨_, (pss_one (ps_ret (pe_and (pe_callB call_isi (by rfl) T.z_isinstance (by decide +kernel) (pa_cons (pv 0) (pa_cons (pe_bltn (v := V.ty "int") (u := Value.type "int") (by rfl) T.z_int (by decide +kernel) rfl) pa_nil))) (pe_one (pe_not (pe_callB call_isi (by rfl) T.z_isinstance (by decide +kernel) (pa_cons (pv 0) (pa_cons (pe_bltn (v := V.ty "bool") (u := Value.type "bool") (by rfl) T.z_bool (by decide +kernel) rfl) pa_nil)))))))), ?_⟩
    walk_at "go"
    exact q
local macro_rules | `(tactic| walk_at "r") => `(tactic| with_reducible refine do_is_integer ?_)

def sp_is_place : Sp := fun vs H Q _ => ∃ v x y, vs = [v] ∧ IT H v [x, y] ∧ Q (.bl true) H
theorem do_is_place (h : IT H v [x, y]) (q : Q (.bl true) H) : sp_is_place [v] H Q E := ⟨v, x, y, rfl, h, q⟩
theorem ok_is_place (T : Txt K mg ad) : FnG P w K mg base CX0 2 ad.is_place ad.is_place_d P_is_place sp_is_place := by
  have G_is_integer := ok_is_integer (P := P) (w := w) (base := base) T
  refine Fun.g T.F_is_place sc_is_place (fun vs H Q E h => ?_) (fun cdv A outer s H vs Q E hr hg h => ?_)
  · obtain ⟨v, x, y, rfl, _⟩ := h
    rfl
  · obtain ⟨v, x, y, rfl, hI, q⟩ := h
    refine ⟨_, (pss_cons (ps_if (PW.pt (pw_or (pt_not (pt_val (pe_callB call_isi (by rfl) T.z_isinstance (by decide +kernel) (pa_cons (pv 0) (pa_cons (pe_bltn (v := V.ty "tuple") (u := Value.type "tuple") (by rfl) T.z_tuple (by decide +kernel) rfl) pa_nil))))) (pw_or1 (pt_cmpR op_ne (pe_callB call_len_seq (by rfl) T.z_len (by decide +kernel) (pa_cons (pv 0) pa_nil)) pe_int (nomark _)))))
      (pss_one (ps_ret pe_bl)) pss_nil)
      (pss_one (ps_ret (pe_and (peg_call G_is_integer (hr.mono (by decide)) hg (by rfl) T.g_is_integer T.F_is_integer.kp T.b_is_integer .nil pass0 (pa_cons (pe_ix ix_seq (pv 0) pe_int (fun _ _ => rfl)) pa_nil)) (pe_one (peg_call G_is_integer (hr.mono (by decide)) hg (by rfl) T.g_is_integer T.F_is_integer.kp T.b_is_integer .nil pass0 (pa_cons (pe_ix ix_seq (pv 0) pe_int (fun _ _ => rfl)) pa_nil))))))), ?_⟩
    walk_at "go"
    exact q
local macro_rules | `(tactic| walk_at "r") => `(tactic| first | ((with_reducible refine' do_is_place ?h ?k); (case h => walk_at "up")) | fail)

def sp_check_place : Sp := fun vs H Q _ => ∃ v x y, vs = [v] ∧ IT H v [x, y] ∧ Q .non H
theorem do_check_place (h : IT H v [x, y]) (q : Q .non H) : sp_check_place [v] H Q E := ⟨v, x, y, rfl, h, q⟩
theorem ok_check_place (T : Txt K mg ad) : FnG P w K mg base CX0 3 ad.check_place ad.check_place_d P_check_place sp_check_place := by
  have G_is_place := ok_is_place (P := P) (w := w) (base := base) T
  refine Fun.g T.F_check_place sc_check_place (fun vs H Q E h => ?_) (fun cdv A outer s H vs Q E hr hg h => ?_)
  · obtain ⟨v, x, y, rfl, _⟩ := h
    rfl
  · obtain ⟨v, x, y, rfl, hI, q⟩ := h
    refine ⟨_, (pss_one (ps_if (pt_not (pt_val (peg_call G_is_place (hr.mono (by decide)) hg (by rfl) T.g_is_place T.F_is_place.kp T.b_is_place .nil pass0 (pa_cons (pv 0) pa_nil))))
      (pss_one ps_never) pss_nil)), ?_⟩
    walk_at "go"
    exact q
local macro_rules | `(tactic| walk_at "r") => `(tactic| first | ((with_reducible refine' do_check_place ?h ?k); (case h => walk_at "up")) | fail)

/-! ### nets -/
/-- the numbers of a net -/
structure Nm (a b c : Int) : Prop where
  a1 : 1 ≤ a
  c1 : 1 ≤ c
  b0 : 0 ≤ b
  ba : b < a
  az : a < 10 ^ 30
  cz : c < 10 ^ 30
def sp_are_numbers : Sp := fun vs H Q _ => ∃ a b c, vs = [.int a, .int b, .int c] ∧ Nm a b c ∧ Q (.bl true) H
theorem do_are_numbers {a b c : Int} (h : Nm a b c) (q : Q (.bl true) H) : sp_are_numbers [.int a, .int b, .int c] H Q E := ⟨a, b, c, rfl, h, q⟩
theorem ok_are_numbers (T : Txt K mg ad) : FnG P w K mg base CX0 2 ad.are_numbers ad.are_numbers_d P_are_numbers sp_are_numbers := by
  have G_is_integer := ok_is_integer (P := P) (w := w) (base := base) T
  refine Fun.g T.F_are_numbers sc_are_numbers (fun vs H Q E h => ?_) (fun cdv A outer s H vs Q E hr hg h => ?_)
  · obtain ⟨a, b, c, rfl, _⟩ := h
    rfl
  · obtain ⟨a, b, c, rfl, n, q⟩ := h
    obtain ⟨h1, h2, h3, h4, _, _⟩ := n
    refine ⟨_, (pss_cons (ps_if (pt_not (PW.pt (pw_and (pt_val (peg_call G_is_integer (hr.mono (by decide)) hg (by rfl) T.g_is_integer T.F_is_integer.kp T.b_is_integer .nil pass0 (pa_cons (pv 0) pa_nil))) (pw_and (pt_val (peg_call G_is_integer (hr.mono (by decide)) hg (by rfl) T.g_is_integer T.F_is_integer.kp T.b_is_integer .nil pass0 (pa_cons (pv 1) pa_nil))) (pw_and1 (pt_val (peg_call G_is_integer (hr.mono (by decide)) hg (by rfl) T.g_is_integer T.F_is_integer.kp T.b_is_integer .nil pass0 (pa_cons (pv 2) pa_nil))))))))
      (pss_one (ps_ret pe_bl)) pss_nil)
      (pss_one (ps_ret (pe_and (pe_cmpR op_ge (pv 0) pe_int (nomark _)) (pe_and (pe_cmpR op_ge (pv 2) pe_int (nomark _)) (pe_one (pe_chain op_le op_lt pe_int (pv 1) (pv 0)))))))), ?_⟩
    walk_at "go"
    rw [decide_eq_true h4]
    exact q
local macro_rules | `(tactic| walk_at "r") => `(tactic| first | ((with_reducible refine' do_are_numbers ?h ?k); (case h => assumption)) | fail)

def sp_two_shifts : Sp := fun vs H Q _ => ∃ v a b c, vs = [v] ∧ IT H v [a, b, c] ∧
  ∀ p H' u w, Stp none H H' → H' p = some (.lst [u, w]) → IT H' u [a, 0] → IT H' w [b, c] → Q (.ref p) H'
theorem ok_two_shifts (T : Txt K mg ad) : FnG P w K mg base CX0 1 ad.two_shifts ad.two_shifts_d P_two_shifts sp_two_shifts := by
  refine Fun.g T.F_two_shifts sc_two_shifts (fun vs H Q E h => ?_) (fun cdv A outer s H vs Q E hr hg h => ?_)
  · obtain ⟨v, a, b, c, rfl, _⟩ := h
    rfl
  · obtain ⟨v, a, b, c, rfl, hI, q⟩ := h
    refine ⟨_, (pss_cons (ps_asg (pv 0) (pg_tup (n := 3) rfl (pgs_cons (pg_name (i := 1) sc_two_shifts.nd rfl (Or.inl rfl)) (pgs_cons (pg_name (i := 2) sc_two_shifts.nd rfl (Or.inl rfl)) (pgs_cons (pg_name (i := 3) sc_two_shifts.nd rfl (Or.inl rfl)) pgs_nil)))))
      (pss_one (ps_ret (pe_lst (pa_cons (pe_tup (pa_cons (pv 1) (pa_cons pe_int pa_nil))) (pa_cons (pe_tup (pa_cons (pv 2) (pa_cons (pv 3) pa_nil))) pa_nil)))))), ?_⟩
    walk_at "go"
    exact q _ _ _ _ (by walk_at "st") (by assumption) (by walk_at "up") (by walk_at "up")

/-- v is a Net of these numbers -/
def NA (C : Addr) (H : Hp) (v : V) (a b c : Int) : Prop := Nm a b c ∧ ∃ p dx u, v = .ref p ∧ H p = some (.ins C dx (putF "_numbers" u [])) ∧ IT H u [a, b, c]
theorem NA.mv {C : Addr} {t : Option Addr} {H H' : Hp} {v : V} {a b c : Int} (s : Stp t H H') (h : NA C H v a b c) : NA C H' v a b c := by
  obtain ⟨n, p, dx, u, e, h1, h2⟩ := h
  exact ⟨n, p, dx, u, e, At.ins s h1, h2.mv s⟩
local macro_rules | `(tactic| walk_at "up") => `(tactic| first | (refine' NA.mv ?s ?g; (case s => assumption); (case g => walk_at "up")) | fail)

def sp_Net_init (C : Addr) : Sp := fun vs H Q _ => ∃ p dx a b c, vs = [.ref p, .int a, .int b, .int c] ∧ Nm a b c ∧ H p = some (.ins C dx []) ∧
  ∀ H', (∀ b o, b ≠ p → H b = some o → H' b = some o) → NA C H' (.ref p) a b c → Q .non H'
theorem ok_Net_init (T : Txt K mg ad) : FnG P w K mg base CX0 3 ad.Net_init ad.Net_init_d P_Net_init (sp_Net_init ad.C_Net) := by
  have G_are_numbers := ok_are_numbers (P := P) (w := w) (base := base) T
  refine Fun.g T.F_Net_init sc_Net_init (fun vs H Q E h => ?_) (fun cdv A outer s H vs Q E hr hg h => ?_)
  · obtain ⟨p, dx, a, b, c, rfl, _⟩ := h
    rfl
  · obtain ⟨p, dx, a, b, c, rfl, n, hp, q⟩ := h
    refine ⟨_, (pss_cons (ps_if (pt_not (pt_val (peg_call G_are_numbers (hr.mono (by decide)) hg (by rfl) T.g_are_numbers T.F_are_numbers.kp T.b_are_numbers .nil pass0 (pa_cons (pv 1) (pa_cons (pv 2) (pa_cons (pv 3) pa_nil))))))
      (pss_one ps_never) pss_nil)
      (pss_one (ps_fld (pv 0) (pe_tup (pa_cons (pe_callTy call_int1 (by rfl) T.z_int (by decide +kernel) (pa_cons (pv 1) pa_nil)) (pa_cons (pe_callTy call_int1 (by rfl) T.z_int (by decide +kernel) (pa_cons (pv 2) pa_nil)) (pa_cons (pe_callTy call_int1 (by rfl) T.z_int (by decide +kernel) (pa_cons (pv 3) pa_nil)) pa_nil)))) rfl))), ?_⟩
    walk_at "go"
    refine ⟨p, ad.C_Net, dx, [], rfl, by walk_at "up", T.cl_Net, T.n_Net_numbers, Nat.zero_lt_succ _, ?_⟩
    rename_i u H2 S hI
    refine q _ (fun b o nb e => ?_) ⟨n, p, dx, u, rfl, upd_same, ?_⟩
    · rw [upd_ne nb]
      exact S.all _ _ e
    · obtain ⟨t, rfl, ht⟩ := hI
      exact ⟨t, rfl, by rw [upd_ne (ne_of ht (S.all _ _ hp) (by intro z; cases z))]; exact ht⟩
/-- Net(a, b, c) -/
theorem do_Net {C : Addr} {a b c : Int} (n : Nm a b c) (k : ∀ v H', Stp none H H' → NA C H' v a b c → Q v H') :
    MkR C (sp_Net_init C) [.int a, .int b, .int c] H Q E := by
  intro x dx hx hd ne
  refine ⟨x, dx, a, b, c, rfl, n, upd_same, fun H' s h => ⟨rfl, k _ _ (Stp.of (fun b o e => s b o (ne_of_none e hx) ?_) none) h⟩⟩
  rw [upd_ne (ne_of_none e hx), upd_ne (ne_of_none e hd)]
  exact e

theorem pe_NA {C : Addr} {sp : Sp} {a b c : Int} (h : NA C H v a b c) (q : ∀ p u dx, v = .ref p → H p = some (.ins C dx (putF "_numbers" u [])) → IT H u [a, b, c] → sp [.ref p] H Q E) :
    ∃ p dx fs, v = .ref p ∧ H p = some (.ins C dx fs) ∧ sp (.ref p :: []) H Q E := by
  obtain ⟨n, p, dx, u, e, h1, h2⟩ := h
  exact ⟨p, dx, _, e, h1, q p u dx e h1 h2⟩
theorem put_numbers (u : V) : (putF "_numbers" u []).lookup ("_numbers" : Str) = some u := by rw [lookup_putF, if_pos rfl]
theorem put_other (u : V) {m : Str} (h : m ≠ "_numbers") : (putF "_numbers" u []).lookup m = none := by rw [lookup_putF, if_neg h]; rfl
/-- v._numbers -/
theorem r_numF {C p dx : Addr} {u : V} {K : PySem.W.Frag} (c : Cls K C) (n : NoAttr K C "_numbers") (h : H p = some (.ins C dx (putF "_numbers" u []))) (q : Q u H) :
    FldR K "_numbers" (.ref p) H Q :=
  ⟨p, C, dx, _, u, rfl, h, c, n, put_numbers u, q⟩

def sp_Net_numbers (C : Addr) : Sp := fun vs H Q _ => ∃ p a b c, vs = [.ref p] ∧ NA C H (.ref p) a b c ∧ ∀ u, IT H u [a, b, c] → Q u H
theorem ok_Net_numbers (T : Txt K mg ad) : FnG P w K mg base CX0 1 ad.Net_numbers ad.Net_numbers_d P_Net_numbers (sp_Net_numbers ad.C_Net) := by
  refine Fun.g T.F_Net_numbers sc_Net_numbers (fun vs H Q E h => ?_) (fun cdv A outer s H vs Q E hr hg h => ?_)
  · obtain ⟨p, a, b, c, rfl, _⟩ := h
    rfl
  · obtain ⟨p, a, b, c, rfl, ⟨_, p', dx, u, e, h1, h2⟩, q⟩ := h
    cases e
    refine ⟨_, (pss_one (ps_ret (pe_fld (pv 0) rfl))), ?_⟩
    walk_at "go"
    exact r_numF T.cl_Net T.n_Net_numbers h1 (q u h2)
theorem do_Net_numbers {C : Addr} {a b c : Int} (h : NA C H v a b c) (k : ∀ u, IT H u [a, b, c] → Q u H) :
    ∃ p dx fs, v = .ref p ∧ H p = some (.ins C dx fs) ∧ sp_Net_numbers C (.ref p :: []) H Q E := by
  have h' := h
  obtain ⟨_, p, dx, u, rfl, h1, _⟩ := h'
  exact ⟨p, dx, _, rfl, h1, p, a, b, c, rfl, h, k⟩

def sp_Net_size (C : Addr) : Sp := fun vs H Q _ => ∃ p a b c, vs = [.ref p] ∧ NA C H (.ref p) a b c ∧ Q (.int (a * c)) H
theorem ok_Net_size (T : Txt K mg ad) : FnG P w K mg base CX0 1 ad.Net_size ad.Net_size_d P_Net_size (sp_Net_size ad.C_Net) := by
  refine Fun.g T.F_Net_size sc_Net_size (fun vs H Q E h => ?_) (fun cdv A outer s H vs Q E hr hg h => ?_)
  · obtain ⟨p, a, b, c, rfl, _⟩ := h
    rfl
  · obtain ⟨p, a, b, c, rfl, ⟨n, p', dx, u, e, h1, h2⟩, q⟩ := h
    cases e
    obtain ⟨n1, n2, n3, n4, n5, n6⟩ := n
    have hm : CMulW a c := mulW_of (by omega) (by omega)
    refine ⟨_, (pss_cons (ps_asg (pe_fld (pv 0) rfl) (pg_tup (n := 3) rfl (pgs_cons (pg_name (i := 1) sc_Net_size.nd rfl (Or.inl rfl)) (pgs_cons (pg_name (i := 2) sc_Net_size.nd rfl (Or.inl rfl)) (pgs_cons (pg_name (i := 3) sc_Net_size.nd rfl (Or.inl rfl)) pgs_nil)))))
      (pss_one (ps_ret (pe_op op_mulW (pv 1) (pv 3))))), ?_⟩
    walk_at "go"
    refine r_numF T.cl_Net T.n_Net_numbers h1 ?_
    walk_at "go"
    exact q
theorem do_Net_size {C : Addr} {a b c : Int} (h : NA C H v a b c) (k : Q (.int (a * c)) H) :
    ∃ p dx fs, v = .ref p ∧ H p = some (.ins C dx fs) ∧ sp_Net_size C (.ref p :: []) H Q E := by
  have h' := h
  obtain ⟨_, p, dx, u, rfl, h1, _⟩ := h'
  exact ⟨p, dx, _, rfl, h1, p, a, b, c, rfl, h, k⟩
/-- the start of a method's call -/
theorem do_meth {C : Addr} {a b c : Int} {m : Str} {sp : Sp} {t : TA} {σ : L2.St} (h : NA C H v a b c) (hm : m ≠ "_numbers") (q : t σ H fun vs H2 => sp (v :: vs) H2 Q E) :
    ∃ p dx fs, v = .ref p ∧ H p = some (.ins C dx fs) ∧ fs.lookup m = none ∧ t σ H fun vs H2 => sp (v :: vs) H2 Q E := by
  obtain ⟨_, p, dx, u, rfl, h1, _⟩ := h
  exact ⟨p, dx, _, rfl, h1, put_other u hm, q⟩
local macro_rules | `(tactic| walk_at "r") => `(tactic| first
  | ((with_reducible refine' do_Net_size ?h ?k); (case h => walk_at "up"))
  | ((with_reducible refine' do_meth ?h ?hm ?k); (case h => walk_at "up"); (case hm => decide +kernel))
  | fail)

/-- coordinates within the bounds of this proof -/
def Co (x : Int) : Prop := -10 ^ 35 < x ∧ x < 10 ^ 35
def sp_home : Sp := fun vs H Q _ => ∃ v u a b c x y, vs = [v, u] ∧ Nm a b c ∧ IT H v [a, b, c] ∧ IT H u [x, y] ∧ Co x ∧ Co y ∧
  ∀ z H', Stp none H H' → IT H' z [lowX a b c x y, y % c] → Q z H'
theorem ok_home (T : Txt K mg ad) : FnG P w K mg base CX0 1 ad.home ad.home_d P_home sp_home := by
  refine Fun.g T.F_home sc_home (fun vs H Q E h => ?_) (fun cdv A outer s H vs Q E hr hg h => ?_)
  · obtain ⟨v, u, a, b, c, x, y, rfl, _⟩ := h
    rfl
  · obtain ⟨v, u, a, b, c, x, y, rfl, n, hn, hu, hx, hy, q⟩ := h
    obtain ⟨n1, n2, n3, n4, n5, n6⟩ := n
    unfold Co at hx hy
    have d1 : CDivW y c := divW_of (by omega) (by omega)
    have e1 : (y / c).natAbs ≤ y.natAbs := Int.natAbs_ediv_le_natAbs _ _
    have m1 : CMulW (y / c) b := mulW_of (by omega) (by omega)
    refine ⟨_, (pss_cons (ps_asg (pv 0) (pg_tup (n := 3) rfl (pgs_cons (pg_name (i := 2) sc_home.nd rfl (Or.inl rfl)) (pgs_cons (pg_name (i := 3) sc_home.nd rfl (Or.inl rfl)) (pgs_cons (pg_name (i := 4) sc_home.nd rfl (Or.inl rfl)) pgs_nil)))))
      (pss_cons (ps_asg (pv 1) (pg_tup (n := 2) rfl (pgs_cons (pg_name (i := 5) sc_home.nd rfl (Or.inl rfl)) (pgs_cons (pg_name (i := 6) sc_home.nd rfl (Or.inl rfl)) pgs_nil))))
      (pss_one (ps_ret (pe_tup (pa_cons (pe_op op_mod (pe_op op_sub (pv 5) (pe_op op_mulW (pe_op op_fdivW (pv 6) (pv 4)) (pv 3))) (pv 2)) (pa_cons (pe_op op_mod (pv 6) (pv 4)) pa_nil))))))), ?_⟩
    walk_at "go"
    exact q _ _ (by walk_at "st") (by walk_at "up")
theorem do_home {a b c : Int} {u : V} (n : Nm a b c) (h : IT H v [a, b, c]) (hu : IT H u [x, y]) (hx : Co x) (hy : Co y) (k : ∀ z H', Stp none H H' → IT H' z [lowX a b c x y, y % c] → Q z H') :
    sp_home [v, u] H Q E := ⟨v, u, a, b, c, x, y, rfl, n, h, hu, hx, hy, k⟩
def sp_Net_reduced (C : Addr) : Sp := fun vs H Q _ => ∃ v u a b c x y, vs = [v, u] ∧ NA C H v a b c ∧ IT H u [x, y] ∧ Co x ∧ Co y ∧
  ∀ z H', Stp none H H' → IT H' z [lowX a b c x y, y % c] → Q z H'
theorem ok_Net_reduced (T : Txt K mg ad) : FnG P w K mg base CX0 4 ad.Net_reduced ad.Net_reduced_d P_Net_reduced (sp_Net_reduced ad.C_Net) := by
  have G_check_place := ok_check_place (P := P) (w := w) (base := base) T
  have G_home := ok_home (P := P) (w := w) (base := base) T
  refine Fun.g T.F_Net_reduced sc_Net_reduced (fun vs H Q E h => ?_) (fun cdv A outer s H vs Q E hr hg h => ?_)
  · obtain ⟨v, u, a, b, c, x, y, rfl, _⟩ := h
    rfl
  · obtain ⟨v, u, a, b, c, x, y, rfl, hN, hu, hx, hy, q⟩ := h
    obtain ⟨n, p, dx, ns, rfl, h1, h2⟩ := hN
    refine ⟨_, (pss_cons (ps_expr (peg_call G_check_place (hr.mono (by decide)) hg (by rfl) T.g_check_place T.F_check_place.kp T.b_check_place .nil pass0 (pa_cons (pv 1) pa_nil)))
      (pss_one (ps_ret (peg_call G_home (hr.mono (by decide)) hg (by rfl) T.g_home T.F_home.kp T.b_home .nil pass0 (pa_cons (pe_fld (pv 0) rfl) (pa_cons (pv 1) pa_nil)))))), ?_⟩
    walk_at "go"
    refine r_numF T.cl_Net T.n_Net_numbers (by walk_at "up") ?_
    walk_at "go"
    exact do_home n (by walk_at "up") (by walk_at "up") hx hy q
theorem do_Net_reduced {C : Addr} {a b c : Int} {u : V} (h : NA C H v a b c) (hu : IT H u [x, y]) (hx : Co x) (hy : Co y) (k : ∀ z H', Stp none H H' → IT H' z [lowX a b c x y, y % c] → Q z H') :
    sp_Net_reduced C [v, u] H Q E := ⟨v, u, a, b, c, x, y, rfl, h, hu, hx, hy, k⟩

instance (a b c x y : Int) : Decidable (InN a b c x y) := inferInstanceAs (Decidable (_ ∧ _))
theorem inN_dec (a b c x y : Int) : decide ([lowX a b c x y, y % c] = [0, 0]) = decide (InN a b c x y) := by
  refine decide_eq_decide.mpr ?_
  unfold InN
  rw [lowY_mod]
  constructor
  · intro h
    injection h with h1 h2
    injection h2 with h2 _
    exact ⟨h1, h2⟩
  · rintro ⟨h1, h2⟩
    rw [h1, h2]
def sp_Net_contains (C : Addr) : Sp := fun vs H Q _ => ∃ v u a b c x y, vs = [v, u] ∧ NA C H v a b c ∧ IT H u [x, y] ∧ Co x ∧ Co y ∧
  ∀ H', Stp none H H' → Q (.bl (decide (InN a b c x y))) H'
theorem ok_Net_contains (T : Txt K mg ad) : FnG P w K mg base CX0 5 ad.Net_contains ad.Net_contains_d P_Net_contains (sp_Net_contains ad.C_Net) := by
  have G_is_place := ok_is_place (P := P) (w := w) (base := base) T
  have G_Net_reduced := ok_Net_reduced (P := P) (w := w) (base := base) T
  refine Fun.g T.F_Net_contains sc_Net_contains (fun vs H Q E h => ?_) (fun cdv A outer s H vs Q E hr hg h => ?_)
  · obtain ⟨v, u, a, b, c, x, y, rfl, _⟩ := h
    rfl
  · obtain ⟨v, u, a, b, c, x, y, rfl, hN, hu, hx, hy, q⟩ := h
    refine ⟨_, (pss_one (ps_ret (pe_and (peg_call G_is_place (hr.mono (by decide)) hg (by rfl) T.g_is_place T.F_is_place.kp T.b_is_place .nil pass0 (pa_cons (pv 1) pa_nil)) (pe_one (pe_cmpR (op_eqD hr.units) (peg_meth (pv 0) T.cl_Net T.m_Net_reduced G_Net_reduced (hr.mono (by decide)) hg T.b_Net_reduced .nil pass0 (pa_cons (pv 1) pa_nil)) (pe_tup (pa_cons pe_int (pa_cons pe_int pa_nil))) (nomark _)))))), ?_⟩
    walk_at "go"
    refine do_Net_reduced hN hu hx hy fun z H1 S1 hz => ?_
    walk_at "go"
    rw [inN_dec]
    exact q _ (by walk_at "st")
/-- u in v, u not in v -/
theorem do_in {C : Addr} {a b c : Int} {u : V} (h : NA C H v a b c) (hu : IT H u [x, y]) (hx : Co x) (hy : Co y)
    (k : ∀ H', Stp none H H' → Q (.bl (decide (InN a b c x y))) H') : rHas C (sp_Net_contains C) E false u v H Q := by
  have h' := h
  obtain ⟨_, p, dx, w, rfl, h1, _⟩ := h'
  exact ⟨p, dx, _, rfl, h1, .ref p, u, a, b, c, x, y, rfl, h, hu, hx, hy, fun H' S => ⟨_, rfl, k H' S⟩⟩
theorem do_notIn {C : Addr} {a b c : Int} {u : V} (h : NA C H v a b c) (hu : IT H u [x, y]) (hx : Co x) (hy : Co y)
    (k : ∀ H', Stp none H H' → Q (.bl (!decide (InN a b c x y))) H') : rHas C (sp_Net_contains C) E true u v H Q := by
  have h' := h
  obtain ⟨_, p, dx, w, rfl, h1, _⟩ := h'
  exact ⟨p, dx, _, rfl, h1, .ref p, u, a, b, c, x, y, rfl, h, hu, hx, hy, fun H' S => ⟨_, rfl, k H' S⟩⟩

def sp_Net_order (C : Addr) : Sp := fun vs H Q _ => ∃ v u a b c x y, vs = [v, u] ∧ NA C H v a b c ∧ IT H u [x, y] ∧ Co x ∧ Co y ∧ Q (.int (ord a b c x y)) H
theorem ok_Net_order (T : Txt K mg ad) : FnG P w K mg base CX0 4 ad.Net_order ad.Net_order_d P_Net_order (sp_Net_order ad.C_Net) := by
  have G_check_place := ok_check_place (P := P) (w := w) (base := base) T
  refine Fun.g T.F_Net_order sc_Net_order (fun vs H Q E h => ?_) (fun cdv A outer s H vs Q E hr hg h => ?_)
  · obtain ⟨v, u, a, b, c, x, y, rfl, _⟩ := h
    rfl
  · obtain ⟨v, u, a, b, c, x, y, rfl, hN, hu, hx, hy, q⟩ := h
    obtain ⟨n, p, dx, ns, rfl, h1, h2⟩ := hN
    obtain ⟨n1, n2, n3, n4, n5, n6⟩ := n
    unfold Co at hx hy
    have hc : 0 < c := by omega
    have ha : 0 < a := by omega
    have g1 := gcdI_pos hc y
    have g2 : gcdI c y ≤ c := Int.le_of_dvd hc (gcdI_left c y)
    have t1 := ordT_pos hc y
    have t2 : ordT c y ≤ c := Int.ediv_le_self _ (by omega)
    have g3 := gcdI_pos ha (ordA b c x y)
    have g4 : gcdI a (ordA b c x y) ≤ a := Int.le_of_dvd ha (gcdI_left _ _)
    have d1 : CDivW c (gcdI c y) := divW_of g1 (by omega)
    have d2 : CDivW (ordT c y * y) c := divW_of (by omega) (by omega)
    have d3 : CDivW a (gcdI a (ordA b c x y)) := divW_of g3 (by omega)
    have m1 : CMulW (ordT c y) x := mulW_of (by omega) (by omega)
    have m2 : CMulW (ordT c y) y := mulW_of (by omega) (by omega)
    have e1 : (ordT c y * y / c).natAbs ≤ (ordT c y * y).natAbs := Int.natAbs_ediv_le_natAbs _ _
    have e2 : (ordT c y * y).natAbs < 10 ^ 65 := by
      rw [Int.natAbs_mul]
      have z1 : (ordT c y).natAbs < 10 ^ 30 := by omega
      have z2 : y.natAbs < 10 ^ 35 := by omega
      exact Nat.lt_of_lt_of_le (Nat.mul_lt_mul'' z1 z2) (by decide)
    have m3 : CMulW (ordT c y * y / c) b := mulW_of (by omega) (by omega)
    have e3 : (a / gcdI a (ordA b c x y)).natAbs ≤ a.natAbs := Int.natAbs_ediv_le_natAbs _ _
    have m4 : CMulW (ordT c y) (a / gcdI a (ordA b c x y)) := mulW_of (by omega) (by omega)
    refine ⟨_, (pss_cons (ps_expr (peg_call G_check_place (hr.mono (by decide)) hg (by rfl) T.g_check_place T.F_check_place.kp T.b_check_place .nil pass0 (pa_cons (pv 1) pa_nil)))
      (pss_cons (ps_asg (pe_fld (pv 0) rfl) (pg_tup (n := 3) rfl (pgs_cons (pg_name (i := 2) sc_Net_order.nd rfl (Or.inl rfl)) (pgs_cons (pg_name (i := 3) sc_Net_order.nd rfl (Or.inl rfl)) (pgs_cons (pg_name (i := 4) sc_Net_order.nd rfl (Or.inl rfl)) pgs_nil)))))
      (pss_cons (ps_asg (pv 1) (pg_tup (n := 2) rfl (pgs_cons (pg_name (i := 5) sc_Net_order.nd rfl (Or.inl rfl)) (pgs_cons (pg_name (i := 6) sc_Net_order.nd rfl (Or.inl rfl)) pgs_nil))))
      (pss_cons (ps_set (i := 7) sc_Net_order.nd rfl (Or.inl rfl) (pe_op op_fdivW (pv 4) (pe_callBfun cr_gcd (by rfl) T.g_gcd (pa_cons (pv 4) (pa_cons (pv 6) pa_nil)))))
      (pss_cons (ps_set (i := 8) sc_Net_order.nd rfl (Or.inl rfl) (pe_op op_sub (pe_op op_mulW (pv 7) (pv 5)) (pe_op op_mulW (pe_op op_fdivW (pe_op op_mulW (pv 7) (pv 6)) (pv 4)) (pv 3))))
      (pss_one (ps_ret (pe_op op_mulW (pv 7) (pe_op op_fdivW (pv 2) (pe_callBfun cr_gcd (by rfl) T.g_gcd (pa_cons (pv 2) (pa_cons (pv 8) pa_nil)))))))))))), ?_⟩
    walk_at "go"
    refine r_numF T.cl_Net T.n_Net_numbers (by walk_at "up") ?_
    walk_at "go"
    exact q
theorem do_Net_order {C : Addr} {a b c : Int} {u : V} (h : NA C H v a b c) (hu : IT H u [x, y]) (hx : Co x) (hy : Co y) (q : Q (.int (ord a b c x y)) H) :
    sp_Net_order C [v, u] H Q E := ⟨v, u, a, b, c, x, y, rfl, h, hu, hx, hy, q⟩

theorem do_two_shifts {a b c : Int} (h : IT H v [a, b, c]) (k : ∀ p H' u w, Stp none H H' → H' p = some (.lst [u, w]) → IT H' u [a, 0] → IT H' w [b, c] → Q (.ref p) H') :
    sp_two_shifts [v] H Q E := ⟨v, a, b, c, rfl, h, k⟩
def sp_Net_is_within (C : Addr) : Sp := fun vs H Q _ => ∃ v u a b c d e f, vs = [v, u] ∧ NA C H v a b c ∧ NA C H u d e f ∧
  ∀ H', Stp none H H' → Q (.bl (decide (InN d e f a 0) && decide (InN d e f b c))) H'
theorem ok_Net_is_within (T : Txt K mg ad) : FnG P w K mg base CX0 6 ad.Net_is_within ad.Net_is_within_d P_Net_is_within (sp_Net_is_within ad.C_Net) := by
  have G_two_shifts := ok_two_shifts (P := P) (w := w) (base := base) T
  have G_Net_contains := ok_Net_contains (P := P) (w := w) (base := base) T
  refine Fun.g T.F_Net_is_within sc_Net_is_within (fun vs H Q E h => ?_) (fun cdv A outer s H vs Q E hr hg h => ?_)
  · obtain ⟨v, u, a, b, c, d, e, f, rfl, _⟩ := h
    rfl
  · obtain ⟨v, u, a, b, c, d, e, f, rfl, hN, hM, q⟩ := h
    obtain ⟨n, p, dx, ns, rfl, h1, h2⟩ := hN
    obtain ⟨n1, n2, n3, n4, n5, n6⟩ := n
    have x1 : Co a := by unfold Co; omega
    have x2 : Co 0 := by unfold Co; omega
    have x3 : Co b := by unfold Co; omega
    have x4 : Co c := by unfold Co; omega
    refine ⟨_, (pss_cons (ps_asg (peg_call G_two_shifts (hr.mono (by decide)) hg (by rfl) T.g_two_shifts T.F_two_shifts.kp T.b_two_shifts .nil pass0 (pa_cons (pe_fld (pv 0) rfl) pa_nil)) (pg_lst (n := 2) rfl (pgs_cons (pg_name (i := 2) sc_Net_is_within.nd rfl (Or.inl rfl)) (pgs_cons (pg_name (i := 3) sc_Net_is_within.nd rfl (Or.inl rfl)) pgs_nil))))
      (pss_one (ps_ret (pe_and (pe_cmpR (opg_in T.h_Net G_Net_contains (hr.mono (by decide)) hg T.b_Net_contains pass0) (pv 2) (pv 1) (by rfl)) (pe_one (pe_cmpR (opg_in T.h_Net G_Net_contains (hr.mono (by decide)) hg T.b_Net_contains pass0) (pv 3) (pv 1) (by rfl))))))), ?_⟩
    walk_at "go"
    refine r_numF T.cl_Net T.n_Net_numbers (by walk_at "up") ?_
    walk_at "go"
    refine do_two_shifts (by walk_at "up") fun l H1 y z S1 hl hy hz => ?_
    walk_at "go"
    refine do_in (by walk_at "up") (by walk_at "up") x1 x2 fun H2 S2 => ?_
    walk_at "go"
    refine r_ite (fun i1 => ?_) (fun i1 => ?_)
    · walk_at "go"
      refine do_in (by walk_at "up") (by walk_at "up") x3 x4 fun H3 S3 => ?_
      rw [← Bool.true_and (decide (InN d e f b c)), ← decide_eq_true i1]
      exact q _ (by walk_at "st")
    · have q' := q H2 (by walk_at "st")
      rw [decide_eq_false i1] at q'
      exact q'
theorem do_Net_is_within {C : Addr} {a b c d e f : Int} {u : V} (h : NA C H v a b c) (h2 : NA C H u d e f) (k : ∀ H', Stp none H H' → Q (.bl (decide (InN d e f a 0) && decide (InN d e f b c))) H') :
    sp_Net_is_within C [v, u] H Q E := ⟨v, u, a, b, c, d, e, f, rfl, h, h2, k⟩

def sp_check_positive : Sp := fun vs H Q _ => ∃ i, vs = [.int i] ∧ 1 ≤ i ∧ Q .non H
theorem do_check_positive (h : 1 ≤ i) (q : Q .non H) : sp_check_positive [.int i] H Q E := ⟨i, rfl, h, q⟩
theorem ok_check_positive (T : Txt K mg ad) : FnG P w K mg base CX0 2 ad.check_positive ad.check_positive_d P_check_positive sp_check_positive := by
  have G_is_integer := ok_is_integer (P := P) (w := w) (base := base) T
  refine Fun.g T.F_check_positive sc_check_positive (fun vs H Q E h => ?_) (fun cdv A outer s H vs Q E hr hg h => ?_)
  · obtain ⟨i, rfl, _⟩ := h
    rfl
  · obtain ⟨i, rfl, h1, q⟩ := h
    refine ⟨_, (pss_one (ps_if (PW.pt (pw_or (pt_not (pt_val (peg_call G_is_integer (hr.mono (by decide)) hg (by rfl) T.g_is_integer T.F_is_integer.kp T.b_is_integer .nil pass0 (pa_cons (pv 0) pa_nil)))) (pw_or1 (pt_cmpR op_lt (pv 0) pe_int (nomark _)))))
      (pss_one ps_never) pss_nil)), ?_⟩
    walk_at "go"
    exact q
local macro_rules | `(tactic| walk_at "r") => `(tactic| first | ((with_reducible refine' do_check_positive ?h ?k); (case h => omega)) | fail)

def sp_Net_scaled (C : Addr) : Sp := fun vs H Q _ => ∃ v a b c f, vs = [v, .int f] ∧ NA C H v a b c ∧ 1 ≤ f ∧ a * f < 10 ^ 30 ∧ c * f < 10 ^ 30 ∧
  ∀ z H', Stp none H H' → NA C H' z (a * f) (b * f) (c * f) → Q z H'
theorem ok_Net_scaled (T : Txt K mg ad) : FnG P w K mg base CX0 5 ad.Net_scaled ad.Net_scaled_d P_Net_scaled (sp_Net_scaled ad.C_Net) := by
  have G_check_positive := ok_check_positive (P := P) (w := w) (base := base) T
  have G_Net_init := ok_Net_init (P := P) (w := w) (base := base) T
  refine Fun.g T.F_Net_scaled sc_Net_scaled (fun vs H Q E h => ?_) (fun cdv A outer s H vs Q E hr hg h => ?_)
  · obtain ⟨v, a, b, c, f, rfl, _⟩ := h
    rfl
  · obtain ⟨v, a, b, c, f, rfl, hN, hf, h1, h2, q⟩ := h
    obtain ⟨n, p, dx, ns, rfl, hp, hns⟩ := hN
    obtain ⟨n1, n2, n3, n4, n5, n6⟩ := n
    have pa : 1 * 1 ≤ a * f := Int.mul_le_mul n1 hf (by omega) (by omega)
    have pc : 1 * 1 ≤ c * f := Int.mul_le_mul n2 hf (by omega) (by omega)
    have pb : 0 ≤ b * f := Int.mul_nonneg n3 (by omega)
    have pf : f ≤ a * f := by
      have := Int.mul_le_mul_of_nonneg_right n1 (show 0 ≤ f by omega)
      omega
    have pba : b * f < a * f := Int.mul_lt_mul_of_pos_right n4 (by omega)
    have m1 : CMulW a f := mulW_of (by omega) (by omega)
    have m2 : CMulW b f := mulW_of (by omega) (by omega)
    have m3 : CMulW c f := mulW_of (by omega) (by omega)
    have n' : Nm (a * f) (b * f) (c * f) := ⟨by omega, by omega, pb, pba, h1, h2⟩
    refine ⟨_, (pss_cons (ps_expr (peg_call G_check_positive (hr.mono (by decide)) hg (by rfl) T.g_check_positive T.F_check_positive.kp T.b_check_positive .nil pass0 (pa_cons (pv 1) pa_nil)))
      (pss_cons (ps_asg (pe_fld (pv 0) rfl) (pg_tup (n := 3) rfl (pgs_cons (pg_name (i := 2) sc_Net_scaled.nd rfl (Or.inl rfl)) (pgs_cons (pg_name (i := 3) sc_Net_scaled.nd rfl (Or.inl rfl)) (pgs_cons (pg_name (i := 4) sc_Net_scaled.nd rfl (Or.inl rfl)) pgs_nil)))))
      (pss_one (ps_ret (peg_make T.k_Net G_Net_init (hr.mono (by decide)) hg (by rfl) T.g_Net T.b_Net_init .nil pass0 (pa_cons (pe_op op_mulW (pv 2) (pv 1)) (pa_cons (pe_op op_mulW (pv 3) (pv 1)) (pa_cons (pe_op op_mulW (pv 4) (pv 1)) pa_nil)))))))), ?_⟩
    walk_at "go"
    refine r_numF T.cl_Net T.n_Net_numbers hp ?_
    walk_at "go"
    exact do_Net n' fun v' H' S h => q v' H' (by walk_at "st") h
theorem do_Net_scaled {C : Addr} {a b c f : Int} (h : NA C H v a b c) (hf : 1 ≤ f) (h1 : a * f < 10 ^ 30) (h2 : c * f < 10 ^ 30)
    (k : ∀ z H', Stp none H H' → NA C H' z (a * f) (b * f) (c * f) → Q z H') : sp_Net_scaled C [v, .int f] H Q E := ⟨v, a, b, c, f, rfl, h, hf, h1, h2, k⟩

def sp_Net_eq (C : Addr) : Sp := fun vs H Q _ => ∃ v u a b c d e f, vs = [v, u] ∧ NA C H v a b c ∧ NA C H u d e f ∧ Q (.bl (decide ([a, b, c] = [d, e, f]))) H
theorem r_isiNet {C : Addr} {a b c : Int} (ic : IsC K C) (cl : Cls K C) (h : NA C H v a b c) (q : Q (.bl true) H) : rIsi K [v, .ref C] H Q := by
  obtain ⟨_, p, dx, u, rfl, h1, _⟩ := h
  exact r_isi (.own C) (ic.ty cl h1) kit_self q
theorem ok_Net_eq (T : Txt K mg ad) : FnG P w K mg base CX0 1 ad.Net_eq ad.Net_eq_d P_Net_eq (sp_Net_eq ad.C_Net) := by
  refine Fun.g T.F_Net_eq sc_Net_eq (fun vs H Q E h => ?_) (fun cdv A outer s H vs Q E hr hg h => ?_)
  · obtain ⟨v, u, a, b, c, d, e, f, rfl, _⟩ := h
    rfl
  · obtain ⟨v, u, a, b, c, d, e, f, rfl, hN, hM, q⟩ := h
    refine ⟨_, (pss_one (ps_ret (pe_and (pe_callB call_isi (by rfl) T.z_isinstance (by decide +kernel) (pa_cons (pv 1) (pa_cons (pe_glob (v := V.ref ad.C_Net) rfl T.g_Net rfl) pa_nil))) (pe_one (pe_cmpR (op_eqD hr.units) (pe_fld (pv 0) rfl) (pe_fld (pv 1) rfl) (nomark _)))))), ?_⟩
    walk_at "go"
    refine r_isiNet T.i_Net T.cl_Net hM ?_
    obtain ⟨_, p, dx, u1, rfl, h1, h2⟩ := hN
    obtain ⟨_, p', dx', u2, rfl, h3, h4⟩ := hM
    walk_at "go"
    refine r_numF T.cl_Net T.n_Net_numbers h1 ?_
    walk_at "go"
    refine r_numF T.cl_Net T.n_Net_numbers h3 ?_
    walk_at "go"
    exact q
/-- v == u, v != u of two nets -/
theorem do_eq {C : Addr} {a b c d e f : Int} {u : V} (ic : IsC K C) (cl : Cls K C) (h : NA C H v a b c) (h2 : NA C H u d e f) (q : Q (.bl (decide ([a, b, c] = [d, e, f]))) H) :
    rOwnEq K C (sp_Net_eq C) E false v u H Q := by
  have h' := h
  have h2' := h2
  obtain ⟨_, p, dx, u1, rfl, h1, _⟩ := h'
  obtain ⟨_, p', dx', u2, rfl, h3, _⟩ := h2'
  exact ⟨p, dx, _, .ref C, rfl, h1, ic.ty cl h3, notFirst_self, _, _, a, b, c, d, e, f, rfl, h, h2, _, rfl, q⟩
theorem do_ne {C : Addr} {a b c d e f : Int} {u : V} (ic : IsC K C) (cl : Cls K C) (h : NA C H v a b c) (h2 : NA C H u d e f) (q : Q (.bl (!decide ([a, b, c] = [d, e, f]))) H) :
    rOwnEq K C (sp_Net_eq C) E true v u H Q := by
  have h' := h
  have h2' := h2
  obtain ⟨_, p, dx, u1, rfl, h1, _⟩ := h'
  obtain ⟨_, p', dx', u2, rfl, h3, _⟩ := h2'
  exact ⟨p, dx, _, .ref C, rfl, h1, ic.ty cl h3, notFirst_self, _, _, a, b, c, d, e, f, rfl, h, h2, _, rfl, q⟩
end
end Law

set_option Elab.async false
set_option linter.all false
set_option maxRecDepth 100000
set_option maxHeartbeats 4000000
namespace Law
open PySem PySem.Spec PyProof.Rows L2 MV
local macro_rules | `(tactic| walk_at "up") => `(tactic| first
  | assumption
  | (refine' IT.mv ?s ?g; (case s => assumption); (case g => walk_at "up"))
  | (refine' IT.k ?g; (case g => walk_at "up"))
  | (refine' IK.mv ?s ?g; (case s => assumption); (case g => walk_at "up"))
  | (refine' Tape.mvN ?s ?g; (case s => assumption); (case g => walk_at "up"))
  | (refine' Tape.mvS ?s ?g; (case s => assumption); (case g => walk_at "up"))
  | (refine' At.tup ?s ?g; (case s => assumption); (case g => walk_at "up"))
  | (refine' At.ins ?s ?g; (case s => assumption); (case g => walk_at "up"))
  | (refine' At.lst ?s ?g; (case s => assumption); (case g => walk_at "up"))
  | (refine' At.lstS ?s ?n ?g; (case s => assumption); (case n => assumption); (case g => walk_at "up"))
  | fail)
local macro_rules | `(tactic| walk_at "st") => `(tactic| first
  | assumption
  | exact Stp.refl _ _
  | (refine' Stp.w ?s; (case s => assumption))
  | (refine' Stp.trans ?g ?s; (case s => (first | assumption | (refine' Stp.w ?u; (case u => assumption)))); (case g => walk_at "st"))
  | fail)
local macro_rules | `(tactic| walk_at "bT") => `(tactic| first
  | decide
  | (simp only [Bool.not_eq_true', Bool.not_eq_false', decide_eq_true_eq, decide_eq_false_iff_not]; omega)
  | fail)
local macro_rules | `(tactic| walk_at "sd") => `(tactic| first | assumption | decide | omega | fail)
local macro_rules | `(tactic| walk_at "r") => `(tactic| first
  | (with_reducible refine r_seq ?_)
  | (with_reducible refine r_asg ?_)
  | ((with_reducible refine' r_var ?h ?k); (case h => rfl))
  | (with_reducible refine r_c ?_)
  | (with_reducible refine r_op ?_)
  | (with_reducible refine r_un ?_)
  | (with_reducible refine r_nil ?_)
  | (with_reducible refine r_cons ?_)
  | (with_reducible refine r_tup ?_)
  | (with_reducible refine r_lst ?_)
  | (with_reducible refine r_cbLen ?_)
  | (with_reducible refine r_cbInt ?_)
  | (with_reducible refine r_cbRepr ?_)
  | (with_reducible refine r_cbTup ?_)
  | (with_reducible refine r_cbLst ?_)
  | (with_reducible refine r_cb ?_)
  | (with_reducible refine r_prop ?_)
  | (with_reducible refine r_andV ?_)
  | (with_reducible refine r_orV ?_)
  | (with_reducible refine r_notV ?_)
  | (with_reducible refine r_chain ?_)
  | (with_reducible refine r_ifE ?_)
  | (with_reducible refine r_test ?_)
  | (with_reducible refine r_B ?_)
  | (with_reducible refine r_and ?_)
  | (with_reducible refine r_or ?_)
  | (with_reducible refine r_not ?_)
  | (with_reducible refine r_yes ?_)
  | (with_reducible refine r_k ?_)
  | (with_reducible refine r_kV ?_)
  | (with_reducible refine r_next ?_)
  | (with_reducible refine r_drop ?_)
  | (with_reducible refine r_ret ?_)
  | (with_reducible refine r_ifS ?_)
  | (with_reducible refine r_par ?_)
  | (with_reducible refine r_par1 ?_)
  | (with_reducible refine r_gname ?_)
  | (with_reducible refine r_gnil ?_)
  | (with_reducible refine r_gcons ?_)
  | ((with_reducible refine' r_unpack2 ?h ?k); (case h => walk_at "up"))
  | ((with_reducible refine' r_unpack3 ?h ?k); (case h => walk_at "up"))
  | (with_reducible refine r_add ?_)
  | (with_reducible refine r_sub ?_)
  | (with_reducible refine r_neg ?_)
  | ((with_reducible refine' r_mod ?h ?k); (case h => walk_at "sd"))
  | ((with_reducible refine' r_div ?h ?k); (case h => walk_at "sd"))
  | ((with_reducible refine' r_mul ?h ?k); (case h => walk_at "sd"))
  | ((with_reducible refine' r_mulW ?h ?k); (case h => walk_at "sd"))
  | ((with_reducible refine' r_pow ?h ?k); (case h => (show (0 : Int) ≤ _ ∧ _ ∧ _; decide)))
  | (with_reducible refine r_lt ?_)
  | (with_reducible refine r_le ?_)
  | (with_reducible refine r_gt ?_)
  | (with_reducible refine r_ge ?_)
  | (with_reducible refine r_eqI ?_)
  | (with_reducible refine r_neI ?_)
  | (with_reducible refine r_eqS ?_)
  | (with_reducible refine r_neS ?_)
  | ((with_reducible refine' r_eqT ?h ?g ?k); (case h => walk_at "up"); (case g => walk_at "up"))
  | ((with_reducible refine' r_neT ?h ?g ?k); (case h => walk_at "up"); (case g => walk_at "up"))
  | ((with_reducible refine' r_ix0 ?h ?k); (case h => walk_at "up"))
  | ((with_reducible refine' r_ix1 ?h ?k); (case h => walk_at "up"))
  | ((with_reducible refine' r_ix2 ?h ?k); (case h => walk_at "up"))
  | (with_reducible refine r_newI2 (fun v H2 S I => ?_))
  | (with_reducible refine r_newI3 (fun v H2 S I => ?_))
  | (with_reducible refine r_newL1 (fun p H2 S hp np => ?_))
  | (with_reducible refine r_newL2 (fun p H2 S hp np => ?_))
  | (with_reducible refine r_newL3 (fun p H2 S hp np => ?_))
  | (with_reducible refine r_T ?_)
  | (with_reducible refine r_F ?_)
  | fail)
local macro_rules | `(tactic| walk_at "go") => `(tactic| repeat (walk_at "r"))
local macro_rules | `(tactic| walk_at "r") => `(tactic| first
  | (with_reducible refine r_call0 ?_)
  | (with_reducible refine r_meth0 ?_)
  | (with_reducible refine r_make0 ?_)
  | (with_reducible refine r_isiII ?_)
  | (with_reducible refine r_isiIB ?_)
  | ((with_reducible refine' r_isiTT ?h ?k); (case h => walk_at "up"))
  | ((with_reducible refine' r_len2 ?h ?k); (case h => walk_at "up"))
  | ((with_reducible refine' r_len3 ?h ?k); (case h => walk_at "up"))
  | ((with_reducible refine' r_lenL ?h ?k); (case h => walk_at "up"))
  | (with_reducible refine r_int1 ?_)
  | (with_reducible refine r_int1B ?_)
  | (with_reducible refine r_nT ?_)
  | (with_reducible refine r_nF ?_)
  | (with_reducible refine r_gcd ?_)
  | (with_reducible refine r_gsub ?_)
  | (with_reducible refine r_fld ?_)
  | (with_reducible refine r_p6 ?_)
  | (with_reducible refine r_p9 ?_)
  | (with_reducible refine r_p10 ?_)
  | (with_reducible refine r_p11 ?_)
  | (with_reducible refine r_p12 ?_)
  | (with_reducible refine r_p18 ?_)
  | (with_reducible refine r_p20 ?_)
  | (with_reducible refine r_p26 ?_)
  | (with_reducible refine r_p27 ?_)
  | (with_reducible refine r_p30 ?_)
  | ((with_reducible refine' r_iF ?h ?k); (case h => walk_at "bT"))
  | ((with_reducible refine' r_iT ?h ?k); (case h => walk_at "bT"))
  | (with_reducible refine r_sfld ?_)
  | (with_reducible refine r_sl ?_)
  | (with_reducible refine r_noPart ?_)
  | (with_reducible refine r_part ?_)
  | (with_reducible refine r_pk ?_)
  | ((with_reducible refine' r_unl2 ?h ?k); (case h => walk_at "up"))
  | ((with_reducible refine' r_ixLi ?h ?h0 ?hn ?k); (case h => walk_at "up"); (case h0 => walk_at "sd"); (case hn => rfl))
  | fail)

local macro_rules | `(tactic| walk_at "r") => `(tactic| with_reducible refine do_is_integer ?_)
local macro_rules | `(tactic| walk_at "r") => `(tactic| first | ((with_reducible refine' do_is_place ?h ?k); (case h => walk_at "up")) | fail)
local macro_rules | `(tactic| walk_at "r") => `(tactic| first | ((with_reducible refine' do_check_place ?h ?k); (case h => walk_at "up")) | fail)
local macro_rules | `(tactic| walk_at "r") => `(tactic| first | ((with_reducible refine' do_are_numbers ?h ?k); (case h => assumption)) | fail)
local macro_rules | `(tactic| walk_at "up") => `(tactic| first | (refine' NA.mv ?s ?g; (case s => assumption); (case g => walk_at "up")) | fail)
local macro_rules | `(tactic| walk_at "r") => `(tactic| first
  | ((with_reducible refine' do_Net_size ?h ?k); (case h => walk_at "up"))
  | ((with_reducible refine' do_meth ?h ?hm ?k); (case h => walk_at "up"); (case hm => decide +kernel))
  | fail)

section
variable {P : Program} {w : World} {K : PySem.W.Frag} {mg : Str → Option Value} {base : Heap} {ad : Ad} {H : Hp} {Q : VK} {E : XK} {i j x y : Int} {v : V}
/-! ### draws -/
def sp_law_tape (K : PySem.W.Frag) : Sp := fun vs H Q _ => ∃ (l : Addr) (ns : List Int), vs = [.ref l] ∧ SqL K H l (ns.map V.int) ∧ ∀ t H', Stp none H H' → H t = none → Tape H' t → Q (.ref t) H'
theorem ok_law_tape (T : Txt K mg ad) : FnG P w K mg base CX0 1 ad.law_tape ad.law_tape_d P_law_tape (sp_law_tape K) := by
  refine Fun.g T.F_law_tape sc_law_tape (fun vs H Q E h => ?_) (fun cdv A outer s H vs Q E hr hg h => ?_)
  · obtain ⟨l, ns, rfl, _⟩ := h
    rfl
  · obtain ⟨l, ns, rfl, hl, q⟩ := h
    refine ⟨_, (pss_one (ps_ret (pe_lst (pa_cons (pe_callTy call_list_of (by rfl) T.z_list (by decide +kernel) (pa_cons (pe_slice sl_list (pv 0) po_none (po_some pe_int)) pa_nil)) (pa_cons pe_int (pa_cons pe_int (pa_cons pe_int pa_nil))))))), ?_⟩
    walk_at "go"
    refine r_slL hl fun l1 H1 S1 h1 n1 => ?_
    walk_at "go"
    refine r_lstL (SqL.of h1) fun l2 H2 S2 h2 n2 => ?_
    walk_at "go"
    refine r_newL (sz100 (Nat.le_of_ble_eq_true rfl)) fun t H3 S3 h3 n3 => ?_
    obtain ⟨ms, e⟩ := cutV_map ns none (some 63)
    rw [e] at h2
    have nl : l2 ≠ t := ne_of_none h2 n3
    refine q t H3 (by walk_at "st") ?_ ⟨l2, ms, 0, 0, 17, nl, h3, S3.all _ _ h2, by decide, by decide, by decide⟩
    cases z : H t with
    | none => rfl
    | some o => exact absurd (S2.all _ _ (S1.all _ _ z)) (by rw [n3]; simp)
theorem do_law_tape {l : Addr} {ns : List Int} (h : SqL K H l (ns.map V.int)) (k : ∀ t H', Stp none H H' → H t = none → Tape H' t → Q (.ref t) H') :
    sp_law_tape K [.ref l] H Q E := ⟨l, ns, rfl, h, k⟩

def sp_law_draw : Sp := fun vs H Q _ => ∃ t m, vs = [.ref t, .int m] ∧ Tape H t ∧ 0 < m ∧ m < 10 ^ 30 ∧ ∀ r H', 0 ≤ r → r < m → Stp (some t) H H' → Q (.int r) H'
theorem ok_law_draw (T : Txt K mg ad) : FnG P w K mg base CX0 1 ad.law_draw ad.law_draw_d P_law_draw sp_law_draw := by
  refine Fun.g T.F_law_draw sc_law_draw (fun vs H Q E h => ?_) (fun cdv A outer s H vs Q E hr hg h => ?_)
  · obtain ⟨t, m, rfl, _⟩ := h
    rfl
  · obtain ⟨t, m, rfl, hT, m0, m1, q⟩ := h
    obtain ⟨l, ns, a, b, c, X⟩ := hT.is
    have ht := X.at_
    have hl := X.li
    have a0 := X.a0
    have c0 := X.c0
    have c1 := X.c1
    have dv : ∀ z : Int, CDivW z m := fun z => divW_of m0 (by omega)
    have rm : ∀ z : Int, 0 ≤ z % m ∧ z % m < m := fun z => ⟨Int.emod_nonneg _ (by omega), Int.emod_lt_of_pos _ m0⟩
    refine ⟨_, (pss_cons (ps_if (pt_cmpR op_gt (pe_ix ix_seq (pv 0) pe_int (fun _ _ => rfl)) pe_int (nomark _))
      (pss_cons (ps_set (i := 2) sc_law_draw.nd rfl (Or.inl rfl) (pe_op op_mod (pe_ix ix_seq (pv 0) pe_int (fun _ _ => rfl)) (pv 1)))
      (pss_cons (ps_asg (pe_op op_fdivW (pe_ix ix_seq (pv 0) pe_int (fun _ _ => rfl)) (pv 1)) (pg_sub (pv 0) pe_int set_list))
      (pss_one (ps_ret (pv 2))))) pss_nil)
      (pss_cons (ps_set (i := 3) sc_law_draw.nd rfl (Or.inl rfl) pe_int)
      (pss_cons (ps_if (pt_cmpR op_lt (pe_ix ix_seq (pv 0) pe_int (fun _ _ => rfl)) (pe_callB call_len_seq (by rfl) T.z_len (by decide +kernel) (pa_cons (pe_ix ix_seq (pv 0) pe_int (fun _ _ => rfl)) pa_nil)) (nomark _))
      (pss_one (ps_set (i := 3) sc_law_draw.nd rfl (Or.inl rfl) (pe_ix ix_seq (pe_ix ix_seq (pv 0) pe_int (fun _ _ => rfl)) (pe_ix ix_seq (pv 0) pe_int (fun _ _ => rfl)) (fun _ _ => rfl)))) pss_nil)
      (pss_cons (ps_asg (pe_op op_add (pe_ix ix_seq (pv 0) pe_int (fun _ _ => rfl)) pe_int) (pg_sub (pv 0) pe_int set_list))
      (pss_cons (ps_if (pt_cmpR op_ge (pv 3) (pe_op op_pow pe_int pe_int) (nomark _))
      (pss_cons (ps_asg (pe_op op_fdivW (pv 3) (pv 1)) (pg_sub (pv 0) pe_int set_list))
      (pss_one (ps_ret (pe_op op_mod (pv 3) (pv 1))))) pss_nil)
      (pss_cons (ps_set (i := 4) sc_law_draw.nd rfl (Or.inl rfl) (pe_op op_add (pe_op op_add (pe_op op_mod (pv 3) pe_int) (pe_op op_mul pe_int (pe_ix ix_seq (pv 0) pe_int (fun _ _ => rfl)))) pe_int))
      (pss_cons (ps_asg (pe_op op_mod (pe_op op_add (pe_op op_mul (pe_ix ix_seq (pv 0) pe_int (fun _ _ => rfl)) pe_int) (pv 4)) pe_int) (pg_sub (pv 0) pe_int set_list))
      (pss_one (ps_ret (pe_op op_mod (pe_op op_mod (pe_op op_pow (pe_ix ix_seq (pv 0) pe_int (fun _ _ => rfl)) pe_int) pe_int) (pv 1))))))))))), ?_⟩
    walk_at "go"
    refine r_ite (fun hb => ?_) (fun hb => ?_)
    · walk_at "go"
      refine r_div (dv _) ?_
      walk_at "go"
      obtain ⟨S1, X1⟩ := X.put (a' := a) (b' := b / m) a0 c0 c1
      refine r_set2 ht ?_
      walk_at "go"
      exact q _ _ (rm _).1 (rm _).2 S1
    · walk_at "go"
      refine r_ite (fun ha => ?_) (fun ha => ?_)
      · have hz : ∃ z : Int, (ns.map V.int)[a.toNat]? = some (.int z) := by
          rw [List.length_map] at ha
          have : a.toNat < ns.length := by omega
          exact ⟨ns[a.toNat], by rw [List.getElem?_map, List.getElem?_eq_getElem this]; rfl⟩
        obtain ⟨z, hz⟩ := hz
        walk_at "go"
        refine r_ixLi hl a0 hz ?_
        walk_at "go"
        obtain ⟨S1, X1⟩ := X.put (a' := a + 1) (b' := b) (by omega) c0 c1
        refine r_set1 ht ?_
        generalize upd H t (.lst [.ref l, .int (a + 1), .int b, .int c]) = H1 at S1 X1 ⊢
        have ht1 := X1.at_
        walk_at "go"
        refine r_ite (fun hc => ?_) (fun hc => ?_)
        · walk_at "go"
          refine r_div (dv _) ?_
          walk_at "go"
          obtain ⟨S2, X2⟩ := X1.put (a' := a + 1) (b' := z / m) (by omega) c0 c1
          refine r_set2 ht1 ?_
          walk_at "go"
          exact q _ _ (rm _).1 (rm _).2 (S1.trans S2)
        · walk_at "go"
          refine r_mul (.inl ⟨by decide, by decide⟩) ?_
          walk_at "go"
          refine r_mul (.inl ⟨by omega, by omega⟩) ?_
          walk_at "go"
          have rm2 : ∀ z : Int, 0 ≤ z % 2147483647 ∧ z % 2147483647 < 2147483647 := fun z => ⟨Int.emod_nonneg _ (by omega), Int.emod_lt_of_pos _ (by omega)⟩
          obtain ⟨S2, X2⟩ := X1.put (a' := a + 1) (b' := b) (by omega) (rm2 _).1 (rm2 _).2
          refine r_set3 ht1 ?_
          have ht2 := X2.at_
          walk_at "go"
          refine r_pow ?_ ?_
          · have := rm2 (c * 48271 + (z % 2147483647 + 7919 * (a + 1) + 11))
            exact ⟨by decide, by decide, by omega⟩
          walk_at "go"
          exact q _ _ (rm _).1 (rm _).2 (S1.trans S2)
      · walk_at "go"
        obtain ⟨S1, X1⟩ := X.put (a' := a + 1) (b' := b) (by omega) c0 c1
        refine r_set1 ht ?_
        generalize upd H t (.lst [.ref l, .int (a + 1), .int b, .int c]) = H1 at S1 X1 ⊢
        have ht1 := X1.at_
        walk_at "go"
        refine r_mul (.inl ⟨by decide, by decide⟩) ?_
        walk_at "go"
        refine r_mul (.inl ⟨by omega, by omega⟩) ?_
        walk_at "go"
        have rm2 : ∀ z : Int, 0 ≤ z % 2147483647 ∧ z % 2147483647 < 2147483647 := fun z => ⟨Int.emod_nonneg _ (by omega), Int.emod_lt_of_pos _ (by omega)⟩
        obtain ⟨S2, X2⟩ := X1.put (a' := a + 1) (b' := b) (by omega) (rm2 _).1 (rm2 _).2
        refine r_set3 ht1 ?_
        have ht2 := X2.at_
        walk_at "go"
        refine r_pow ?_ ?_
        · have := rm2 (c * 48271 + (0 % 2147483647 + 7919 * (a + 1) + 11))
          exact ⟨by decide, by decide, by omega⟩
        walk_at "go"
        exact q _ _ (rm _).1 (rm _).2 (S1.trans S2)
theorem do_law_draw {t : Addr} {m : Int} (T : Tape H t) (h0 : 0 < m) (h1 : m < 10 ^ 30) (k : ∀ r H', 0 ≤ r → r < m → Stp (some t) H H' → Q (.int r) H') :
    sp_law_draw [.ref t, .int m] H Q E := ⟨t, m, rfl, T, h0, h1, k⟩
local macro_rules | `(tactic| walk_at "dr") => `(tactic| (refine do_law_draw (by walk_at "up") (by first | decide | omega) (by first | decide | omega) ?_))
def sp_law_great : Sp := fun vs H Q _ => ∃ t m, vs = [.ref t, .int m] ∧ Tape H t ∧ 60 ≤ m ∧ m < 10 ^ 30 ∧ ∀ r H', -m < r → r < m → Stp (some t) H H' → Q (.int r) H'
theorem ok_law_great (T : Txt K mg ad) : FnG P w K mg base CX0 2 ad.law_great ad.law_great_d P_law_great sp_law_great := by
  have G_law_draw := ok_law_draw (P := P) (w := w) (base := base) T
  refine Fun.g T.F_law_great sc_law_great (fun vs H Q E h => ?_) (fun cdv A outer s H vs Q E hr hg h => ?_)
  · obtain ⟨t, m, rfl, _⟩ := h
    rfl
  · obtain ⟨t, m, rfl, hT, m0, m1, q⟩ := h
    refine ⟨_, (pss_cons (ps_set (i := 2) sc_law_great.nd rfl (Or.inl rfl) (pe_op op_add (pe_op op_mulW (peg_call G_law_draw (hr.mono (by decide)) hg (by rfl) T.g_law_draw T.F_law_draw.kp T.b_law_draw .nil pass0 (pa_cons (pv 0) (pa_cons (pe_op op_pow pe_int pe_int) pa_nil))) (pe_op op_pow pe_int pe_int)) (pe_op op_mulW (peg_call G_law_draw (hr.mono (by decide)) hg (by rfl) T.g_law_draw T.F_law_draw.kp T.b_law_draw .nil pass0 (pa_cons (pv 0) (pa_cons (pe_op op_pow pe_int pe_int) pa_nil))) (pe_op op_pow pe_int pe_int))))
      (pss_cons (ps_set (i := 3) sc_law_great.nd rfl (Or.inl rfl) (pe_ix ix_seq (pe_lst (pa_cons (peg_call G_law_draw (hr.mono (by decide)) hg (by rfl) T.g_law_draw T.F_law_draw.kp T.b_law_draw .nil pass0 (pa_cons (pv 0) (pa_cons pe_int pa_nil))) (pa_cons (peg_call G_law_draw (hr.mono (by decide)) hg (by rfl) T.g_law_draw T.F_law_draw.kp T.b_law_draw .nil pass0 (pa_cons (pv 0) (pa_cons pe_int pa_nil))) (pa_cons (pe_op op_mod (pe_op op_add (pv 2) (peg_call G_law_draw (hr.mono (by decide)) hg (by rfl) T.g_law_draw T.F_law_draw.kp T.b_law_draw .nil pass0 (pa_cons (pv 0) (pa_cons (pe_op op_pow pe_int pe_int) pa_nil)))) (pv 1)) pa_nil)))) (peg_call G_law_draw (hr.mono (by decide)) hg (by rfl) T.g_law_draw T.F_law_draw.kp T.b_law_draw .nil pass0 (pa_cons (pv 0) (pa_cons pe_int pa_nil))) (fun _ _ => rfl)))
      (pss_one (ps_ret (pe_op op_mulW (pv 3) (pe_ix ix_seq (pe_lst (pa_cons pe_int (pa_cons (pe_un un_neg pe_int) pa_nil))) (peg_call G_law_draw (hr.mono (by decide)) hg (by rfl) T.g_law_draw T.F_law_draw.kp T.b_law_draw .nil pass0 (pa_cons (pv 0) (pa_cons pe_int pa_nil))) (fun _ _ => rfl))))))), ?_⟩
    walk_at "go"
    walk_at "dr"
    intro r1 H1 a1 b1 S1
    walk_at "go"
    refine r_mulW (mulW_of (by omega) (by decide)) ?_
    walk_at "go"
    walk_at "dr"
    intro r2 H2 a2 b2 S2
    walk_at "go"
    refine r_mulW (mulW_of (by omega) (by decide)) ?_
    walk_at "go"
    walk_at "dr"
    intro r3 H3 a3 b3 S3
    walk_at "go"
    walk_at "dr"
    intro r4 H4 a4 b4 S4
    walk_at "go"
    walk_at "dr"
    intro r5 H5 a5 b5 S5
    walk_at "go"
    have e1 : 0 ≤ (r1 * 1000000000000000000 + r2 * 1000000000 + r5) % m := Int.emod_nonneg _ (by omega)
    have e2 : (r1 * 1000000000000000000 + r2 * 1000000000 + r5) % m < m := Int.emod_lt_of_pos _ (by omega)
    rename_i p1 H6 S6 hp1 np1
    generalize (r1 * 1000000000000000000 + r2 * 1000000000 + r5) % m = z at e1 e2 hp1
    have T6 : Tape H6 t := by walk_at "up"
    have nt1 : p1 ≠ t := by
      intro e
      have T5 : Tape H5 t := by walk_at "up"
      obtain ⟨_, _, _, _, _, _, h, _⟩ := T5
      rw [← e, np1] at h
      cases h
    walk_at "dr"
    intro r6 H7 a6 b6 S7
    have hz : ∃ u, [V.int r3, V.int r4, V.int z][r6.toNat]? = some (V.int u) ∧ 0 ≤ u ∧ u < m := by
      have : r6 = 0 ∨ r6 = 1 ∨ r6 = 2 := by omega
      rcases this with rfl | rfl | rfl
      · exact ⟨r3, rfl, by omega, by omega⟩
      · exact ⟨r4, rfl, by omega, by omega⟩
      · exact ⟨z, rfl, by omega, by omega⟩
    obtain ⟨u, hu, u0, u1⟩ := hz
    have hp7 : H7 p1 = some (.lst [V.int r3, V.int r4, V.int z]) := At.lstS S7 nt1 hp1
    refine r_ixLi hp7 a6 hu ?_
    walk_at "go"
    rename_i p2 H8 S8 hp2 np2
    have nt2 : p2 ≠ t := by
      intro e
      have T5 : Tape H7 t := by walk_at "up"
      obtain ⟨_, _, _, _, _, _, h, _⟩ := T5
      rw [← e, np2] at h
      cases h
    walk_at "dr"
    intro r7 H9 a7 b7 S9
    have hp9 : H9 p2 = some (.lst [V.int 1, V.int (-1)]) := At.lstS S9 nt2 hp2
    have : r7 = 0 ∨ r7 = 1 := by omega
    rcases this with rfl | rfl
    · walk_at "go"
      refine r_mulW (mulW_of (by omega) (by decide)) ?_
      exact q _ _ (by omega) (by omega) (by walk_at "st")
    · walk_at "go"
      refine r_mulW (mulW_of (by omega) (by decide)) ?_
      exact q _ _ (by omega) (by omega) (by walk_at "st")
theorem do_law_great {t : Addr} {m : Int} (T : Tape H t) (h0 : 60 ≤ m) (h1 : m < 10 ^ 30) (k : ∀ r H', -m < r → r < m → Stp (some t) H H' → Q (.int r) H') :
    sp_law_great [.ref t, .int m] H Q E := ⟨t, m, rfl, T, h0, h1, k⟩

def sp_law_place : Sp := fun vs H Q _ => ∃ t, vs = [.ref t] ∧ Tape H t ∧ ∀ v x y H', -10 ^ 26 < x → x < 10 ^ 26 → -10 ^ 26 < y → y < 10 ^ 26 → Stp (some t) H H' → IT H' v [x, y] → Q v H'
theorem ok_law_place (T : Txt K mg ad) : FnG P w K mg base CX0 3 ad.law_place ad.law_place_d P_law_place sp_law_place := by
  have G_law_great := ok_law_great (P := P) (w := w) (base := base) T
  refine Fun.g T.F_law_place sc_law_place (fun vs H Q E h => ?_) (fun cdv A outer s H vs Q E hr hg h => ?_)
  · obtain ⟨t, rfl, _⟩ := h
    rfl
  · obtain ⟨t, rfl, hT, q⟩ := h
    refine ⟨_, (pss_one (ps_ret (pe_tup (pa_cons (peg_call G_law_great (hr.mono (by decide)) hg (by rfl) T.g_law_great T.F_law_great.kp T.b_law_great .nil pass0 (pa_cons (pv 0) (pa_cons (pe_op op_pow pe_int pe_int) pa_nil))) (pa_cons (peg_call G_law_great (hr.mono (by decide)) hg (by rfl) T.g_law_great T.F_law_great.kp T.b_law_great .nil pass0 (pa_cons (pv 0) (pa_cons (pe_op op_pow pe_int pe_int) pa_nil))) pa_nil))))), ?_⟩
    walk_at "go"
    refine do_law_great (by walk_at "up") (by decide) (by decide) fun x H1 x0 x1 S1 => ?_
    walk_at "go"
    refine do_law_great (by walk_at "up") (by decide) (by decide) fun y H2 y0 y1 S2 => ?_
    walk_at "go"
    exact q _ x y _ (by omega) (by omega) (by omega) (by omega) (by walk_at "st") (by walk_at "up")
theorem do_law_place {t : Addr} (T : Tape H t) (k : ∀ v x y H', -10 ^ 26 < x → x < 10 ^ 26 → -10 ^ 26 < y → y < 10 ^ 26 → Stp (some t) H H' → IT H' v [x, y] → Q v H') :
    sp_law_place [.ref t] H Q E := ⟨t, rfl, T, k⟩

def sp_law_low : Sp := fun vs H Q _ => ∃ v u a b c x y, vs = [v, u] ∧ IT H v [a, b, c] ∧ Nm a b c ∧ IT H u [x, y] ∧ Co x ∧ Co y ∧
  ∀ z H', Stp none H H' → IT H' z [lowX a b c x y, lowY c y] → Q z H'
theorem ok_law_low (T : Txt K mg ad) : FnG P w K mg base CX0 1 ad.law_low ad.law_low_d P_law_low sp_law_low := by
  refine Fun.g T.F_law_low sc_law_low (fun vs H Q E h => ?_) (fun cdv A outer s H vs Q E hr hg h => ?_)
  · obtain ⟨v, u, a, b, c, x, y, rfl, _⟩ := h
    rfl
  · obtain ⟨v, u, a, b, c, x, y, rfl, hv, n, hu, hx, hy, q⟩ := h
    obtain ⟨n1, n2, n3, n4, n5, n6⟩ := n
    unfold Co at hx hy
    have d1 : CDivW y c := divW_of (by omega) (by omega)
    have e1 : (y / c).natAbs ≤ y.natAbs := Int.natAbs_ediv_le_natAbs _ _
    have m1 : CMulW (y / c) b := mulW_of (by omega) (by omega)
    have m2 : CMulW (y / c) c := mulW_of (by omega) (by omega)
    refine ⟨_, (pss_cons (ps_set (i := 2) sc_law_low.nd rfl (Or.inl rfl) (pe_op op_fdivW (pe_ix ix_seq (pv 1) pe_int (fun _ _ => rfl)) (pe_ix ix_seq (pv 0) pe_int (fun _ _ => rfl))))
      (pss_one (ps_ret (pe_tup (pa_cons (pe_op op_mod (pe_op op_sub (pe_ix ix_seq (pv 1) pe_int (fun _ _ => rfl)) (pe_op op_mulW (pv 2) (pe_ix ix_seq (pv 0) pe_int (fun _ _ => rfl)))) (pe_ix ix_seq (pv 0) pe_int (fun _ _ => rfl))) (pa_cons (pe_op op_sub (pe_ix ix_seq (pv 1) pe_int (fun _ _ => rfl)) (pe_op op_mulW (pv 2) (pe_ix ix_seq (pv 0) pe_int (fun _ _ => rfl)))) pa_nil)))))), ?_⟩
    walk_at "go"
    exact q _ _ (by walk_at "st") (by walk_at "up")
theorem do_law_low {a b c : Int} {u : V} (h : IT H v [a, b, c]) (n : Nm a b c) (hu : IT H u [x, y]) (hx : Co x) (hy : Co y)
    (k : ∀ z H', Stp none H H' → IT H' z [lowX a b c x y, lowY c y] → Q z H') : sp_law_low [v, u] H Q E := ⟨v, u, a, b, c, x, y, rfl, h, n, hu, hx, hy, k⟩

def sp_law_net : Sp := fun vs H Q _ => ∃ t m, vs = [.ref t, .int m] ∧ Tape H t ∧ 1 ≤ m ∧ m < 10 ^ 9 ∧
  ∀ v a b c H', Nm a b c → a ≤ m → c ≤ m → a * c ≤ m → Stp (some t) H H' → IT H' v [a, b, c] → Q v H'
theorem ok_law_net (T : Txt K mg ad) : FnG P w K mg base CX0 2 ad.law_net ad.law_net_d P_law_net sp_law_net := by
  have G_law_draw := ok_law_draw (P := P) (w := w) (base := base) T
  refine Fun.g T.F_law_net sc_law_net (fun vs H Q E h => ?_) (fun cdv A outer s H vs Q E hr hg h => ?_)
  · obtain ⟨t, m, rfl, _⟩ := h
    rfl
  · obtain ⟨t, m, rfl, hT, m0, m1, q⟩ := h
    refine ⟨_, (pss_cons (ps_set (i := 2) sc_law_net.nd rfl (Or.inl rfl) (pe_op op_add pe_int (peg_call G_law_draw (hr.mono (by decide)) hg (by rfl) T.g_law_draw T.F_law_draw.kp T.b_law_draw .nil pass0 (pa_cons (pv 0) (pa_cons (pv 1) pa_nil)))))
      (pss_one (ps_ret (pe_tup (pa_cons (pv 2) (pa_cons (peg_call G_law_draw (hr.mono (by decide)) hg (by rfl) T.g_law_draw T.F_law_draw.kp T.b_law_draw .nil pass0 (pa_cons (pv 0) (pa_cons (pv 2) pa_nil))) (pa_cons (pe_op op_add pe_int (peg_call G_law_draw (hr.mono (by decide)) hg (by rfl) T.g_law_draw T.F_law_draw.kp T.b_law_draw .nil pass0 (pa_cons (pv 0) (pa_cons (pe_op op_fdivW (pv 1) (pv 2)) pa_nil)))) pa_nil))))))), ?_⟩
    walk_at "go"
    walk_at "dr"
    intro r1 H1 a1 b1 S1
    walk_at "go"
    walk_at "dr"
    intro r2 H2 a2 b2 S2
    walk_at "go"
    have d1 : CDivW m (1 + r1) := divW_of (by omega) (by omega)
    walk_at "go"
    have k1 : 1 ≤ m / (1 + r1) := by
      rw [Int.le_ediv_iff_mul_le (by omega)]; omega
    have k2 : m / (1 + r1) ≤ m := Int.ediv_le_self _ (by omega)
    refine do_law_draw (by walk_at "up") (by omega) (by omega) ?_
    intro r3 H3 a3 b3 S3
    walk_at "go"
    have k3 : (1 + r1) * (1 + r3) ≤ m := by
      have := Int.mul_le_mul_of_nonneg_left (show 1 + r3 ≤ m / (1 + r1) by omega) (show 0 ≤ 1 + r1 by omega)
      have := Int.mul_ediv_self_le (x := m) (k := 1 + r1) (by omega)
      omega
    exact q _ (1 + r1) r2 (1 + r3) _ ⟨by omega, by omega, by omega, by omega, by omega, by omega⟩ (by omega) (by omega) k3 (by walk_at "st") (by walk_at "up")
theorem do_law_net {t : Addr} {m : Int} (T : Tape H t) (h0 : 1 ≤ m) (h1 : m < 10 ^ 9) (k : ∀ v a b c H', Nm a b c → a ≤ m → c ≤ m → a * c ≤ m → Stp (some t) H H' → IT H' v [a, b, c] → Q v H') :
    sp_law_net [.ref t, .int m] H Q E := ⟨t, m, rfl, T, h0, h1, k⟩

def sp_law_steps : Sp := fun vs H Q _ => ∃ v u a b c x y, vs = [v, u] ∧ IT H v [a, b, c] ∧ Nm a b c ∧ IT H u [x, y] ∧ Co x ∧ Co y ∧
  ∀ H', Stp none H H' → Q (.int (ord a b c x y)) H'
theorem ok_law_steps (T : Txt K mg ad) : FnG P w K mg base CX0 2 ad.law_steps ad.law_steps_d P_law_steps sp_law_steps := by
  have G_law_low := ok_law_low (P := P) (w := w) (base := base) T
  refine Fun.gn T.F_law_steps sc_law_steps (fun vs H Q E h => ?_) (fun cdv A outer s H vs Q E hr hg h => ?_)
  · obtain ⟨v, u, a, b, c, x, y, rfl, _⟩ := h
    rfl
  · obtain ⟨v, u, a, b, c, x, y, rfl, hv, n, hu, hx, hy, q⟩ := h
    have n' := n
    obtain ⟨n1, n2, n3, n4, n5, n6⟩ := n'
    have hc : c ≠ 0 := by omega
    have low_co : ∀ x y, Co (lowX a b c x y) ∧ Co (lowY c y) ∧ lowX a b c x y < 10 ^ 30 ∧ lowY c y < 10 ^ 30 ∧ 0 ≤ lowX a b c x y ∧ 0 ≤ lowY c y := fun x y => by
      have h1 := lowX_rng (a := a) (b := b) (c := c) (x := x) (y := y) (by omega)
      have h2 := lowY_rng (c := c) (y := y) (by omega)
      unfold Co
      omega
    refine ⟨_, (pss_cons (ps_set (i := 2) sc_law_steps.nd rfl (Or.inl rfl) (peg_call G_law_low (hr.mono (by decide)) hg (by rfl) T.g_law_low T.F_law_low.kp T.b_law_low .nil pass0 (pa_cons (pv 0) (pa_cons (pv 1) pa_nil))))
      (pss_cons (ps_par (i := 3) (j := 4) rfl sc_law_steps.nd rfl rfl (by decide) rfl rfl (pa_cons (pv 2) (pa_cons pe_int pa_nil)) rfl)
      (pss_cons (ps_while PassesOwn.never (pt_cmpR (op_neD hr.units) (pv 3) (pe_tup (pa_cons pe_int (pa_cons pe_int pa_nil))) (nomark _))
      (pss_one (ps_par (i := 3) (j := 4) rfl sc_law_steps.nd rfl rfl (by decide) rfl rfl (pa_cons (peg_call G_law_low (hr.mono (by decide)) hg (by rfl) T.g_law_low T.F_law_low.kp T.b_law_low .nil pass0 (pa_cons (pv 0) (pa_cons (pe_tup (pa_cons (pe_op op_add (pe_ix ix_seq (pv 3) pe_int (fun _ _ => rfl)) (pe_ix ix_seq (pv 2) pe_int (fun _ _ => rfl))) (pa_cons (pe_op op_add (pe_ix ix_seq (pv 3) pe_int (fun _ _ => rfl)) (pe_ix ix_seq (pv 2) pe_int (fun _ _ => rfl))) pa_nil))) pa_nil))) (pa_cons (pe_op op_add (pv 4) pe_int) pa_nil)) rfl)))
      (pss_one (ps_ret (pv 4)))))), ?_⟩
    walk_at "go"
    refine do_law_low hv n hu hx hy fun l H1 S1 hl => ?_
    walk_at "go"
    refine r_while (fun m σ H' => ∃ (h : V) (k : Int), σ = [some v, some u, some l, some h, some (.int k)] ∧ Stp none H H' ∧ IT H' h [lowX a b c (k * x) (k * y), lowY c (k * y)] ∧
      IT H' l [lowX a b c x y, lowY c y] ∧ 1 ≤ k ∧ k ≤ a * c ∧ (∀ j, 0 < j → j < k → ¬ InN a b c (j * x) (j * y)) ∧ m = (a * c - k).toNat) ⟨_, l, 1, rfl, by walk_at "st", ?_, hl, by omega, ?_, ?_, rfl⟩ ?_
    · rw [Int.one_mul, Int.one_mul]
      exact hl
    · have := Int.mul_le_mul n1 n2 (by omega) (by omega)
      omega
    · intro j h1 h2
      omega
    · rintro m σ H2 ⟨h, k, rfl, S2, hh, hl2, k1, k2, k3, rfl⟩
      walk_at "go"
      refine r_iteN (fun hne => ?_) (fun he => ?_)
      · obtain ⟨c1, c2, c3, c4, c5, c6⟩ := low_co x y
        obtain ⟨d1, d2, d3, d4, d5, d6⟩ := low_co (k * x) (k * y)
        have nin : ¬ InN a b c (k * x) (k * y) := fun h => hne (by rw [h.1, h.2])
        have kl : k < a * c := by
          rcases Int.lt_or_eq_of_le k2 with h | h
          · exact h
          · rw [h] at nin
            exact absurd (inN_size (by omega) x y) nin
        have st := low_step hc (a := a) (b := b) (k * x) (k * y) x y
        have e1 : k * x + x = (k + 1) * x := by rw [Int.add_mul, Int.one_mul]
        have e2 : k * y + y = (k + 1) * y := by rw [Int.add_mul, Int.one_mul]
        rw [e1, e2] at st
        refine ⟨fun σ' H' => ∃ h : V, σ' = [some v, some u, some l, some h, some (.int (k + 1))] ∧ Stp none H H' ∧ IT H' h [lowX a b c ((k + 1) * x) ((k + 1) * y), lowY c ((k + 1) * y)] ∧
          IT H' l [lowX a b c x y, lowY c y], ?_, ?_⟩
        · rintro σ' H' ⟨h', rfl, T1, T2, T3⟩
          refine ⟨_, ?_, h', k + 1, rfl, T1, T2, T3, by omega, by omega, ?_, rfl⟩
          · omega
          · intro j j1 j2
            by_cases j3 : j < k
            · exact k3 j j1 j3
            · have : j = k := by omega
              rw [this]
              exact nin
        · walk_at "go"
          unfold Co at c1 c2 d1 d2
          refine do_law_low (v := v) (x := lowX a b c (k * x) (k * y) + lowX a b c x y) (y := lowY c (k * y) + lowY c y) (by walk_at "up") n (by walk_at "up") (by unfold Co; omega) (by unfold Co; omega) fun z H4 S4 hz => ?_
          walk_at "go"
          rw [st.1, st.2] at hz
          exact ⟨z, rfl, by walk_at "st", by walk_at "up", by walk_at "up"⟩
      · have hin : InN a b c (k * x) (k * y) := by
          injection he with e1 e2
          injection e2 with e2 _
          exact ⟨e1, e2⟩
        have hk := ord_least (by omega) (by omega) (by omega : 0 < k) hin k3
        walk_at "go"
        rw [hk]
        exact q _ (by walk_at "st")
theorem do_law_steps {a b c : Int} {u : V} (h : IT H v [a, b, c]) (n : Nm a b c) (hu : IT H u [x, y]) (hx : Co x) (hy : Co y)
    (k : ∀ H', Stp none H H' → Q (.int (ord a b c x y)) H') : sp_law_steps [v, u] H Q E := ⟨v, u, a, b, c, x, y, rfl, h, n, hu, hx, hy, k⟩
end
end Law

set_option Elab.async false
set_option linter.all false
set_option maxRecDepth 100000
set_option maxHeartbeats 4000000
namespace Law
open PySem PySem.Spec PyProof.Rows L2 MV
local macro_rules | `(tactic| walk_at "up") => `(tactic| first
  | assumption
  | (refine' IT.mv ?s ?g; (case s => assumption); (case g => walk_at "up"))
  | (refine' IT.k ?g; (case g => walk_at "up"))
  | (refine' IK.mv ?s ?g; (case s => assumption); (case g => walk_at "up"))
  | (refine' Tape.mvN ?s ?g; (case s => assumption); (case g => walk_at "up"))
  | (refine' Tape.mvS ?s ?g; (case s => assumption); (case g => walk_at "up"))
  | (refine' At.tup ?s ?g; (case s => assumption); (case g => walk_at "up"))
  | (refine' At.ins ?s ?g; (case s => assumption); (case g => walk_at "up"))
  | (refine' At.lst ?s ?g; (case s => assumption); (case g => walk_at "up"))
  | (refine' At.lstS ?s ?n ?g; (case s => assumption); (case n => assumption); (case g => walk_at "up"))
  | fail)
local macro_rules | `(tactic| walk_at "st") => `(tactic| first
  | assumption
  | exact Stp.refl _ _
  | (refine' Stp.w ?s; (case s => assumption))
  | (refine' Stp.trans ?g ?s; (case s => (first | assumption | (refine' Stp.w ?u; (case u => assumption)))); (case g => walk_at "st"))
  | fail)
local macro_rules | `(tactic| walk_at "bT") => `(tactic| first
  | decide
  | (simp only [Bool.not_eq_true', Bool.not_eq_false', decide_eq_true_eq, decide_eq_false_iff_not]; omega)
  | fail)
local macro_rules | `(tactic| walk_at "sd") => `(tactic| first | assumption | decide | omega | fail)
local macro_rules | `(tactic| walk_at "r") => `(tactic| first
  | (with_reducible refine r_seq ?_)
  | (with_reducible refine r_asg ?_)
  | ((with_reducible refine' r_var ?h ?k); (case h => rfl))
  | (with_reducible refine r_c ?_)
  | (with_reducible refine r_op ?_)
  | (with_reducible refine r_un ?_)
  | (with_reducible refine r_nil ?_)
  | (with_reducible refine r_cons ?_)
  | (with_reducible refine r_tup ?_)
  | (with_reducible refine r_lst ?_)
  | (with_reducible refine r_cbLen ?_)
  | (with_reducible refine r_cbInt ?_)
  | (with_reducible refine r_cbRepr ?_)
  | (with_reducible refine r_cbTup ?_)
  | (with_reducible refine r_cbLst ?_)
  | (with_reducible refine r_cb ?_)
  | (with_reducible refine r_prop ?_)
  | (with_reducible refine r_andV ?_)
  | (with_reducible refine r_orV ?_)
  | (with_reducible refine r_notV ?_)
  | (with_reducible refine r_chain ?_)
  | (with_reducible refine r_ifE ?_)
  | (with_reducible refine r_test ?_)
  | (with_reducible refine r_B ?_)
  | (with_reducible refine r_and ?_)
  | (with_reducible refine r_or ?_)
  | (with_reducible refine r_not ?_)
  | (with_reducible refine r_yes ?_)
  | (with_reducible refine r_k ?_)
  | (with_reducible refine r_kV ?_)
  | (with_reducible refine r_next ?_)
  | (with_reducible refine r_drop ?_)
  | (with_reducible refine r_ret ?_)
  | (with_reducible refine r_ifS ?_)
  | (with_reducible refine r_par ?_)
  | (with_reducible refine r_par1 ?_)
  | (with_reducible refine r_gname ?_)
  | (with_reducible refine r_gnil ?_)
  | (with_reducible refine r_gcons ?_)
  | ((with_reducible refine' r_unpack2 ?h ?k); (case h => walk_at "up"))
  | ((with_reducible refine' r_unpack3 ?h ?k); (case h => walk_at "up"))
  | (with_reducible refine r_add ?_)
  | (with_reducible refine r_sub ?_)
  | (with_reducible refine r_neg ?_)
  | ((with_reducible refine' r_mod ?h ?k); (case h => walk_at "sd"))
  | ((with_reducible refine' r_div ?h ?k); (case h => walk_at "sd"))
  | ((with_reducible refine' r_mul ?h ?k); (case h => walk_at "sd"))
  | ((with_reducible refine' r_mulW ?h ?k); (case h => walk_at "sd"))
  | ((with_reducible refine' r_pow ?h ?k); (case h => (show (0 : Int) ≤ _ ∧ _ ∧ _; decide)))
  | (with_reducible refine r_lt ?_)
  | (with_reducible refine r_le ?_)
  | (with_reducible refine r_gt ?_)
  | (with_reducible refine r_ge ?_)
  | (with_reducible refine r_eqI ?_)
  | (with_reducible refine r_neI ?_)
  | (with_reducible refine r_eqS ?_)
  | (with_reducible refine r_neS ?_)
  | ((with_reducible refine' r_eqT ?h ?g ?k); (case h => walk_at "up"); (case g => walk_at "up"))
  | ((with_reducible refine' r_neT ?h ?g ?k); (case h => walk_at "up"); (case g => walk_at "up"))
  | ((with_reducible refine' r_ix0 ?h ?k); (case h => walk_at "up"))
  | ((with_reducible refine' r_ix1 ?h ?k); (case h => walk_at "up"))
  | ((with_reducible refine' r_ix2 ?h ?k); (case h => walk_at "up"))
  | (with_reducible refine r_newI2 (fun v H2 S I => ?_))
  | (with_reducible refine r_newI3 (fun v H2 S I => ?_))
  | (with_reducible refine r_newL1 (fun p H2 S hp np => ?_))
  | (with_reducible refine r_newL2 (fun p H2 S hp np => ?_))
  | (with_reducible refine r_newL3 (fun p H2 S hp np => ?_))
  | (with_reducible refine r_T ?_)
  | (with_reducible refine r_F ?_)
  | fail)
local macro_rules | `(tactic| walk_at "go") => `(tactic| repeat (walk_at "r"))
local macro_rules | `(tactic| walk_at "r") => `(tactic| first
  | (with_reducible refine r_call0 ?_)
  | (with_reducible refine r_meth0 ?_)
  | (with_reducible refine r_make0 ?_)
  | (with_reducible refine r_isiII ?_)
  | (with_reducible refine r_isiIB ?_)
  | ((with_reducible refine' r_isiTT ?h ?k); (case h => walk_at "up"))
  | ((with_reducible refine' r_len2 ?h ?k); (case h => walk_at "up"))
  | ((with_reducible refine' r_len3 ?h ?k); (case h => walk_at "up"))
  | ((with_reducible refine' r_lenL ?h ?k); (case h => walk_at "up"))
  | (with_reducible refine r_int1 ?_)
  | (with_reducible refine r_int1B ?_)
  | (with_reducible refine r_nT ?_)
  | (with_reducible refine r_nF ?_)
  | (with_reducible refine r_gcd ?_)
  | (with_reducible refine r_gsub ?_)
  | (with_reducible refine r_fld ?_)
  | (with_reducible refine r_p6 ?_)
  | (with_reducible refine r_p9 ?_)
  | (with_reducible refine r_p10 ?_)
  | (with_reducible refine r_p11 ?_)
  | (with_reducible refine r_p12 ?_)
  | (with_reducible refine r_p18 ?_)
  | (with_reducible refine r_p20 ?_)
  | (with_reducible refine r_p26 ?_)
  | (with_reducible refine r_p27 ?_)
  | (with_reducible refine r_p30 ?_)
  | ((with_reducible refine' r_iF ?h ?k); (case h => walk_at "bT"))
  | ((with_reducible refine' r_iT ?h ?k); (case h => walk_at "bT"))
  | (with_reducible refine r_sfld ?_)
  | (with_reducible refine r_sl ?_)
  | (with_reducible refine r_noPart ?_)
  | (with_reducible refine r_part ?_)
  | (with_reducible refine r_pk ?_)
  | ((with_reducible refine' r_unl2 ?h ?k); (case h => walk_at "up"))
  | ((with_reducible refine' r_ixLi ?h ?h0 ?hn ?k); (case h => walk_at "up"); (case h0 => walk_at "sd"); (case hn => rfl))
  | fail)

local macro_rules | `(tactic| walk_at "r") => `(tactic| with_reducible refine do_is_integer ?_)
local macro_rules | `(tactic| walk_at "r") => `(tactic| first | ((with_reducible refine' do_is_place ?h ?k); (case h => walk_at "up")) | fail)
local macro_rules | `(tactic| walk_at "r") => `(tactic| first | ((with_reducible refine' do_check_place ?h ?k); (case h => walk_at "up")) | fail)
local macro_rules | `(tactic| walk_at "r") => `(tactic| first | ((with_reducible refine' do_are_numbers ?h ?k); (case h => assumption)) | fail)
local macro_rules | `(tactic| walk_at "up") => `(tactic| first | (refine' NA.mv ?s ?g; (case s => assumption); (case g => walk_at "up")) | fail)
local macro_rules | `(tactic| walk_at "r") => `(tactic| first
  | ((with_reducible refine' do_Net_size ?h ?k); (case h => walk_at "up"))
  | ((with_reducible refine' do_meth ?h ?hm ?k); (case h => walk_at "up"); (case hm => decide +kernel))
  | fail)

local macro_rules | `(tactic| walk_at "r") => `(tactic| first | (with_reducible refine r_forL ?_) | fail)
local macro_rules | `(tactic| walk_at "dr") => `(tactic| (refine do_law_draw (by walk_at "up") (by first | decide | omega) (by first | decide | omega) ?_))
section
variable {P : Program} {w : World} {K : PySem.W.Frag} {mg : Str → Option Value} {base : Heap} {ad : Ad} {H : Hp} {Q : VK} {E : XK} {i j x y : Int} {v : V}
theorem mul_bd {x o : Int} {m n : Nat} (h : x.natAbs < m) (h2 : o.natAbs < n) : (x * o).natAbs < m * n := by
  rw [Int.natAbs_mul]
  exact Nat.mul_lt_mul'' h h2
theorem gcdI_zero {c : Int} (h : 0 < c) : gcdI c 0 = c := by
  unfold gcdI
  simp
  omega
theorem ord_axis {a b c f : Int} (ha : 0 < a) (hc : 0 < c) (hf : 0 < f) : ord (a * f) (b * f) (c * f) a 0 = f := by
  have h1 : 0 < c * f := Int.mul_pos hc hf
  have e1 : ordT (c * f) 0 = 1 := by
    unfold ordT
    rw [gcdI_zero h1]
    exact Int.ediv_self (by omega)
  have e2 : ordA (b * f) (c * f) a 0 = a := by
    unfold ordA
    rw [e1, Int.mul_zero, Int.zero_ediv, Int.zero_mul, Int.one_mul, Int.sub_zero]
  have e3 : gcdI (a * f) a = a := by
    unfold gcdI
    rw [Int.natAbs_mul, Nat.gcd_mul_right_left]
    omega
  unfold ord
  rw [e1, e2, e3, Int.one_mul, Int.mul_ediv_cancel_left _ (by omega)]
theorem not_axis {a b c f : Int} (ha : 1 < a) (hf : 0 < f) : ¬ InN (a * f) (b * f) (c * f) f 0 := by
  rintro ⟨h, _⟩
  unfold lowX at h
  rw [Int.zero_ediv, Int.zero_mul, Int.sub_zero] at h
  have : 2 * f ≤ a * f := Int.mul_le_mul_of_nonneg_right (by omega) (by omega)
  rw [Int.emod_eq_of_lt (by omega) (by omega)] at h
  omega
theorem within1 {a b c f : Int} (hc : 0 < c) : InN a b c (a * f) 0 := by
  rw [inN_iff]
  rw [Int.zero_ediv, Int.zero_mul, Int.sub_zero]
  exact ⟨Int.dvd_zero _, ⟨f, rfl⟩⟩
theorem within2 {a b c f : Int} (hc : 0 < c) : InN a b c (b * f) (c * f) := by
  rw [inN_iff, Int.mul_ediv_cancel_left _ (by omega)]
  refine ⟨⟨f, rfl⟩, ?_⟩
  rw [Int.mul_comm b f, Int.sub_self]
  exact Int.dvd_zero _

def sp_law (K : PySem.W.Frag) : Sp := fun vs H Q _ => ∃ (l : Addr) (ns : List Int), vs = [.ref l] ∧ SqL K H l (ns.map V.int) ∧ ∀ H', Q (.bl true) H'
theorem sp_start (K : PySem.W.Frag) (H : Hp) (a : Addr) (ns : List Int) (hl : ns.length ≤ 63) (hS : SqL K H a (ns.map V.int)) : sp_law K [.ref a] H (fun v _ => v = .bl true) fun _ _ _ => False :=
  ⟨a, ns, rfl, hS, fun _ => rfl⟩
theorem ok_law (T : Txt K mg ad) : FnG P w K mg base CX0 7 ad.law ad.law_d P_law (sp_law K) := by
  have G_law_tape := ok_law_tape (P := P) (w := w) (base := base) T
  have G_law_draw := ok_law_draw (P := P) (w := w) (base := base) T
  have G_law_place := ok_law_place (P := P) (w := w) (base := base) T
  have G_law_net := ok_law_net (P := P) (w := w) (base := base) T
  have G_law_steps := ok_law_steps (P := P) (w := w) (base := base) T
  have G_Net_init := ok_Net_init (P := P) (w := w) (base := base) T
  have G_Net_order := ok_Net_order (P := P) (w := w) (base := base) T
  have G_Net_contains := ok_Net_contains (P := P) (w := w) (base := base) T
  have G_Net_is_within := ok_Net_is_within (P := P) (w := w) (base := base) T
  have G_Net_scaled := ok_Net_scaled (P := P) (w := w) (base := base) T
  have G_Net_numbers := ok_Net_numbers (P := P) (w := w) (base := base) T
  have G_Net_size := ok_Net_size (P := P) (w := w) (base := base) T
  have G_Net_eq := ok_Net_eq (P := P) (w := w) (base := base) T
  refine Fun.gn T.F_law sc_law (fun vs H Q E h => ?_) (fun cdv A outer s H vs Q E hr hg h => ?_)
  · obtain ⟨l, ns, rfl, _⟩ := h
    rfl
  · obtain ⟨l, ns, rfl, hl, q⟩ := h
    refine ⟨_, (pss_cons (ps_set (i := 1) sc_law.nd rfl (Or.inl rfl) (peg_call G_law_tape (hr.mono (by decide)) hg (by rfl) T.g_law_tape T.F_law_tape.kp T.b_law_tape .nil pass0 (pa_cons (pv 0) pa_nil)))
      (pss_cons (ps_for PassesOwn.never rfl (pi_range1 rfl T.z_range (pa_cons pe_int pa_nil)) (pg_name (i := 2) sc_law.nd rfl (Or.inl rfl))
      (pss_cons (ps_set (i := 3) sc_law.nd rfl (Or.inl rfl) (peg_call G_law_net (hr.mono (by decide)) hg (by rfl) T.g_law_net T.F_law_net.kp T.b_law_net .nil pass0 (pa_cons (pv 1) (pa_cons pe_int pa_nil))))
      (pss_cons (ps_set (i := 4) sc_law.nd rfl (Or.inl rfl) (peg_make T.k_Net G_Net_init (hr.mono (by decide)) hg (by rfl) T.g_Net T.b_Net_init .nil pass0 (pa_cons (pe_ix ix_seq (pv 3) pe_int (fun _ _ => rfl)) (pa_cons (pe_ix ix_seq (pv 3) pe_int (fun _ _ => rfl)) (pa_cons (pe_ix ix_seq (pv 3) pe_int (fun _ _ => rfl)) pa_nil)))))
      (pss_cons (ps_for PassesOwn.never rfl (pi_list (pe_lst (pa_cons (peg_call G_law_place (hr.mono (by decide)) hg (by rfl) T.g_law_place T.F_law_place.kp T.b_law_place .nil pass0 (pa_cons (pv 1) pa_nil)) (pa_cons (peg_call G_law_place (hr.mono (by decide)) hg (by rfl) T.g_law_place T.F_law_place.kp T.b_law_place .nil pass0 (pa_cons (pv 1) pa_nil)) (pa_cons (pe_tup (pa_cons pe_int (pa_cons pe_int pa_nil))) (pa_cons (pe_tup (pa_cons pe_int (pa_cons pe_int pa_nil))) (pa_cons (pe_tup (pa_cons pe_int (pa_cons pe_int pa_nil))) pa_nil))))))) (pg_name (i := 5) sc_law.nd rfl (Or.inl rfl))
      (pss_cons (ps_set (i := 6) sc_law.nd rfl (Or.inl rfl) (peg_call G_law_steps (hr.mono (by decide)) hg (by rfl) T.g_law_steps T.F_law_steps.kp T.b_law_steps .nil pass0 (pa_cons (pv 3) (pa_cons (pv 5) pa_nil))))
      (pss_cons (ps_if (PW.pt (pw_or (pt_cmpR op_ne (pe_callB SkE.call_repr_int (by rfl) T.z_repr (by decide +kernel) (pa_cons (peg_meth (pv 4) T.cl_Net T.m_Net_order G_Net_order (hr.mono (by decide)) hg T.b_Net_order .nil pass0 (pa_cons (pv 5) pa_nil)) pa_nil)) (pe_callB SkE.call_repr_int (by rfl) T.z_repr (by decide +kernel) (pa_cons (pv 6) pa_nil)) (nomark _)) (pw_or1 (pt_cmpR op_ne (pe_op op_mod (peg_prop (pv 4) T.cl_Net T.p_Net_size G_Net_size (hr.mono (by decide)) hg T.b_Net_size .nil pass0) (pv 6)) pe_int (nomark _)))))
      (pss_one (ps_ret pe_bl)) pss_nil)
      (pss_cons (ps_if (pt_cmpR (opg_notIn T.h_Net G_Net_contains (hr.mono (by decide)) hg T.b_Net_contains pass0) (pe_tup (pa_cons (pe_op op_mulW (pe_ix ix_seq (pv 5) pe_int (fun _ _ => rfl)) (pv 6)) (pa_cons (pe_op op_mulW (pe_ix ix_seq (pv 5) pe_int (fun _ _ => rfl)) (pv 6)) pa_nil))) (pv 4) (by rfl))
      (pss_one (ps_ret pe_bl)) pss_nil)
      (pss_one (ps_if (pt_cmpR op_ne (peg_meth (pv 4) T.cl_Net T.m_Net_order G_Net_order (hr.mono (by decide)) hg T.b_Net_order .nil pass0 (pa_cons (pe_tup (pa_cons (pe_op op_sub pe_int (pe_ix ix_seq (pv 5) pe_int (fun _ _ => rfl))) (pa_cons (pe_op op_sub pe_int (pe_ix ix_seq (pv 5) pe_int (fun _ _ => rfl))) pa_nil))) pa_nil)) (pv 6) (nomark _))
      (pss_one (ps_ret pe_bl)) pss_nil))))))
      (pss_cons (ps_set (i := 7) sc_law.nd rfl (Or.inr rfl) (pe_op op_add pe_int (pe_ix ix_seq (pe_lst (pa_cons (peg_call G_law_draw (hr.mono (by decide)) hg (by rfl) T.g_law_draw T.F_law_draw.kp T.b_law_draw .nil pass0 (pa_cons (pv 1) (pa_cons pe_int pa_nil))) (pa_cons (pe_op op_mulW (peg_call G_law_draw (hr.mono (by decide)) hg (by rfl) T.g_law_draw T.F_law_draw.kp T.b_law_draw .nil pass0 (pa_cons (pv 1) (pa_cons (pe_op op_pow pe_int pe_int) pa_nil))) (pe_op op_pow pe_int pe_int)) pa_nil))) (peg_call G_law_draw (hr.mono (by decide)) hg (by rfl) T.g_law_draw T.F_law_draw.kp T.b_law_draw .nil pass0 (pa_cons (pv 1) (pa_cons pe_int pa_nil))) (fun _ _ => rfl))))
      (pss_cons (ps_set (i := 8) sc_law.nd rfl (Or.inl rfl) (peg_meth (pv 4) T.cl_Net T.m_Net_scaled G_Net_scaled (hr.mono (by decide)) hg T.b_Net_scaled .nil pass0 (pa_cons (pv 7) pa_nil)))
      (pss_cons (ps_if (PW.pt (pw_or (pt_cmpR (op_neD hr.units) (peg_prop (pv 8) T.cl_Net T.p_Net_numbers G_Net_numbers (hr.mono (by decide)) hg T.b_Net_numbers .nil pass0) (pe_callTy call_tuple_of (by rfl) T.z_tuple (by decide +kernel) (pa_cons (pe_lc (own := [("_law_number", 9)]) (g := gName 9) (tt := tYes) rfl sc_law.nd (pi_tup (pv 3)) (blkOk_by (own := [("_law_number", 9)]) (N := N_law) (sc := defScope s_law) (by decide +kernel)) (fun _ _ _ _ _ => (pg_name (i := 9) sc_law.nd rfl (Or.inl rfl))) (fun _ _ _ _ _ => pts_nil) (fun _ _ _ _ _ => (pe_op op_mulW (pv 9) (pv 7))) ) pa_nil)) (nomark _)) (pw_or1 (pt_not (pt_val (peg_meth (pv 8) T.cl_Net T.m_Net_is_within G_Net_is_within (hr.mono (by decide)) hg T.b_Net_is_within .nil pass0 (pa_cons (pv 4) pa_nil)))))))
      (pss_one (ps_ret pe_bl)) pss_nil)
      (pss_cons (ps_if (pt_cmpR op_ne (peg_prop (pv 8) T.cl_Net T.p_Net_size G_Net_size (hr.mono (by decide)) hg T.b_Net_size .nil pass0) (pe_op op_mulW (pe_op op_mulW (peg_prop (pv 4) T.cl_Net T.p_Net_size G_Net_size (hr.mono (by decide)) hg T.b_Net_size .nil pass0) (pv 7)) (pv 7)) (nomark _))
      (pss_one (ps_ret pe_bl)) pss_nil)
      (pss_cons (ps_if (PW.pt (pw_and (pt_cmpR op_gt (pe_ix ix_seq (pv 3) pe_int (fun _ _ => rfl)) pe_int (nomark _)) (pw_and1 (pt_cmpR (opg_in T.h_Net G_Net_contains (hr.mono (by decide)) hg T.b_Net_contains pass0) (pe_tup (pa_cons (pv 7) (pa_cons pe_int pa_nil))) (pv 8) (by rfl)))))
      (pss_one (ps_ret pe_bl)) pss_nil)
      (pss_one (ps_if (PW.pt (pw_or (pt_cmpR (op_neD hr.units) (peg_prop (pv 4) T.cl_Net T.p_Net_numbers G_Net_numbers (hr.mono (by decide)) hg T.b_Net_numbers .nil pass0) (pv 3) (nomark _)) (pw_or (pt_cmpR op_ne (peg_meth (pv 8) T.cl_Net T.m_Net_order G_Net_order (hr.mono (by decide)) hg T.b_Net_order .nil pass0 (pa_cons (pe_tup (pa_cons (pe_ix ix_seq (pv 3) pe_int (fun _ _ => rfl)) (pa_cons pe_int pa_nil))) pa_nil)) (pv 7) (nomark _)) (pw_or1 (pt_cmpR (opg_ne T.e_Net G_Net_eq (hr.mono (by decide)) hg T.b_Net_eq pass0) (peg_meth (pv 4) T.cl_Net T.m_Net_scaled G_Net_scaled (hr.mono (by decide)) hg T.b_Net_scaled .nil pass0 (pa_cons pe_int pa_nil)) (pv 4) (nomark _))))))
      (pss_one (ps_ret pe_bl)) pss_nil)))))))))))
      (pss_one (ps_ret pe_bl)))), ?_⟩
    walk_at "go"
    refine do_law_tape hl fun t H1 S1 nt hT => ?_
    walk_at "go"
    refine r_forRc ⟨4, fun i σ H' => ∃ z2 z3 z4 z5 z6 z7 z8 z9, σ = [some (.ref l), some (.ref t), z2, z3, z4, z5, z6, z7, z8, z9] ∧ Tape H' t, rfl, by decide,
      ⟨none, none, none, none, none, none, none, none, rfl, hT⟩, ?_, ?_⟩
    · rintro i σ H2 _ ⟨z2, z3, z4, z5, z6, z7, z8, z9, rfl, hT2⟩
      walk_at "go"
      refine do_law_net (by walk_at "up") (by decide) (by decide) fun nv a b c H3 n ha hc hac S3 hn => ?_
      have n' := n
      obtain ⟨n1, n2, n3, n4, n5, n6⟩ := n'
      walk_at "go"
      refine do_Net n fun m H4 S4 hm => ?_
      walk_at "go"
      refine do_law_place (by walk_at "up") fun v1 x1 y1 H5 b1 b2 b3 b4 S5 i1 => ?_
      walk_at "go"
      refine do_law_place (by walk_at "up") fun v2 x2 y2 H6 b5 b6 b7 b8 S6 i2 => ?_
      walk_at "go"
      rename_i w1 K1 T1 j1 w2 K2 T2 j2 w3 K3 T3 j3
      refine r_newL (sz100 (Nat.le_of_ble_eq_true rfl)) fun p K4 T4 hp np => ?_
      have hT4 : Tape K4 t := by walk_at "up"
      have hn4 : IT K4 nv [a, b, c] := by walk_at "up"
      have hm4 : NA ad.C_Net K4 m a b c := by walk_at "up"
      have hi1 : IT K4 v1 [x1, y1] := by walk_at "up"
      have hi2 : IT K4 v2 [x2, y2] := by walk_at "up"
      have hi3 : IT K4 w1 [0, 0] := by walk_at "up"
      have hi4 : IT K4 w2 [1, 0] := by walk_at "up"
      have hi5 : IT K4 w3 [0, 1] := by walk_at "up"
      refine ForL.ok ⟨p, _, fun _ σ H' => ∃ z5 z6, σ = [some (.ref l), some (.ref t), some (.int i), some nv, some m, z5, z6, z7, z8, z9] ∧ Stp none K4 H', rfl,
        ⟨z5, z6, rfl, Stp.refl _ _⟩, fun _ σ H' _ ⟨_, _, _, s⟩ => s.all _ _ hp, ?_, ?_⟩
      · rintro k v' σ H' hx ⟨z5, z6, rfl, sH⟩
        have hv : ∃ x y, IT H' v' [x, y] ∧ (-10 ^ 26 < x ∧ x < 10 ^ 26 ∧ -10 ^ 26 < y ∧ y < 10 ^ 26) := by
          match k, hx with
          | 0, hx => cases hx; exact ⟨x1, y1, hi1.mv sH, b1, b2, b3, b4⟩
          | 1, hx => cases hx; exact ⟨x2, y2, hi2.mv sH, b5, b6, b7, b8⟩
          | 2, hx => cases hx; exact ⟨0, 0, hi3.mv sH, by decide⟩
          | 3, hx => cases hx; exact ⟨1, 0, hi4.mv sH, by decide⟩
          | 4, hx => cases hx; exact ⟨0, 1, hi5.mv sH, by decide⟩
        obtain ⟨x, y, iv, c1, c2, c3, c4⟩ := hv
        have o0 := ord_pos (by omega) (by omega) b x y (a := a) (c := c)
        have od := ord_dvd_size (by omega) (by omega) x y (a := a) (b := b) (c := c)
        have op : 0 < a * c := Int.mul_pos (by omega) (by omega)
        have o1 : ord a b c x y ≤ a * c := Int.le_of_dvd op od
        have o2 : a * c % ord a b c x y = 0 := Int.emod_eq_zero_of_dvd od
        have o3 : InN a b c (x * ord a b c x y) (y * ord a b c x y) := by
          rw [Int.mul_comm x, Int.mul_comm y]
          exact (inN_mul (by omega) (by omega) x y _).mpr (Int.dvd_refl _)
        have o4 : ord a b c (0 - x) (0 - y) = ord a b c x y := by
          rw [Int.zero_sub, Int.zero_sub]
          exact ord_neg (by omega) (by omega) x y
        generalize ho : ord a b c x y = o at o0 od o1 o2 o3 o4
        have hN : NA ad.C_Net H' m a b c := hm4.mv sH
        have hA : IT H' nv [a, b, c] := hn4.mv sH
        have cx : Co x := by unfold Co; omega
        have cy : Co y := by unfold Co; omega
        have cx' : Co (0 - x) := by unfold Co; omega
        have cy' : Co (0 - y) := by unfold Co; omega
        walk_at "go"
        refine do_law_steps (by walk_at "up") n (by walk_at "up") cx cy fun J1 U1 => ?_
        rw [ho]
        walk_at "go"
        refine do_Net_order (by walk_at "up") (by walk_at "up") cx cy ?_
        rw [ho]
        walk_at "go"
        refine r_reprI (log2_of (by omega)) ?_
        walk_at "go"
        refine r_reprI (log2_of (by omega)) ?_
        walk_at "go"
        refine r_nX rfl ?_
        have xo := mul_bd (x := x) (o := o) (m := 10 ^ 26) (n := 41) (by omega) (by omega)
        have yo := mul_bd (x := y) (o := o) (m := 10 ^ 26) (n := 41) (by omega) (by omega)
        have m1 : CMulW x o := mulW_of (by omega) (by omega)
        have m2 : CMulW y o := mulW_of (by omega) (by omega)
        walk_at "go"
        refine do_notIn (by walk_at "up") (by walk_at "up") (by unfold Co; omega) (by unfold Co; omega) fun J2 U2 => ?_
        walk_at "go"
        refine do_Net_order (by walk_at "up") (by walk_at "up") cx' cy' ?_
        walk_at "go"
        exact ⟨_, _, rfl, by walk_at "st"⟩
      · rintro σ H' ⟨z5, z6, rfl, sH⟩
        walk_at "go"
        walk_at "dr"
        intro r1 J1 a1 a2 U1
        walk_at "go"
        walk_at "dr"
        intro r2 J2 a3 a4 U2
        walk_at "go"
        refine r_mulW (mulW_of (by omega) (by decide)) ?_
        walk_at "go"
        rename_i p1 J3 U3 hp1 np1
        have nt1 : p1 ≠ t := by
          intro e
          have T5 : Tape J2 t := by walk_at "up"
          obtain ⟨_, _, _, _, _, _, h, _⟩ := T5
          rw [← e, np1] at h
          cases h
        walk_at "dr"
        intro r3 J4 a5 a6 U4
        have hz : ∃ u, [V.int r1, V.int (r2 * 100000000000)][r3.toNat]? = some (V.int u) ∧ 0 ≤ u ∧ u ≤ 10 ^ 20 := by
          have : r3 = 0 ∨ r3 = 1 := by omega
          rcases this with rfl | rfl
          · exact ⟨r1, rfl, by omega, by omega⟩
          · exact ⟨r2 * 100000000000, rfl, by omega, by omega⟩
        obtain ⟨u, hu, u0, u1⟩ := hz
        have hp4 : J4 p1 = some (.lst [V.int r1, V.int (r2 * 100000000000)]) := At.lstS U4 nt1 hp1
        refine r_ixLi hp4 a5 hu ?_
        walk_at "go"
        have f1 : 1 ≤ 1 + u := by omega
        have f2 : 1 + u ≤ 10 ^ 21 := by omega
        generalize 1 + u = f at f1 f2
        have af : a * f ≤ 40 * 10 ^ 21 := Int.mul_le_mul ha f2 (by omega) (by decide)
        have cf : c * f ≤ 40 * 10 ^ 21 := Int.mul_le_mul hc f2 (by omega) (by decide)
        have af0 : 0 < a * f := Int.mul_pos (by omega) (by omega)
        have cf0 : 0 < c * f := Int.mul_pos (by omega) (by omega)
        have ac0 : 0 < a * c := Int.mul_pos (by omega) (by omega)
        have acf := mul_bd (x := a * c) (o := f) (m := 41) (n := 10 ^ 21 + 1) (by omega) (by omega)
        have q1 : CMulW (a * c) f := mulW_of (by omega) (by omega)
        have q2 : CMulW (a * c * f) f := mulW_of (by omega) (by omega)
        have sz : a * f * (c * f) = a * c * f * f := by
          rw [Int.mul_assoc a f, Int.mul_left_comm f c f, ← Int.mul_assoc a c, Int.mul_assoc (a * c)]
        have ca : Co a := by unfold Co; omega
        have c0 : Co 0 := by unfold Co; omega
        have cf' : Co f := by unfold Co; omega
        refine do_Net_scaled (by walk_at "up") f1 (by omega) (by omega) fun L J5 U5 hL => ?_
        walk_at "go"
        refine do_Net_numbers (by walk_at "up") fun w4 g4 => ?_
        walk_at "go"
        refine r_lcV rfl ⟨[a, b, c], fun n => n * f, by walk_at "up", Nat.le_of_ble_eq_true rfl, fun k H' hk s => ⟨rfl, fun Q hq => ?_⟩, fun p2 J6 U6 hp2 np2 => ?_⟩
        · have m1 : CMulW k f := mulW_of (by
            simp only [List.mem_cons, List.not_mem_nil, or_false] at hk
            omega) (by omega)
          walk_at "go"
          exact hq
        walk_at "go"
        refine r_tupL hp2 fun w5 J7 U7 g5 => ?_
        walk_at "go"
        refine r_nX rfl ?_
        walk_at "go"
        refine do_Net_is_within (by walk_at "up") (by walk_at "up") fun J8 U8 => ?_
        rw [decide_eq_true (within1 (by omega)), decide_eq_true (within2 (by omega)), Bool.and_self]
        walk_at "go"
        refine r_ite (fun h1 => ?_) (fun h1 => ?_)
        · walk_at "go"
          refine do_in (by walk_at "up") (by walk_at "up") cf' c0 fun J9 U9 => ?_
          walk_at "go"
          refine r_pN (not_axis h1 (by omega)) ?_
          walk_at "go"
          refine do_Net_numbers (by walk_at "up") fun w5 g5 => ?_
          walk_at "go"
          refine r_nX rfl ?_
          walk_at "go"
          refine do_Net_order (by walk_at "up") (by walk_at "up") ca c0 ?_
          rw [ord_axis (by omega) (by omega) (by omega)]
          walk_at "go"
          refine r_nX rfl ?_
          walk_at "go"
          refine do_Net_scaled (by walk_at "up") (by decide) (by omega) (by omega) fun z J9 U9 hz => ?_
          walk_at "go"
          rw [Int.mul_one, Int.mul_one, Int.mul_one] at hz
          refine do_ne T.i_Net T.cl_Net (by walk_at "up") (by walk_at "up") ?_
          walk_at "go"
          refine r_nX rfl ?_
          walk_at "go"
          exact ⟨_, _, _, _, _, _, _, _, rfl, by walk_at "up"⟩
        · walk_at "go"
          refine do_Net_numbers (by walk_at "up") fun w5 g5 => ?_
          walk_at "go"
          refine r_nX rfl ?_
          walk_at "go"
          refine do_Net_order (by walk_at "up") (by walk_at "up") ca c0 ?_
          rw [ord_axis (by omega) (by omega) (by omega)]
          walk_at "go"
          refine r_nX rfl ?_
          walk_at "go"
          refine do_Net_scaled (by walk_at "up") (by decide) (by omega) (by omega) fun z J9 U9 hz => ?_
          walk_at "go"
          rw [Int.mul_one, Int.mul_one, Int.mul_one] at hz
          refine do_ne T.i_Net T.cl_Net (by walk_at "up") (by walk_at "up") ?_
          walk_at "go"
          refine r_nX rfl ?_
          walk_at "go"
          exact ⟨_, _, _, _, _, _, _, _, rfl, by walk_at "up"⟩
    · rintro σ H2 ⟨z2, z3, z4, z5, z6, z7, z8, z9, rfl, hT2⟩
      walk_at "go"
      exact q _
end
end Law

set_option Elab.async false
set_option linter.all false
set_option maxRecDepth 100000
set_option maxHeartbeats 4000000
namespace Law
open PySem PySem.Spec PyProof.Rows L2 MV
local macro_rules | `(tactic| walk_at "mv_vals") => `(tactic| repeat first | exact Paired.nil | refine Paired.cons ?_ ?_ | exact rfl | exact ⟨_, rfl⟩)
local macro_rules | `(tactic| walk_at "mv_kt") => `(tactic| (refine' MV.kt_mk ?h ?z ?v; (case h => k_is); (case z => decide +kernel); (case v => walk_at "mv_vals")))
local macro_rules | `(tactic| walk_at "mv_lit") => `(tactic| repeat first | exact True.intro | refine ⟨⟨_, _, rfl, rfl⟩, ?_⟩)
local macro_rules | `(tactic| walk_at "mv_kd") => `(tactic| (refine' MV.kd_mk ?h ?l ?n ?v; (case h => k_is); (case n => k_is); (case l => walk_at "mv_lit"); (case v => first | exact rfl | exact ⟨_, rfl⟩)))
local macro_rules | `(tactic| walk_at "mv_kk") => `(tactic| (refine' MV.kk_mk ?h ?n ?v; (case h => k_is); (case n => decide +kernel); (case v => walk_at "mv_vals")))
local macro_rules | `(tactic| walk_at "mv_bind") => `(tactic| (refine ⟨?k, ?h, ?g⟩; (case h => (unfold bindArgs; dsimp only; rw [List.forIn_nil, pure_bind])); (case g => exact rfl)))
theorem all_mk {K : PySem.W.Frag} {h : Heap} {mg : Str → Option Value} {fa : Addr} (X : K.In h) (G : h.Ns mainGlobals mg) (hfa : mg "law" = some (.ref fa))
    {C_Net : Addr}
    {is_integer : Addr} {od_is_integer an_is_integer : Option Addr} {sl_is_integer : Array (Option Value)} {oc_is_integer kV_is_integer dc_is_integer pm_is_integer cd_is_integer ct_is_integer : Value}
    {is_place : Addr} {od_is_place an_is_place : Option Addr} {sl_is_place : Array (Option Value)} {oc_is_place kV_is_place dc_is_place pm_is_place cd_is_place ct_is_place : Value}
    {check_place : Addr} {od_check_place an_check_place : Option Addr} {sl_check_place : Array (Option Value)} {oc_check_place kV_check_place dc_check_place pm_check_place cd_check_place ct_check_place : Value}
    {check_positive : Addr} {od_check_positive an_check_positive : Option Addr} {sl_check_positive : Array (Option Value)} {oc_check_positive kV_check_positive dc_check_positive pm_check_positive cd_check_positive ct_check_positive : Value}
    {are_numbers : Addr} {od_are_numbers an_are_numbers : Option Addr} {sl_are_numbers : Array (Option Value)} {oc_are_numbers kV_are_numbers dc_are_numbers pm_are_numbers cd_are_numbers ct_are_numbers : Value}
    {two_shifts : Addr} {od_two_shifts an_two_shifts : Option Addr} {sl_two_shifts : Array (Option Value)} {oc_two_shifts kV_two_shifts dc_two_shifts pm_two_shifts cd_two_shifts ct_two_shifts : Value}
    {Net_init : Addr} {od_Net_init an_Net_init : Option Addr} {sl_Net_init : Array (Option Value)} {oc_Net_init kV_Net_init dc_Net_init pm_Net_init cd_Net_init ct_Net_init : Value}
    {Net_numbers : Addr} {od_Net_numbers an_Net_numbers : Option Addr} {sl_Net_numbers : Array (Option Value)} {oc_Net_numbers kV_Net_numbers dc_Net_numbers pm_Net_numbers cd_Net_numbers ct_Net_numbers : Value}
    {p_Net_numbers : Addr} {r_Net_numbers : List Value}
    {Net_size : Addr} {od_Net_size an_Net_size : Option Addr} {sl_Net_size : Array (Option Value)} {oc_Net_size kV_Net_size dc_Net_size pm_Net_size cd_Net_size ct_Net_size : Value}
    {p_Net_size : Addr} {r_Net_size : List Value}
    {Net_contains : Addr} {od_Net_contains an_Net_contains : Option Addr} {sl_Net_contains : Array (Option Value)} {oc_Net_contains kV_Net_contains dc_Net_contains pm_Net_contains cd_Net_contains ct_Net_contains : Value}
    {home : Addr} {od_home an_home : Option Addr} {sl_home : Array (Option Value)} {oc_home kV_home dc_home pm_home cd_home ct_home : Value}
    {Net_reduced : Addr} {od_Net_reduced an_Net_reduced : Option Addr} {sl_Net_reduced : Array (Option Value)} {oc_Net_reduced kV_Net_reduced dc_Net_reduced pm_Net_reduced cd_Net_reduced ct_Net_reduced : Value}
    {Net_order : Addr} {od_Net_order an_Net_order : Option Addr} {sl_Net_order : Array (Option Value)} {oc_Net_order kV_Net_order dc_Net_order pm_Net_order cd_Net_order ct_Net_order : Value}
    {Net_is_within : Addr} {od_Net_is_within an_Net_is_within : Option Addr} {sl_Net_is_within : Array (Option Value)} {oc_Net_is_within kV_Net_is_within dc_Net_is_within pm_Net_is_within cd_Net_is_within ct_Net_is_within : Value}
    {Net_scaled : Addr} {od_Net_scaled an_Net_scaled : Option Addr} {sl_Net_scaled : Array (Option Value)} {oc_Net_scaled kV_Net_scaled dc_Net_scaled pm_Net_scaled cd_Net_scaled ct_Net_scaled : Value}
    {Net_eq : Addr} {od_Net_eq an_Net_eq : Option Addr} {sl_Net_eq : Array (Option Value)} {oc_Net_eq kV_Net_eq dc_Net_eq pm_Net_eq cd_Net_eq ct_Net_eq : Value}
    {law_tape : Addr} {od_law_tape an_law_tape : Option Addr} {sl_law_tape : Array (Option Value)} {oc_law_tape kV_law_tape dc_law_tape pm_law_tape cd_law_tape ct_law_tape : Value}
    {law_draw : Addr} {od_law_draw an_law_draw : Option Addr} {sl_law_draw : Array (Option Value)} {oc_law_draw kV_law_draw dc_law_draw pm_law_draw cd_law_draw ct_law_draw : Value}
    {law_great : Addr} {od_law_great an_law_great : Option Addr} {sl_law_great : Array (Option Value)} {oc_law_great kV_law_great dc_law_great pm_law_great cd_law_great ct_law_great : Value}
    {law_place : Addr} {od_law_place an_law_place : Option Addr} {sl_law_place : Array (Option Value)} {oc_law_place kV_law_place dc_law_place pm_law_place cd_law_place ct_law_place : Value}
    {law_low : Addr} {od_law_low an_law_low : Option Addr} {sl_law_low : Array (Option Value)} {oc_law_low kV_law_low dc_law_low pm_law_low cd_law_low ct_law_low : Value}
    {law_net : Addr} {od_law_net an_law_net : Option Addr} {sl_law_net : Array (Option Value)} {oc_law_net kV_law_net dc_law_net pm_law_net cd_law_net ct_law_net : Value}
    {law_steps : Addr} {od_law_steps an_law_steps : Option Addr} {sl_law_steps : Array (Option Value)} {oc_law_steps kV_law_steps dc_law_steps pm_law_steps cd_law_steps ct_law_steps : Value}
    {law : Addr} {od_law an_law : Option Addr} {sl_law : Array (Option Value)} {oc_law kV_law dc_law pm_law cd_law ct_law : Value}
    (a_Net : PySem.W.nsIn K mainGlobals "Net" = some (some (.ref C_Net)))
    (pg_Net : PySem.W.plainGet K C_Net Str.empty = true)
    (hd_Net : PySem.W.hasDictIn K C_Net = true)
    (po_Net : PySem.W.plainOver K C_Net = true)
    (sa_Net : PySem.W.findIn K (.ref C_Net) "__setattr__" = some (some (.builtin "object.__setattr__")))
    (mk_Net : PySem.W.makesIn K C_Net = true)
    (kc_Net : PySem.W.keepIn K (.ref C_Net) = true)
    (a_is_integer : PySem.W.nsIn K mainGlobals "is_integer" = some (some (.ref is_integer)))
    (l_is_integer : K.lookup is_integer = some ⟨oc_is_integer, od_is_integer, .func (PySem.W.fnOf "is_integer" "is_integer" (defArgs s_is_integer) (defBody s_is_integer) (defScope s_is_integer) .none kV_is_integer dc_is_integer pm_is_integer an_is_integer cd_is_integer ct_is_integer), sl_is_integer⟩)
    (c_is_integer : PySem.W.codeIn K cd_is_integer "is_integer" = true)
    (k_is_integer : PySem.W.keepIn K (.ref is_integer) = true)
    (a_is_place : PySem.W.nsIn K mainGlobals "is_place" = some (some (.ref is_place)))
    (l_is_place : K.lookup is_place = some ⟨oc_is_place, od_is_place, .func (PySem.W.fnOf "is_place" "is_place" (defArgs s_is_place) (defBody s_is_place) (defScope s_is_place) .none kV_is_place dc_is_place pm_is_place an_is_place cd_is_place ct_is_place), sl_is_place⟩)
    (c_is_place : PySem.W.codeIn K cd_is_place "is_place" = true)
    (k_is_place : PySem.W.keepIn K (.ref is_place) = true)
    (a_check_place : PySem.W.nsIn K mainGlobals "check_place" = some (some (.ref check_place)))
    (l_check_place : K.lookup check_place = some ⟨oc_check_place, od_check_place, .func (PySem.W.fnOf "check_place" "check_place" (defArgs s_check_place) (defBody s_check_place) (defScope s_check_place) .none kV_check_place dc_check_place pm_check_place an_check_place cd_check_place ct_check_place), sl_check_place⟩)
    (c_check_place : PySem.W.codeIn K cd_check_place "check_place" = true)
    (k_check_place : PySem.W.keepIn K (.ref check_place) = true)
    (a_check_positive : PySem.W.nsIn K mainGlobals "check_positive" = some (some (.ref check_positive)))
    (l_check_positive : K.lookup check_positive = some ⟨oc_check_positive, od_check_positive, .func (PySem.W.fnOf "check_positive" "check_positive" (defArgs s_check_positive) (defBody s_check_positive) (defScope s_check_positive) .none kV_check_positive dc_check_positive pm_check_positive an_check_positive cd_check_positive ct_check_positive), sl_check_positive⟩)
    (c_check_positive : PySem.W.codeIn K cd_check_positive "check_positive" = true)
    (k_check_positive : PySem.W.keepIn K (.ref check_positive) = true)
    (a_are_numbers : PySem.W.nsIn K mainGlobals "are_numbers" = some (some (.ref are_numbers)))
    (l_are_numbers : K.lookup are_numbers = some ⟨oc_are_numbers, od_are_numbers, .func (PySem.W.fnOf "are_numbers" "are_numbers" (defArgs s_are_numbers) (defBody s_are_numbers) (defScope s_are_numbers) .none kV_are_numbers dc_are_numbers pm_are_numbers an_are_numbers cd_are_numbers ct_are_numbers), sl_are_numbers⟩)
    (c_are_numbers : PySem.W.codeIn K cd_are_numbers "are_numbers" = true)
    (k_are_numbers : PySem.W.keepIn K (.ref are_numbers) = true)
    (a_two_shifts : PySem.W.nsIn K mainGlobals "two_shifts" = some (some (.ref two_shifts)))
    (l_two_shifts : K.lookup two_shifts = some ⟨oc_two_shifts, od_two_shifts, .func (PySem.W.fnOf "two_shifts" "two_shifts" (defArgs s_two_shifts) (defBody s_two_shifts) (defScope s_two_shifts) .none kV_two_shifts dc_two_shifts pm_two_shifts an_two_shifts cd_two_shifts ct_two_shifts), sl_two_shifts⟩)
    (c_two_shifts : PySem.W.codeIn K cd_two_shifts "two_shifts" = true)
    (k_two_shifts : PySem.W.keepIn K (.ref two_shifts) = true)
    (a_Net_init : PySem.W.findIn K (.ref C_Net) "__init__" = some (some (.ref Net_init)))
    (i_Net_init : PySem.W.isFn K (.ref Net_init) = true)
    (l_Net_init : K.lookup Net_init = some ⟨oc_Net_init, od_Net_init, .func (PySem.W.fnOf "__init__" "Net.__init__" (defArgs s_Net_init) (defBody s_Net_init) (defScope s_Net_init) .none kV_Net_init dc_Net_init pm_Net_init an_Net_init cd_Net_init ct_Net_init), sl_Net_init⟩)
    (c_Net_init : PySem.W.codeIn K cd_Net_init "Net.__init__" = true)
    (k_Net_init : PySem.W.keepIn K (.ref Net_init) = true)
    (a_Net_numbers : PySem.W.findIn K (.ref C_Net) "numbers" = some (some (.ref p_Net_numbers)))
    (g1_Net_numbers : PySem.W.specialIn K (.ref p_Net_numbers) "__get__" = some (some (.builtin "property.__get__")))
    (g2_Net_numbers : PySem.W.takesIn K (.ref p_Net_numbers) = some true)
    (g3_Net_numbers : PySem.W.recIn K p_Net_numbers "property" = some (.ref Net_numbers :: r_Net_numbers))
    (l_Net_numbers : K.lookup Net_numbers = some ⟨oc_Net_numbers, od_Net_numbers, .func (PySem.W.fnOf "numbers" "Net.numbers" (defArgs s_Net_numbers) (defBody s_Net_numbers) (defScope s_Net_numbers) .none kV_Net_numbers dc_Net_numbers pm_Net_numbers an_Net_numbers cd_Net_numbers ct_Net_numbers), sl_Net_numbers⟩)
    (c_Net_numbers : PySem.W.codeIn K cd_Net_numbers "Net.numbers" = true)
    (k_Net_numbers : PySem.W.keepIn K (.ref Net_numbers) = true)
    (a_Net_size : PySem.W.findIn K (.ref C_Net) "size" = some (some (.ref p_Net_size)))
    (g1_Net_size : PySem.W.specialIn K (.ref p_Net_size) "__get__" = some (some (.builtin "property.__get__")))
    (g2_Net_size : PySem.W.takesIn K (.ref p_Net_size) = some true)
    (g3_Net_size : PySem.W.recIn K p_Net_size "property" = some (.ref Net_size :: r_Net_size))
    (l_Net_size : K.lookup Net_size = some ⟨oc_Net_size, od_Net_size, .func (PySem.W.fnOf "size" "Net.size" (defArgs s_Net_size) (defBody s_Net_size) (defScope s_Net_size) .none kV_Net_size dc_Net_size pm_Net_size an_Net_size cd_Net_size ct_Net_size), sl_Net_size⟩)
    (c_Net_size : PySem.W.codeIn K cd_Net_size "Net.size" = true)
    (k_Net_size : PySem.W.keepIn K (.ref Net_size) = true)
    (a_Net_contains : PySem.W.findIn K (.ref C_Net) "__contains__" = some (some (.ref Net_contains)))
    (i_Net_contains : PySem.W.isFn K (.ref Net_contains) = true)
    (l_Net_contains : K.lookup Net_contains = some ⟨oc_Net_contains, od_Net_contains, .func (PySem.W.fnOf "__contains__" "Net.__contains__" (defArgs s_Net_contains) (defBody s_Net_contains) (defScope s_Net_contains) .none kV_Net_contains dc_Net_contains pm_Net_contains an_Net_contains cd_Net_contains ct_Net_contains), sl_Net_contains⟩)
    (c_Net_contains : PySem.W.codeIn K cd_Net_contains "Net.__contains__" = true)
    (k_Net_contains : PySem.W.keepIn K (.ref Net_contains) = true)
    (a_home : PySem.W.nsIn K mainGlobals "home" = some (some (.ref home)))
    (l_home : K.lookup home = some ⟨oc_home, od_home, .func (PySem.W.fnOf "home" "home" (defArgs s_home) (defBody s_home) (defScope s_home) .none kV_home dc_home pm_home an_home cd_home ct_home), sl_home⟩)
    (c_home : PySem.W.codeIn K cd_home "home" = true)
    (k_home : PySem.W.keepIn K (.ref home) = true)
    (a_Net_reduced : PySem.W.findIn K (.ref C_Net) "reduced" = some (some (.ref Net_reduced)))
    (i_Net_reduced : PySem.W.isFn K (.ref Net_reduced) = true)
    (l_Net_reduced : K.lookup Net_reduced = some ⟨oc_Net_reduced, od_Net_reduced, .func (PySem.W.fnOf "reduced" "Net.reduced" (defArgs s_Net_reduced) (defBody s_Net_reduced) (defScope s_Net_reduced) .none kV_Net_reduced dc_Net_reduced pm_Net_reduced an_Net_reduced cd_Net_reduced ct_Net_reduced), sl_Net_reduced⟩)
    (c_Net_reduced : PySem.W.codeIn K cd_Net_reduced "Net.reduced" = true)
    (k_Net_reduced : PySem.W.keepIn K (.ref Net_reduced) = true)
    (a_Net_order : PySem.W.findIn K (.ref C_Net) "order" = some (some (.ref Net_order)))
    (i_Net_order : PySem.W.isFn K (.ref Net_order) = true)
    (l_Net_order : K.lookup Net_order = some ⟨oc_Net_order, od_Net_order, .func (PySem.W.fnOf "order" "Net.order" (defArgs s_Net_order) (defBody s_Net_order) (defScope s_Net_order) .none kV_Net_order dc_Net_order pm_Net_order an_Net_order cd_Net_order ct_Net_order), sl_Net_order⟩)
    (c_Net_order : PySem.W.codeIn K cd_Net_order "Net.order" = true)
    (k_Net_order : PySem.W.keepIn K (.ref Net_order) = true)
    (a_Net_is_within : PySem.W.findIn K (.ref C_Net) "is_within" = some (some (.ref Net_is_within)))
    (i_Net_is_within : PySem.W.isFn K (.ref Net_is_within) = true)
    (l_Net_is_within : K.lookup Net_is_within = some ⟨oc_Net_is_within, od_Net_is_within, .func (PySem.W.fnOf "is_within" "Net.is_within" (defArgs s_Net_is_within) (defBody s_Net_is_within) (defScope s_Net_is_within) .none kV_Net_is_within dc_Net_is_within pm_Net_is_within an_Net_is_within cd_Net_is_within ct_Net_is_within), sl_Net_is_within⟩)
    (c_Net_is_within : PySem.W.codeIn K cd_Net_is_within "Net.is_within" = true)
    (k_Net_is_within : PySem.W.keepIn K (.ref Net_is_within) = true)
    (a_Net_scaled : PySem.W.findIn K (.ref C_Net) "scaled" = some (some (.ref Net_scaled)))
    (i_Net_scaled : PySem.W.isFn K (.ref Net_scaled) = true)
    (l_Net_scaled : K.lookup Net_scaled = some ⟨oc_Net_scaled, od_Net_scaled, .func (PySem.W.fnOf "scaled" "Net.scaled" (defArgs s_Net_scaled) (defBody s_Net_scaled) (defScope s_Net_scaled) .none kV_Net_scaled dc_Net_scaled pm_Net_scaled an_Net_scaled cd_Net_scaled ct_Net_scaled), sl_Net_scaled⟩)
    (c_Net_scaled : PySem.W.codeIn K cd_Net_scaled "Net.scaled" = true)
    (k_Net_scaled : PySem.W.keepIn K (.ref Net_scaled) = true)
    (a_Net_eq : PySem.W.findIn K (.ref C_Net) "__eq__" = some (some (.ref Net_eq)))
    (i_Net_eq : PySem.W.isFn K (.ref Net_eq) = true)
    (ne_Net : PySem.W.findIn K (.ref C_Net) "__ne__" = some (some (.builtin "object.__ne__")))
    (ob_Net : PySem.W.subIn K (.ref C_Net) (.type "object") = some true)
    (l_Net_eq : K.lookup Net_eq = some ⟨oc_Net_eq, od_Net_eq, .func (PySem.W.fnOf "__eq__" "Net.__eq__" (defArgs s_Net_eq) (defBody s_Net_eq) (defScope s_Net_eq) .none kV_Net_eq dc_Net_eq pm_Net_eq an_Net_eq cd_Net_eq ct_Net_eq), sl_Net_eq⟩)
    (c_Net_eq : PySem.W.codeIn K cd_Net_eq "Net.__eq__" = true)
    (k_Net_eq : PySem.W.keepIn K (.ref Net_eq) = true)
    (a_law_tape : PySem.W.nsIn K mainGlobals "_law_tape" = some (some (.ref law_tape)))
    (l_law_tape : K.lookup law_tape = some ⟨oc_law_tape, od_law_tape, .func (PySem.W.fnOf "_law_tape" "_law_tape" (defArgs s_law_tape) (defBody s_law_tape) (defScope s_law_tape) .none kV_law_tape dc_law_tape pm_law_tape an_law_tape cd_law_tape ct_law_tape), sl_law_tape⟩)
    (c_law_tape : PySem.W.codeIn K cd_law_tape "_law_tape" = true)
    (k_law_tape : PySem.W.keepIn K (.ref law_tape) = true)
    (a_law_draw : PySem.W.nsIn K mainGlobals "_law_draw" = some (some (.ref law_draw)))
    (l_law_draw : K.lookup law_draw = some ⟨oc_law_draw, od_law_draw, .func (PySem.W.fnOf "_law_draw" "_law_draw" (defArgs s_law_draw) (defBody s_law_draw) (defScope s_law_draw) .none kV_law_draw dc_law_draw pm_law_draw an_law_draw cd_law_draw ct_law_draw), sl_law_draw⟩)
    (c_law_draw : PySem.W.codeIn K cd_law_draw "_law_draw" = true)
    (k_law_draw : PySem.W.keepIn K (.ref law_draw) = true)
    (a_law_great : PySem.W.nsIn K mainGlobals "_law_great" = some (some (.ref law_great)))
    (l_law_great : K.lookup law_great = some ⟨oc_law_great, od_law_great, .func (PySem.W.fnOf "_law_great" "_law_great" (defArgs s_law_great) (defBody s_law_great) (defScope s_law_great) .none kV_law_great dc_law_great pm_law_great an_law_great cd_law_great ct_law_great), sl_law_great⟩)
    (c_law_great : PySem.W.codeIn K cd_law_great "_law_great" = true)
    (k_law_great : PySem.W.keepIn K (.ref law_great) = true)
    (a_law_place : PySem.W.nsIn K mainGlobals "_law_place" = some (some (.ref law_place)))
    (l_law_place : K.lookup law_place = some ⟨oc_law_place, od_law_place, .func (PySem.W.fnOf "_law_place" "_law_place" (defArgs s_law_place) (defBody s_law_place) (defScope s_law_place) .none kV_law_place dc_law_place pm_law_place an_law_place cd_law_place ct_law_place), sl_law_place⟩)
    (c_law_place : PySem.W.codeIn K cd_law_place "_law_place" = true)
    (k_law_place : PySem.W.keepIn K (.ref law_place) = true)
    (a_law_low : PySem.W.nsIn K mainGlobals "_law_low" = some (some (.ref law_low)))
    (l_law_low : K.lookup law_low = some ⟨oc_law_low, od_law_low, .func (PySem.W.fnOf "_law_low" "_law_low" (defArgs s_law_low) (defBody s_law_low) (defScope s_law_low) .none kV_law_low dc_law_low pm_law_low an_law_low cd_law_low ct_law_low), sl_law_low⟩)
    (c_law_low : PySem.W.codeIn K cd_law_low "_law_low" = true)
    (k_law_low : PySem.W.keepIn K (.ref law_low) = true)
    (a_law_net : PySem.W.nsIn K mainGlobals "_law_net" = some (some (.ref law_net)))
    (l_law_net : K.lookup law_net = some ⟨oc_law_net, od_law_net, .func (PySem.W.fnOf "_law_net" "_law_net" (defArgs s_law_net) (defBody s_law_net) (defScope s_law_net) .none kV_law_net dc_law_net pm_law_net an_law_net cd_law_net ct_law_net), sl_law_net⟩)
    (c_law_net : PySem.W.codeIn K cd_law_net "_law_net" = true)
    (k_law_net : PySem.W.keepIn K (.ref law_net) = true)
    (a_law_steps : PySem.W.nsIn K mainGlobals "_law_steps" = some (some (.ref law_steps)))
    (l_law_steps : K.lookup law_steps = some ⟨oc_law_steps, od_law_steps, .func (PySem.W.fnOf "_law_steps" "_law_steps" (defArgs s_law_steps) (defBody s_law_steps) (defScope s_law_steps) .none kV_law_steps dc_law_steps pm_law_steps an_law_steps cd_law_steps ct_law_steps), sl_law_steps⟩)
    (c_law_steps : PySem.W.codeIn K cd_law_steps "_law_steps" = true)
    (k_law_steps : PySem.W.keepIn K (.ref law_steps) = true)
    (a_law : PySem.W.nsIn K mainGlobals "law" = some (some (.ref law)))
    (l_law : K.lookup law = some ⟨oc_law, od_law, .func (PySem.W.fnOf "law" "law" (defArgs s_law) (defBody s_law) (defScope s_law) .none kV_law dc_law pm_law an_law cd_law ct_law), sl_law⟩)
    (c_law : PySem.W.codeIn K cd_law "law" = true)
    (k_law : PySem.W.keepIn K (.ref law) = true)
    (z_bool : PySem.W.nsIn K mainGlobals "bool" = some none)
    (z_int : PySem.W.nsIn K mainGlobals "int" = some none)
    (z_isinstance : PySem.W.nsIn K mainGlobals "isinstance" = some none)
    (z_len : PySem.W.nsIn K mainGlobals "len" = some none)
    (z_list : PySem.W.nsIn K mainGlobals "list" = some none)
    (z_range : PySem.W.nsIn K mainGlobals "range" = some none)
    (z_repr : PySem.W.nsIn K mainGlobals "repr" = some none)
    (z_tuple : PySem.W.nsIn K mainGlobals "tuple" = some none)
    (v_gcd : PySem.W.nsIn K mainGlobals "gcd" = some (some (.builtin "math.gcd")))
    (nn_Net : PySem.W.findIn K (.ref C_Net) "_numbers" = some none)
    (ic1 : PySem.W.findIn K (.ref C_Net) "__class__" = some (some (.builtin "object.__class__")))
    (ic2 : PySem.W.specialIn K (.builtin "object.__class__") "__get__" = some (some (.builtin "getset_descriptor.__get__")))
    (ic3 : PySem.W.takesIn K (.builtin "object.__class__") = some true)
    (ic4 : PySem.W.mroIn K C_Net (.type "object") = some true)
    : ∃ a : Ad, a.law = fa ∧ (∀ (s : Shared) (v : Value), BindsTo s a.law_d ⟨[v], []⟩ [("_law_script", v)]) ∧ Txt K mg a := by
  have e := hfa.symm.trans (PySem.W.mg_of X G a_law)
  cases e
  refine ⟨{ C_Net := C_Net, is_integer := is_integer, is_integer_d := PySem.W.fnOf "is_integer" "is_integer" (defArgs s_is_integer) (defBody s_is_integer) (defScope s_is_integer) .none kV_is_integer dc_is_integer pm_is_integer an_is_integer cd_is_integer ct_is_integer, is_place := is_place, is_place_d := PySem.W.fnOf "is_place" "is_place" (defArgs s_is_place) (defBody s_is_place) (defScope s_is_place) .none kV_is_place dc_is_place pm_is_place an_is_place cd_is_place ct_is_place, check_place := check_place, check_place_d := PySem.W.fnOf "check_place" "check_place" (defArgs s_check_place) (defBody s_check_place) (defScope s_check_place) .none kV_check_place dc_check_place pm_check_place an_check_place cd_check_place ct_check_place, check_positive := check_positive, check_positive_d := PySem.W.fnOf "check_positive" "check_positive" (defArgs s_check_positive) (defBody s_check_positive) (defScope s_check_positive) .none kV_check_positive dc_check_positive pm_check_positive an_check_positive cd_check_positive ct_check_positive, are_numbers := are_numbers, are_numbers_d := PySem.W.fnOf "are_numbers" "are_numbers" (defArgs s_are_numbers) (defBody s_are_numbers) (defScope s_are_numbers) .none kV_are_numbers dc_are_numbers pm_are_numbers an_are_numbers cd_are_numbers ct_are_numbers, two_shifts := two_shifts, two_shifts_d := PySem.W.fnOf "two_shifts" "two_shifts" (defArgs s_two_shifts) (defBody s_two_shifts) (defScope s_two_shifts) .none kV_two_shifts dc_two_shifts pm_two_shifts an_two_shifts cd_two_shifts ct_two_shifts, Net_init := Net_init, Net_init_d := PySem.W.fnOf "__init__" "Net.__init__" (defArgs s_Net_init) (defBody s_Net_init) (defScope s_Net_init) .none kV_Net_init dc_Net_init pm_Net_init an_Net_init cd_Net_init ct_Net_init, Net_numbers := Net_numbers, Net_numbers_d := PySem.W.fnOf "numbers" "Net.numbers" (defArgs s_Net_numbers) (defBody s_Net_numbers) (defScope s_Net_numbers) .none kV_Net_numbers dc_Net_numbers pm_Net_numbers an_Net_numbers cd_Net_numbers ct_Net_numbers, p_Net_numbers := p_Net_numbers, Net_size := Net_size, Net_size_d := PySem.W.fnOf "size" "Net.size" (defArgs s_Net_size) (defBody s_Net_size) (defScope s_Net_size) .none kV_Net_size dc_Net_size pm_Net_size an_Net_size cd_Net_size ct_Net_size, p_Net_size := p_Net_size, Net_contains := Net_contains, Net_contains_d := PySem.W.fnOf "__contains__" "Net.__contains__" (defArgs s_Net_contains) (defBody s_Net_contains) (defScope s_Net_contains) .none kV_Net_contains dc_Net_contains pm_Net_contains an_Net_contains cd_Net_contains ct_Net_contains, home := home, home_d := PySem.W.fnOf "home" "home" (defArgs s_home) (defBody s_home) (defScope s_home) .none kV_home dc_home pm_home an_home cd_home ct_home, Net_reduced := Net_reduced, Net_reduced_d := PySem.W.fnOf "reduced" "Net.reduced" (defArgs s_Net_reduced) (defBody s_Net_reduced) (defScope s_Net_reduced) .none kV_Net_reduced dc_Net_reduced pm_Net_reduced an_Net_reduced cd_Net_reduced ct_Net_reduced, Net_order := Net_order, Net_order_d := PySem.W.fnOf "order" "Net.order" (defArgs s_Net_order) (defBody s_Net_order) (defScope s_Net_order) .none kV_Net_order dc_Net_order pm_Net_order an_Net_order cd_Net_order ct_Net_order, Net_is_within := Net_is_within, Net_is_within_d := PySem.W.fnOf "is_within" "Net.is_within" (defArgs s_Net_is_within) (defBody s_Net_is_within) (defScope s_Net_is_within) .none kV_Net_is_within dc_Net_is_within pm_Net_is_within an_Net_is_within cd_Net_is_within ct_Net_is_within, Net_scaled := Net_scaled, Net_scaled_d := PySem.W.fnOf "scaled" "Net.scaled" (defArgs s_Net_scaled) (defBody s_Net_scaled) (defScope s_Net_scaled) .none kV_Net_scaled dc_Net_scaled pm_Net_scaled an_Net_scaled cd_Net_scaled ct_Net_scaled, Net_eq := Net_eq, Net_eq_d := PySem.W.fnOf "__eq__" "Net.__eq__" (defArgs s_Net_eq) (defBody s_Net_eq) (defScope s_Net_eq) .none kV_Net_eq dc_Net_eq pm_Net_eq an_Net_eq cd_Net_eq ct_Net_eq, law_tape := law_tape, law_tape_d := PySem.W.fnOf "_law_tape" "_law_tape" (defArgs s_law_tape) (defBody s_law_tape) (defScope s_law_tape) .none kV_law_tape dc_law_tape pm_law_tape an_law_tape cd_law_tape ct_law_tape, law_draw := law_draw, law_draw_d := PySem.W.fnOf "_law_draw" "_law_draw" (defArgs s_law_draw) (defBody s_law_draw) (defScope s_law_draw) .none kV_law_draw dc_law_draw pm_law_draw an_law_draw cd_law_draw ct_law_draw, law_great := law_great, law_great_d := PySem.W.fnOf "_law_great" "_law_great" (defArgs s_law_great) (defBody s_law_great) (defScope s_law_great) .none kV_law_great dc_law_great pm_law_great an_law_great cd_law_great ct_law_great, law_place := law_place, law_place_d := PySem.W.fnOf "_law_place" "_law_place" (defArgs s_law_place) (defBody s_law_place) (defScope s_law_place) .none kV_law_place dc_law_place pm_law_place an_law_place cd_law_place ct_law_place, law_low := law_low, law_low_d := PySem.W.fnOf "_law_low" "_law_low" (defArgs s_law_low) (defBody s_law_low) (defScope s_law_low) .none kV_law_low dc_law_low pm_law_low an_law_low cd_law_low ct_law_low, law_net := law_net, law_net_d := PySem.W.fnOf "_law_net" "_law_net" (defArgs s_law_net) (defBody s_law_net) (defScope s_law_net) .none kV_law_net dc_law_net pm_law_net an_law_net cd_law_net ct_law_net, law_steps := law_steps, law_steps_d := PySem.W.fnOf "_law_steps" "_law_steps" (defArgs s_law_steps) (defBody s_law_steps) (defScope s_law_steps) .none kV_law_steps dc_law_steps pm_law_steps an_law_steps cd_law_steps ct_law_steps, law := fa, law_d := PySem.W.fnOf "law" "law" (defArgs s_law) (defBody s_law) (defScope s_law) .none kV_law dc_law pm_law an_law cd_law ct_law }, rfl, fun s v => .of_eq rfl, ?_⟩
  exact {
    g_Net := PySem.W.mg_of X G a_Net,
    cl_Net := ⟨pg_Net, hd_Net, po_Net, sa_Net⟩,
    k_Net := ⟨mk_Net, a_Net_init, i_Net_init, kc_Net⟩,
    g_is_integer := PySem.W.mg_of X G a_is_integer,
    F_is_integer := fun_mk (st := s_is_integer) l_is_integer c_is_integer k_is_integer,
    b_is_integer := (fun_mk (st := s_is_integer) l_is_integer c_is_integer k_is_integer).binds (ps := P_is_integer) fun _ _ _ _ _ _ us hl => match us, hl with | [_], _ => rfl,
    g_is_place := PySem.W.mg_of X G a_is_place,
    F_is_place := fun_mk (st := s_is_place) l_is_place c_is_place k_is_place,
    b_is_place := (fun_mk (st := s_is_place) l_is_place c_is_place k_is_place).binds (ps := P_is_place) fun _ _ _ _ _ _ us hl => match us, hl with | [_], _ => rfl,
    g_check_place := PySem.W.mg_of X G a_check_place,
    F_check_place := fun_mk (st := s_check_place) l_check_place c_check_place k_check_place,
    b_check_place := (fun_mk (st := s_check_place) l_check_place c_check_place k_check_place).binds (ps := P_check_place) fun _ _ _ _ _ _ us hl => match us, hl with | [_], _ => rfl,
    g_check_positive := PySem.W.mg_of X G a_check_positive,
    F_check_positive := fun_mk (st := s_check_positive) l_check_positive c_check_positive k_check_positive,
    b_check_positive := (fun_mk (st := s_check_positive) l_check_positive c_check_positive k_check_positive).binds (ps := P_check_positive) fun _ _ _ _ _ _ us hl => match us, hl with | [_], _ => rfl,
    g_are_numbers := PySem.W.mg_of X G a_are_numbers,
    F_are_numbers := fun_mk (st := s_are_numbers) l_are_numbers c_are_numbers k_are_numbers,
    b_are_numbers := (fun_mk (st := s_are_numbers) l_are_numbers c_are_numbers k_are_numbers).binds (ps := P_are_numbers) fun _ _ _ _ _ _ us hl => match us, hl with | [_, _, _], _ => rfl,
    g_two_shifts := PySem.W.mg_of X G a_two_shifts,
    F_two_shifts := fun_mk (st := s_two_shifts) l_two_shifts c_two_shifts k_two_shifts,
    b_two_shifts := (fun_mk (st := s_two_shifts) l_two_shifts c_two_shifts k_two_shifts).binds (ps := P_two_shifts) fun _ _ _ _ _ _ us hl => match us, hl with | [_], _ => rfl,
    F_Net_init := fun_mk (st := s_Net_init) l_Net_init c_Net_init k_Net_init,
    b_Net_init := (fun_mk (st := s_Net_init) l_Net_init c_Net_init k_Net_init).binds (ps := P_Net_init) fun _ _ _ _ _ _ us hl => match us, hl with | [_, _, _, _], _ => rfl,
    p_Net_numbers := ⟨a_Net_numbers, g1_Net_numbers, g2_Net_numbers, _, g3_Net_numbers⟩,
    F_Net_numbers := fun_mk (st := s_Net_numbers) l_Net_numbers c_Net_numbers k_Net_numbers,
    b_Net_numbers := (fun_mk (st := s_Net_numbers) l_Net_numbers c_Net_numbers k_Net_numbers).binds (ps := P_Net_numbers) fun _ _ _ _ _ _ us hl => match us, hl with | [_], _ => rfl,
    p_Net_size := ⟨a_Net_size, g1_Net_size, g2_Net_size, _, g3_Net_size⟩,
    F_Net_size := fun_mk (st := s_Net_size) l_Net_size c_Net_size k_Net_size,
    b_Net_size := (fun_mk (st := s_Net_size) l_Net_size c_Net_size k_Net_size).binds (ps := P_Net_size) fun _ _ _ _ _ _ us hl => match us, hl with | [_], _ => rfl,
    h_Net := ⟨a_Net_contains, i_Net_contains⟩,
    F_Net_contains := fun_mk (st := s_Net_contains) l_Net_contains c_Net_contains k_Net_contains,
    b_Net_contains := (fun_mk (st := s_Net_contains) l_Net_contains c_Net_contains k_Net_contains).binds (ps := P_Net_contains) fun _ _ _ _ _ _ us hl => match us, hl with | [_, _], _ => rfl,
    g_home := PySem.W.mg_of X G a_home,
    F_home := fun_mk (st := s_home) l_home c_home k_home,
    b_home := (fun_mk (st := s_home) l_home c_home k_home).binds (ps := P_home) fun _ _ _ _ _ _ us hl => match us, hl with | [_, _], _ => rfl,
    m_Net_reduced := ⟨a_Net_reduced, i_Net_reduced, k_Net_reduced⟩,
    F_Net_reduced := fun_mk (st := s_Net_reduced) l_Net_reduced c_Net_reduced k_Net_reduced,
    b_Net_reduced := (fun_mk (st := s_Net_reduced) l_Net_reduced c_Net_reduced k_Net_reduced).binds (ps := P_Net_reduced) fun _ _ _ _ _ _ us hl => match us, hl with | [_, _], _ => rfl,
    m_Net_order := ⟨a_Net_order, i_Net_order, k_Net_order⟩,
    F_Net_order := fun_mk (st := s_Net_order) l_Net_order c_Net_order k_Net_order,
    b_Net_order := (fun_mk (st := s_Net_order) l_Net_order c_Net_order k_Net_order).binds (ps := P_Net_order) fun _ _ _ _ _ _ us hl => match us, hl with | [_, _], _ => rfl,
    m_Net_is_within := ⟨a_Net_is_within, i_Net_is_within, k_Net_is_within⟩,
    F_Net_is_within := fun_mk (st := s_Net_is_within) l_Net_is_within c_Net_is_within k_Net_is_within,
    b_Net_is_within := (fun_mk (st := s_Net_is_within) l_Net_is_within c_Net_is_within k_Net_is_within).binds (ps := P_Net_is_within) fun _ _ _ _ _ _ us hl => match us, hl with | [_, _], _ => rfl,
    m_Net_scaled := ⟨a_Net_scaled, i_Net_scaled, k_Net_scaled⟩,
    F_Net_scaled := fun_mk (st := s_Net_scaled) l_Net_scaled c_Net_scaled k_Net_scaled,
    b_Net_scaled := (fun_mk (st := s_Net_scaled) l_Net_scaled c_Net_scaled k_Net_scaled).binds (ps := P_Net_scaled) fun _ _ _ _ _ _ us hl => match us, hl with | [_, _], _ => rfl,
    e_Net := ⟨a_Net_eq, i_Net_eq, ne_Net, ob_Net⟩,
    F_Net_eq := fun_mk (st := s_Net_eq) l_Net_eq c_Net_eq k_Net_eq,
    b_Net_eq := (fun_mk (st := s_Net_eq) l_Net_eq c_Net_eq k_Net_eq).binds (ps := P_Net_eq) fun _ _ _ _ _ _ us hl => match us, hl with | [_, _], _ => rfl,
    g_law_tape := PySem.W.mg_of X G a_law_tape,
    F_law_tape := fun_mk (st := s_law_tape) l_law_tape c_law_tape k_law_tape,
    b_law_tape := (fun_mk (st := s_law_tape) l_law_tape c_law_tape k_law_tape).binds (ps := P_law_tape) fun _ _ _ _ _ _ us hl => match us, hl with | [_], _ => rfl,
    g_law_draw := PySem.W.mg_of X G a_law_draw,
    F_law_draw := fun_mk (st := s_law_draw) l_law_draw c_law_draw k_law_draw,
    b_law_draw := (fun_mk (st := s_law_draw) l_law_draw c_law_draw k_law_draw).binds (ps := P_law_draw) fun _ _ _ _ _ _ us hl => match us, hl with | [_, _], _ => rfl,
    g_law_great := PySem.W.mg_of X G a_law_great,
    F_law_great := fun_mk (st := s_law_great) l_law_great c_law_great k_law_great,
    b_law_great := (fun_mk (st := s_law_great) l_law_great c_law_great k_law_great).binds (ps := P_law_great) fun _ _ _ _ _ _ us hl => match us, hl with | [_, _], _ => rfl,
    g_law_place := PySem.W.mg_of X G a_law_place,
    F_law_place := fun_mk (st := s_law_place) l_law_place c_law_place k_law_place,
    b_law_place := (fun_mk (st := s_law_place) l_law_place c_law_place k_law_place).binds (ps := P_law_place) fun _ _ _ _ _ _ us hl => match us, hl with | [_], _ => rfl,
    g_law_low := PySem.W.mg_of X G a_law_low,
    F_law_low := fun_mk (st := s_law_low) l_law_low c_law_low k_law_low,
    b_law_low := (fun_mk (st := s_law_low) l_law_low c_law_low k_law_low).binds (ps := P_law_low) fun _ _ _ _ _ _ us hl => match us, hl with | [_, _], _ => rfl,
    g_law_net := PySem.W.mg_of X G a_law_net,
    F_law_net := fun_mk (st := s_law_net) l_law_net c_law_net k_law_net,
    b_law_net := (fun_mk (st := s_law_net) l_law_net c_law_net k_law_net).binds (ps := P_law_net) fun _ _ _ _ _ _ us hl => match us, hl with | [_, _], _ => rfl,
    g_law_steps := PySem.W.mg_of X G a_law_steps,
    F_law_steps := fun_mk (st := s_law_steps) l_law_steps c_law_steps k_law_steps,
    b_law_steps := (fun_mk (st := s_law_steps) l_law_steps c_law_steps k_law_steps).binds (ps := P_law_steps) fun _ _ _ _ _ _ us hl => match us, hl with | [_, _], _ => rfl,
    g_law := PySem.W.mg_of X G a_law,
    F_law := fun_mk (st := s_law) l_law c_law k_law,
    b_law := (fun_mk (st := s_law) l_law c_law k_law).binds (ps := P_law) fun _ _ _ _ _ _ us hl => match us, hl with | [_], _ => rfl,
    z_bool := PySem.W.mg_none_of X G z_bool,
    z_int := PySem.W.mg_none_of X G z_int,
    z_isinstance := PySem.W.mg_none_of X G z_isinstance,
    z_len := PySem.W.mg_none_of X G z_len,
    z_list := PySem.W.mg_none_of X G z_list,
    z_range := PySem.W.mg_none_of X G z_range,
    z_repr := PySem.W.mg_none_of X G z_repr,
    z_tuple := PySem.W.mg_none_of X G z_tuple,
    g_gcd := PySem.W.mg_of X G v_gcd,
    n_Net_numbers := nn_Net,
    i_Net := ⟨ic1, ic2, ic3, ic4⟩ }
end Law

open PySem PySem.W PyProof.Rows
local macro_rules | `(tactic| walk_at "mv_vals") => `(tactic| repeat first | exact Paired.nil | refine Paired.cons ?_ ?_ | exact rfl | exact ⟨_, rfl⟩)
local macro_rules | `(tactic| walk_at "mv_kt") => `(tactic| (refine' MV.kt_mk ?h ?z ?v; (case h => k_is); (case z => decide +kernel); (case v => walk_at "mv_vals")))
local macro_rules | `(tactic| walk_at "mv_lit") => `(tactic| repeat first | exact True.intro | refine ⟨⟨_, _, rfl, rfl⟩, ?_⟩)
local macro_rules | `(tactic| walk_at "mv_kd") => `(tactic| (refine' MV.kd_mk ?h ?l ?n ?v; (case h => k_is); (case n => k_is); (case l => walk_at "mv_lit"); (case v => first | exact rfl | exact ⟨_, rfl⟩)))
local macro_rules | `(tactic| walk_at "mv_kk") => `(tactic| (refine' MV.kk_mk ?h ?n ?v; (case h => k_is); (case n => decide +kernel); (case v => walk_at "mv_vals")))
local macro_rules | `(tactic| walk_at "mv_bind") => `(tactic| (refine ⟨?k, ?h, ?g⟩; (case h => (unfold bindArgs; dsimp only; rw [List.forIn_nil, pure_bind])); (case g => exact rfl)))
set_option maxHeartbeats 0 in
theorem PySem.Challenge.cw_carpets_k06_orders_and_multiples_holds : PySem.Challenge.rw_carpets_k06_orders_and_multiples.Holds := by
  w_on; o_law; k_head; (case hw => w_witness2)
  k_fill
  refine MV.walkG (l := PySem.Challenge.rw_carpets_k06_orders_and_multiples) (n := 63) (k := 7) (x := "_law_script") (CX := L2.CX0) (sp := Law.sp_law) rfl (by decide) rfl ⟨rfl, by decide, by decide⟩ (fun w h Y => PySem.W.kIn_of Y) ?F (fun K H a ns hl hS => Law.sp_start K H a ns hl hS) (fun _ _ _ _ h => h)
  case F =>
    intro w mg fa h KX G hmg
    refine' MV.byTxt (Law.all_mk KX G hmg ?a_Net ?pg_Net ?hd_Net ?po_Net ?sa_Net ?mk_Net ?kc_Net ?a_is_integer ?l_is_integer ?c_is_integer ?k_is_integer ?a_is_place ?l_is_place ?c_is_place ?k_is_place ?a_check_place ?l_check_place ?c_check_place ?k_check_place ?a_check_positive ?l_check_positive ?c_check_positive ?k_check_positive ?a_are_numbers ?l_are_numbers ?c_are_numbers ?k_are_numbers ?a_two_shifts ?l_two_shifts ?c_two_shifts ?k_two_shifts ?a_Net_init ?i_Net_init ?l_Net_init ?c_Net_init ?k_Net_init ?a_Net_numbers ?g1_Net_numbers ?g2_Net_numbers ?g3_Net_numbers ?l_Net_numbers ?c_Net_numbers ?k_Net_numbers ?a_Net_size ?g1_Net_size ?g2_Net_size ?g3_Net_size ?l_Net_size ?c_Net_size ?k_Net_size ?a_Net_contains ?i_Net_contains ?l_Net_contains ?c_Net_contains ?k_Net_contains ?a_home ?l_home ?c_home ?k_home ?a_Net_reduced ?i_Net_reduced ?l_Net_reduced ?c_Net_reduced ?k_Net_reduced ?a_Net_order ?i_Net_order ?l_Net_order ?c_Net_order ?k_Net_order ?a_Net_is_within ?i_Net_is_within ?l_Net_is_within ?c_Net_is_within ?k_Net_is_within ?a_Net_scaled ?i_Net_scaled ?l_Net_scaled ?c_Net_scaled ?k_Net_scaled ?a_Net_eq ?i_Net_eq ?ne_Net ?ob_Net ?l_Net_eq ?c_Net_eq ?k_Net_eq ?a_law_tape ?l_law_tape ?c_law_tape ?k_law_tape ?a_law_draw ?l_law_draw ?c_law_draw ?k_law_draw ?a_law_great ?l_law_great ?c_law_great ?k_law_great ?a_law_place ?l_law_place ?c_law_place ?k_law_place ?a_law_low ?l_law_low ?c_law_low ?k_law_low ?a_law_net ?l_law_net ?c_law_net ?k_law_net ?a_law_steps ?l_law_steps ?c_law_steps ?k_law_steps ?a_law ?l_law ?c_law ?k_law ?z_bool ?z_int ?z_isinstance ?z_len ?z_list ?z_range ?z_repr ?z_tuple ?v_gcd ?nn_Net ?ic1 ?ic2 ?ic3 ?ic4) (fun a z => ?go)
    (case go =>
      obtain ⟨e, b, T⟩ := z
      subst e
      exact ⟨_, b, fun base _ _ => Law.ok_law T⟩)
    (case a_Net => first | k_is | rfl)
    (case pg_Net => first | k_is | rfl)
    (case hd_Net => first | k_is | rfl)
    (case po_Net => first | k_is | rfl)
    (case sa_Net => first | k_is | rfl)
    (case mk_Net => first | k_is | rfl)
    (case kc_Net => first | k_is | rfl)
    (case a_is_integer => first | k_is | rfl)
    (case l_is_integer => first | k_is | rfl)
    (case c_is_integer => first | k_is | rfl)
    (case k_is_integer => first | k_is | rfl)
    (case a_is_place => first | k_is | rfl)
    (case l_is_place => first | k_is | rfl)
    (case c_is_place => first | k_is | rfl)
    (case k_is_place => first | k_is | rfl)
    (case a_check_place => first | k_is | rfl)
    (case l_check_place => first | k_is | rfl)
    (case c_check_place => first | k_is | rfl)
    (case k_check_place => first | k_is | rfl)
    (case a_check_positive => first | k_is | rfl)
    (case l_check_positive => first | k_is | rfl)
    (case c_check_positive => first | k_is | rfl)
    (case k_check_positive => first | k_is | rfl)
    (case a_are_numbers => first | k_is | rfl)
    (case l_are_numbers => first | k_is | rfl)
    (case c_are_numbers => first | k_is | rfl)
    (case k_are_numbers => first | k_is | rfl)
    (case a_two_shifts => first | k_is | rfl)
    (case l_two_shifts => first | k_is | rfl)
    (case c_two_shifts => first | k_is | rfl)
    (case k_two_shifts => first | k_is | rfl)
    (case a_Net_init => first | k_is | rfl)
    (case i_Net_init => first | k_is | rfl)
    (case l_Net_init => first | k_is | rfl)
    (case c_Net_init => first | k_is | rfl)
    (case k_Net_init => first | k_is | rfl)
    (case a_Net_numbers => first | k_is | rfl)
    (case g1_Net_numbers => first | k_is | rfl)
    (case g2_Net_numbers => first | k_is | rfl)
    (case g3_Net_numbers => first | k_is | rfl)
    (case l_Net_numbers => first | k_is | rfl)
    (case c_Net_numbers => first | k_is | rfl)
    (case k_Net_numbers => first | k_is | rfl)
    (case a_Net_size => first | k_is | rfl)
    (case g1_Net_size => first | k_is | rfl)
    (case g2_Net_size => first | k_is | rfl)
    (case g3_Net_size => first | k_is | rfl)
    (case l_Net_size => first | k_is | rfl)
    (case c_Net_size => first | k_is | rfl)
    (case k_Net_size => first | k_is | rfl)
    (case a_Net_contains => first | k_is | rfl)
    (case i_Net_contains => first | k_is | rfl)
    (case l_Net_contains => first | k_is | rfl)
    (case c_Net_contains => first | k_is | rfl)
    (case k_Net_contains => first | k_is | rfl)
    (case a_home => first | k_is | rfl)
    (case l_home => first | k_is | rfl)
    (case c_home => first | k_is | rfl)
    (case k_home => first | k_is | rfl)
    (case a_Net_reduced => first | k_is | rfl)
    (case i_Net_reduced => first | k_is | rfl)
    (case l_Net_reduced => first | k_is | rfl)
    (case c_Net_reduced => first | k_is | rfl)
    (case k_Net_reduced => first | k_is | rfl)
    (case a_Net_order => first | k_is | rfl)
    (case i_Net_order => first | k_is | rfl)
    (case l_Net_order => first | k_is | rfl)
    (case c_Net_order => first | k_is | rfl)
    (case k_Net_order => first | k_is | rfl)
    (case a_Net_is_within => first | k_is | rfl)
    (case i_Net_is_within => first | k_is | rfl)
    (case l_Net_is_within => first | k_is | rfl)
    (case c_Net_is_within => first | k_is | rfl)
    (case k_Net_is_within => first | k_is | rfl)
    (case a_Net_scaled => first | k_is | rfl)
    (case i_Net_scaled => first | k_is | rfl)
    (case l_Net_scaled => first | k_is | rfl)
    (case c_Net_scaled => first | k_is | rfl)
    (case k_Net_scaled => first | k_is | rfl)
    (case a_Net_eq => first | k_is | rfl)
    (case i_Net_eq => first | k_is | rfl)
    (case ne_Net => first | k_is | rfl)
    (case ob_Net => first | k_is | rfl)
    (case l_Net_eq => first | k_is | rfl)
    (case c_Net_eq => first | k_is | rfl)
    (case k_Net_eq => first | k_is | rfl)
    (case a_law_tape => first | k_is | rfl)
    (case l_law_tape => first | k_is | rfl)
    (case c_law_tape => first | k_is | rfl)
    (case k_law_tape => first | k_is | rfl)
    (case a_law_draw => first | k_is | rfl)
    (case l_law_draw => first | k_is | rfl)
    (case c_law_draw => first | k_is | rfl)
    (case k_law_draw => first | k_is | rfl)
    (case a_law_great => first | k_is | rfl)
    (case l_law_great => first | k_is | rfl)
    (case c_law_great => first | k_is | rfl)
    (case k_law_great => first | k_is | rfl)
    (case a_law_place => first | k_is | rfl)
    (case l_law_place => first | k_is | rfl)
    (case c_law_place => first | k_is | rfl)
    (case k_law_place => first | k_is | rfl)
    (case a_law_low => first | k_is | rfl)
    (case l_law_low => first | k_is | rfl)
    (case c_law_low => first | k_is | rfl)
    (case k_law_low => first | k_is | rfl)
    (case a_law_net => first | k_is | rfl)
    (case l_law_net => first | k_is | rfl)
    (case c_law_net => first | k_is | rfl)
    (case k_law_net => first | k_is | rfl)
    (case a_law_steps => first | k_is | rfl)
    (case l_law_steps => first | k_is | rfl)
    (case c_law_steps => first | k_is | rfl)
    (case k_law_steps => first | k_is | rfl)
    (case a_law => first | k_is | rfl)
    (case l_law => first | k_is | rfl)
    (case c_law => first | k_is | rfl)
    (case k_law => first | k_is | rfl)
    (case z_bool => first | k_is | rfl)
    (case z_int => first | k_is | rfl)
    (case z_isinstance => first | k_is | rfl)
    (case z_len => first | k_is | rfl)
    (case z_list => first | k_is | rfl)
    (case z_range => first | k_is | rfl)
    (case z_repr => first | k_is | rfl)
    (case z_tuple => first | k_is | rfl)
    (case v_gcd => first | k_is | rfl)
    (case nn_Net => first | k_is | rfl)
    (case ic1 => first | k_is | rfl)
    (case ic2 => first | k_is | rfl)
    (case ic3 => first | k_is | rfl)
    (case ic4 => first | k_is | rfl)

