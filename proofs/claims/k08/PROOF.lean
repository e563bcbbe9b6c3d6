import PyProof.Rows.All
import Wide.All
import OpenK.AllK
import Wide.FinOn
import HandS.ForMost
import HandS.ForExc
import HandS.Wide
import HandS.Gcd
import HandS.IsInst
import HandS.Property
import HandS.Flow
import HandS.RaiseMore
import HandS.Ends
import HandS.Style
import OpenK.KMeth
import KE.KOpsOwn
import KE.KCallOwn
import HandS.ClsMeth
import HandS.Defaults
import HandS.FStr
import OpenK.KOps
import HandS.Star
import HandS.Iter
import HandS.ExcInit
import HandS.Lambda
import HandS.TryMany
import HandS.ExcField
import HandS.ExcIs
import HandS.EndOwn
import KE.KExcIs
import KE.KNestM
import HandS.Walk
import HandS.Steps
import HandS.MakeKwOnly
import KE.GoesMore
import PyProof.StrOps2
import HandS.Text
import PyProof.StrLawsRepr
import PySem.Challenge.RW_carpets_k08_invalid_motions
set_option Elab.async false
set_option linter.all false
set_option maxRecDepth 100000
set_option maxHeartbeats 2000000
/-! MVA: calls that know that no repr is under way (A.guards), and rules of calls over them. -/
namespace MV
open PySem PySem.Spec PyProof.Rows L2

/-- as FnOk, asked only where no repr is under way -/
structure FnG (P : Program) (w : World) (K : PySem.W.Frag) (mg : Str → Option Value) (base : Heap) (CX : CXT)
    (k : Nat) (f : Addr) (fd : FuncData) (ps : List Str) (sp : Sp) : Prop where
  ln : ∀ vs H Q E, sp vs H Q E → vs.length = ps.length
  go : ∀ (A : Around) (outer : List Env) (s : Shared) (H : Hp) (args : Args) (us : List Value) (vs : List V) (Q : VK) (E : XK),
    Room k A → A.guards = some [] → Env0 P w K mg base A outer s H → BindsTo s fd args (ps.zip us) → Vals vs us →
    sp vs H Q E → codeAny (model P w) A (.call (.ref f) args) (CR CX outer P w H s Q E) s

section
variable {P : Program} {w : World} {K : PySem.W.Frag} {mg : Str → Option Value} {base : Heap} {CX : CXT}
  {k j : Nat} {f : Addr} {fd : FuncData} {ps : List Str} {sp sp' : Sp}

theorem FnG.ofOk (F : FnOk P w K mg base CX k f fd ps sp) : FnG P w K mg base CX k f fd ps sp where
  ln := F.len
  go A outer s H args us vs Q E r _ e b v q := F.run A outer s H args us vs Q E r e b v q

theorem FnG.up (F : FnG P w K mg base CX j f fd ps sp) (h : j ≤ k) : FnG P w K mg base CX k f fd ps sp where
  ln := F.ln
  go A outer s H args us vs Q E r g e b v q := F.go A outer s H args us vs Q E (r.mono h) g e b v q

/-- the rule of a def, the context of its body knowing that no repr is under way -/
theorem fng_of {name qual : Str} {params : Arguments} {body : List Stmt} {scope : Scope} {dV kV doc pm cdv ct oc : Value}
    {an od : Option Addr} {osl : Array (Option Value)} {N : List Str}
    (lk : K.lookup f = some ⟨oc, od, .func (PySem.W.fnOf name qual params body scope dV kV doc pm an cdv ct), osl⟩)
    (hcd : PySem.W.codeIn K cdv qual = true) (S : FnScope N ps scope)
    (ln : ∀ vs H Q E, sp vs H Q E → vs.length = ps.length)
    (hbody : ∀ (A : Around) (outer : List Env) (s : Shared) (H : Hp) (vs : List V) (Q : VK) (E : XK),
      Room k (A.deeper (envOfC qual scope s.heap.objs.size f cdv)) →
      (A.deeper (envOfC qual scope s.heap.objs.size f cdv)).guards = some [] → sp vs H Q E →
      ∃ t, PSs (cxOf CX P w K mg base N qual scope f cdv A outer s H E) body t ∧
        t { nx := fun _ H' => Q .non H', rt := Q } (start N vs) H) :
    FnG P w K mg base CX (k + 1) f (PySem.W.fnOf name qual params body scope dV kV doc pm an cdv ct) ps sp where
  ln := ln
  go A outer s H args us vs Q E hr hg e0 hb r hsp := by
    have keep := fun b o e => (e0.bs b o e).1
    have KX : K.In s.heap := e0.mod.kin.keeps keep
    have kinds : ∀ y ∈ ps.zip us, scope.names.lookup y.1 = some .local ∨ (scope.names.lookup y.1 = some .cell ∧
        ((cellsFrom (s.heap.objs.size + 1) scope.names []).lookup y.1).isSome = true) := by
      rintro ⟨n, v⟩ hy
      cases S.par n (List.of_mem_zip hy).1 with
      | inl q => exact .inl q
      | inr q => exact .inr ⟨q, PySem.W.cellsFrom_some _ _ _ (.inl q)⟩
    apply codeAny_call_function hr.depth (KX _ _ lk) rfl S.co S.gen rfl (PySem.W.codeRec_of KX hcd)
    refine hb _ _ _ _ (wpAny_newFunctionEnv_cells S.kind kinds ?_)
    rintro env rfl s1 x
    refine ⟨(e0.mod.nolimit.keeps keep).keeps x.toInCall.keep, codeAny_func ?_⟩
    obtain ⟨t, ht, q⟩ := hbody A outer s H vs Q E (hr.deeper _) hg hsp
    have I := inv_start (CX := CX) (E := E) S hr.hd e0 (ln _ _ _ _ hsp) r x
    apply wpAny_mono (ht.run [] s1 _ H _ I q)
    · intro fl s' hs
      cases fl with
      | brk => exact (let ⟨_, _, _, z⟩ := hs; False.elim z)
      | cont => exact (let ⟨_, _, _, z⟩ := hs; False.elim z)
      | ret u => exact (let ⟨v, _, H', J, rv, z⟩ := hs; ⟨v, H', J.os, J.bare, J.base, J.hok, rv, z⟩)
      | next => exact (let ⟨_, H', J, z⟩ := hs; ⟨V.non, H', J.os, J.bare, J.base, J.hok, rfl, z⟩)
    · exact fun _ _ hs => hs

/-- the rule of a def of the text; what it raises lies as CX says -/
theorem Fun.g {x qual : Str} {st : Stmt} {N : List Str} (F : Fun K x qual st f fd) (S : FnScope N ps (defScope st))
    (ln : ∀ vs H Q E, sp vs H Q E → vs.length = ps.length)
    (hb : ∀ (cdv : Value) (A : Around) (outer : List Env) (s : Shared) (H : Hp) (vs : List V) (Q : VK) (E : XK),
      Room k (A.deeper (envOfC qual (defScope st) s.heap.objs.size f cdv)) →
      (A.deeper (envOfC qual (defScope st) s.heap.objs.size f cdv)).guards = some [] → sp vs H Q E →
      ∃ t, PSs (cxOf CX P w K mg base N qual (defScope st) f cdv A outer s H E) (defBody st) t ∧
        t { nx := fun _ H' => Q .non H', rt := Q } (start N vs) H) :
    FnG P w K mg base CX (k + 1) f fd ps sp := by
  obtain ⟨oc, od, kV, doc, pm, an, cdv, ct, osl, rfl, lk, hcd⟩ := F.ex
  exact fng_of lk hcd S ln fun A outer s H vs Q E hr hg h => hb cdv A outer s H vs Q E hr hg h

/-- as Fun.g, for a def of which nothing comes out but values: with loops -/
theorem Fun.gn {x qual : Str} {st : Stmt} {N : List Str} (F : Fun K x qual st f fd) (S : FnScope N ps (defScope st))
    (ln : ∀ vs H Q E, sp vs H Q E → vs.length = ps.length)
    (hb : ∀ (cdv : Value) (A : Around) (outer : List Env) (s : Shared) (H : Hp) (vs : List V) (Q : VK) (E : XK),
      Room k (A.deeper (envOfC qual (defScope st) s.heap.objs.size f cdv)) →
      (A.deeper (envOfC qual (defScope st) s.heap.objs.size f cdv)).guards = some [] → sp vs H Q E →
      ∃ t, PSs (cxOf CX P w K mg base N qual (defScope st) f cdv A outer s H E).nox (defBody st) t ∧
        t { nx := fun _ H' => Q .non H', rt := Q } (start N vs) H) :
    FnG P w K mg base CX (k + 1) f fd ps sp :=
  Fun.g F S ln fun cdv A outer s H vs Q E hr hg h => (let ⟨t, p, q⟩ := hb cdv A outer s H vs Q E hr hg h; ⟨t, p.nox, q⟩)
end

/-! ### the call of such a def, by values and in the text -/
section
variable {X : Cx} {CX : CXT} {k : Nat} {f C : Addr} {fd : FuncData} {ps : List Str} {sp : Sp} {dvs : List V} {ds : List Value}
  {E : XK} {x m : Str} {p pos apos : Pos} {e o : Expr} {es : List Expr} {ta : TE} {t : TA}

/-- what a caller reads off a callee's end -/
def Back (X : Cx) (pins : List (Addr × Obj)) (σ : L2.St) (Q : VK) : Result → Shared → Prop
  | .ok (.ret u), s' => EP X pins σ Q u s'
  | .ok _, _ => False
  | .error z, s' => X.xe z s'
theorem ended {pins : List (Addr × Obj)} {σ : L2.St} {H : Hp} {s s' : Shared} {Q : VK} {r : Result} (hx : Passes CX X E)
    (I : Inv X pins σ H s) (h : CR CX X.stack X.prog X.w H s Q E r s') :
    Back X pins σ Q r s' := by
  match r, h with
  | .ok (.ret u), h => exact I.after h
  | .ok .next, h => exact h
  | .ok .brk, h => exact h
  | .ok .cont, h => exact h
  | .error z, h => exact hx pins σ H s z s' I h

theorem runG {A : Around} {pins : List (Addr × Obj)} {σ : L2.St} {H : Hp} {s : Shared} {Q : VK} {us : List Value} {vs : List V}
    (F : FnG X.prog X.w X.K X.mg X.base CX k f fd ps sp) (hr : Room k A) (hg : A.guards = some [])
    (e0 : Env0 X.prog X.w X.K X.mg X.base A X.stack s H) (hb : Binds X.K fd ps ds) (hd : Vals dvs ds) (hx : Passes CX X E)
    (I : Inv X pins σ H s) (r : Vals vs us) (h : sp (vs ++ dvs) H Q E) :
    codeAny (model X.prog X.w) A (.call (.ref f) ⟨us, []⟩) (Back X pins σ Q) s := by
  have r2 := r.append hd
  have hl : (us ++ ds).length = ps.length := r2.length.symm.trans (F.ln _ _ _ _ h)
  exact codeAny_mono (F.go A X.stack s H ⟨us, []⟩ (us ++ ds) (vs ++ dvs) Q E hr hg e0 (hb s us I.kIn hl) r2 h)
    fun r s' hq => ended hx I hq

/-- a call by values -/
theorem callG {pins : List (Addr × Obj)} {σ : L2.St} {H : Hp} {s : Shared} {Q : VK} {us : List Value} {vs : List V}
    (F : FnG X.prog X.w X.K X.mg X.base CX k f fd ps sp) (hr : Room k X.A) (hg : X.A.guards = some [])
    (hb : Binds X.K fd ps ds) (hd : Vals dvs ds) (hx : Passes CX X E)
    (I : Inv X pins σ H s) (r : Vals vs us) (h : sp (vs ++ dvs) H Q E) :
    wpAny (model X.prog X.w) X.A (call (.ref f) us) (EP X pins σ Q) X.xe s := by
  refine wpAny_call (codeAny_mono (runG F hr hg I.env0 hb hd hx I r h) fun z s' q => ?_)
  match z, q with
  | .ok (.ret _), q => exact q
  | .error _, q => exact q

theorem peg_call (F : FnG X.prog X.w X.K X.mg X.base CX k f fd ps sp) (hr : Room k X.A) (hg : X.A.guards = some [])
    (hn : Gl X x) (hm : X.mg x = some (.ref f)) (hk : PySem.W.keepIn X.K (.ref f) = true) (hb : Binds X.K fd ps ds)
    (hd : Vals dvs ds) (hx : Passes CX X E) (ha : PA X (e :: es) t)
    (hdb : (x == ("__debug__" : Str)) = false := by decide)
    (he : starEach (e :: es) X.env = (false, eval e X.env) :: starEach es X.env := by rfl)
    (hpl : (backTo pos (starEach es X.env)).any (·.1) = false := by rfl) :
    PE X (.Call (.Name x p) (e :: es) [] pos) (tCall sp dvs E t) := by
  constructor
  intro pins s σ H Q I h
  apply wpAny_Call_Name_kw
  refine ld_glob I hn hm (PySem.W.callWith_K (h₀ := X.base) I.ok.mod.kin hk ?_ he hpl) hdb
  exact thn (ha.run pos pins s σ H _ I h) fun us s1 ⟨vs, H1, I1, r, q⟩ => ⟨I1.kIn, callG F hr hg hb hd hx I1 r q⟩

theorem peg_call0 (F : FnG X.prog X.w X.K X.mg X.base CX k f fd ps sp) (hr : Room k X.A) (hg : X.A.guards = some [])
    (hn : Gl X x) (hm : X.mg x = some (.ref f)) (hk : PySem.W.keepIn X.K (.ref f) = true) (hb : Binds X.K fd ps ds)
    (hd : Vals dvs ds) (hx : Passes CX X E) (hdb : (x == ("__debug__" : Str)) = false := by decide) :
    PE X (.Call (.Name x p) [] [] pos) (tCall sp dvs E tNil) := by
  constructor
  intro pins s σ H Q I h
  apply wpAny_Call_Name_kw
  exact ld_glob I hn hm (PySem.W.callWith_K0 I.kIn hk (callG (us := []) F hr hg hb hd hx I .nil h)) hdb

/-- o.m(..) -/
theorem peg_meth {pl : Sem Bool} (he : PE X o ta) (c : Cls X.K C) (hm : Meth X.K C m f)
    (F : FnG X.prog X.w X.K X.mg X.base CX k f fd ps sp) (hr : Room k X.A) (hg : X.A.guards = some [])
    (hb : Binds X.K fd ps ds) (hd : Vals dvs ds) (hx : Passes CX X E) (ha : PA X (e :: es) t)
    (hst : starEach (e :: es) X.env = (false, eval e X.env) :: starEach es X.env := by rfl)
    (hpl : (backTo pos (starEach es X.env)).any (·.1) = false := by rfl)
    (ht : eval (.Call (.Attribute o m apos) (e :: es) [] pos) X.env = (do
      let ov ← eval o X.env
      standAt apos.atName
      let (g, first) ← holding [ov] (getMethod ov m pl)
      callWith pos g first (backTo pos (starEach (e :: es) X.env)) (backToKw pos (keywordEach [] X.env))) := by rfl) :
    PE X (.Call (.Attribute o m apos) (e :: es) [] pos) (tMeth C m sp dvs E ta t) := by
  constructor
  intro pins s σ H Q I h
  refine PySem.W.methodCall_KW (pl := pl) (thn (he.run pins s σ H _ I h) ?_) ht
  rintro u s1 ⟨_, H1, I1, rx, a, dx, fs, rfl, ea, l, q⟩
  cases rx
  refine getmeth_ok I1 ea c hm l (PySem.W.callWith_K (first := [.ref a]) (h₀ := X.base) I.ok.mod.kin hm.kp ?_ hst hpl)
  refine thn (ha.run pos pins s1 σ H1 _ I1 q) fun us s2 ⟨vs, H2, I2, r, q2⟩ => ⟨I2.kIn, ?_⟩
  exact callG (us := .ref a :: us) (vs := .ref a :: vs) F hr hg hb hd hx I2 (.cons rfl r) q2

theorem peg_meth0 {pl : Sem Bool} (he : PE X o ta) (c : Cls X.K C) (hm : Meth X.K C m f)
    (F : FnG X.prog X.w X.K X.mg X.base CX k f fd ps sp) (hr : Room k X.A) (hg : X.A.guards = some [])
    (hb : Binds X.K fd ps ds) (hd : Vals dvs ds) (hx : Passes CX X E)
    (ht : eval (.Call (.Attribute o m apos) [] [] pos) X.env = (do
      let ov ← eval o X.env
      standAt apos.atName
      let (g, first) ← holding [ov] (getMethod ov m pl)
      callWith pos g first (backTo pos (starEach [] X.env)) (backToKw pos (keywordEach [] X.env))) := by rfl) :
    PE X (.Call (.Attribute o m apos) [] [] pos) (tMeth C m sp dvs E ta tNil) := by
  constructor
  intro pins s σ H Q I h
  refine PySem.W.methodCall_KW (pl := pl) (thn (he.run pins s σ H _ I h) ?_) ht
  rintro u s1 ⟨_, H1, I1, rx, a, dx, fs, rfl, ea, l, q⟩
  cases rx
  refine getmeth_ok I1 ea c hm l (PySem.W.callWith_K0 (first := [.ref a]) I1.kIn hm.kp ?_)
  exact callG (us := [.ref a]) (vs := [.ref a]) F hr hg hb hd hx I1 (.cons rfl .nil) q

theorem guards_make {A : Around} (h : A.guards = some []) (C : Addr) (us : List Value) (kw : List (Str × Value)) :
    (A.under (.builtin "type.__call__" ⟨.ref C :: us, kw⟩)).guards = some [] := by
  have z : ∀ c : Code, c.isGuard = false → (A.under c).guards = A.guards := fun c hc => by
    simp [Around.under, Code.guards, hc, pushGuards]
  rw [z _ rfl, h]

/-- C(..), by values -/
theorem makeG {pins : List (Addr × Obj)} {σ : L2.St} {H : Hp} {s : Shared} {Q : VK} {us : List Value} {vs : List V} (M : Mk X.K C f)
    (F : FnG X.prog X.w X.K X.mg X.base CX k f fd ps sp) (hr : Room (k + 1) X.A) (hg : X.A.guards = some [])
    (hb : Binds X.K fd ps ds) (hd : Vals dvs ds) (hx : Passes CX X E) (I : Inv X pins σ H s) (r : Vals vs us)
    (h : ∀ x dx, H x = none → H dx = none → dx ≠ x → sp (.ref x :: (vs ++ dvs)) (upd (upd H dx (.own x)) x (.ins C dx []))
      (fun v H2 => v = .non ∧ Q (.ref x) H2) E) :
    wpAny (model X.prog X.w) X.A (call (.ref C) us) (EP X pins σ Q) X.xe s := by
  have n := s.heap.objs.size
  have free : ∀ i, s.heap.objs.size ≤ i → H i = none := fun i hi => I.hok.fresh hi
  have q := h (s.heap.objs.size + 1) s.heap.objs.size (free _ (by omega)) (free _ (by omega)) (by
    show s.heap.objs.size ≠ s.heap.objs.size + 1
    exact Nat.ne_of_lt (Nat.lt_succ_self _))
  have J := Inv.made (C := C) I
  have w2 := runG (us := Value.ref (s.heap.objs.size + 1) :: us) (vs := V.ref (s.heap.objs.size + 1) :: vs) F (hr.make C us [])
    (guards_make hg C us []) (J.env0.make C us []) hb hd hx J (.cons rfl r) q
  refine wpAny_call (make_map (f := f) I.kIn M.makes M.init (beq_iff_eq.mp M.fn) (codeAny_mono w2 ?_))
  rintro (z | (_ | _ | _ | u)) s' hq
  · exact hq
  · exact hq.elim
  · exact hq.elim
  · exact hq.elim
  · obtain ⟨v, H', I3, rv, rfl, q3⟩ := hq
    exact ⟨rv, V.ref (s.heap.objs.size + 1), H', I3, rfl, q3⟩

theorem peg_make (M : Mk X.K C f) (F : FnG X.prog X.w X.K X.mg X.base CX k f fd ps sp) (hr : Room (k + 1) X.A)
    (hg : X.A.guards = some []) (hn : Gl X x) (hm : X.mg x = some (.ref C)) (hb : Binds X.K fd ps ds) (hd : Vals dvs ds)
    (hx : Passes CX X E) (ha : PA X (e :: es) t) (hdb : (x == ("__debug__" : Str)) = false := by decide)
    (he : starEach (e :: es) X.env = (false, eval e X.env) :: starEach es X.env := by rfl)
    (hpl : (backTo pos (starEach es X.env)).any (·.1) = false := by rfl) :
    PE X (.Call (.Name x p) (e :: es) [] pos) (tMake C sp dvs E t) := by
  constructor
  intro pins s σ H Q I h
  apply wpAny_Call_Name_kw
  refine ld_glob I hn hm (PySem.W.callWith_K (h₀ := X.base) I.ok.mod.kin M.kp ?_ he hpl) hdb
  exact thn (ha.run pos pins s σ H _ I h) fun us s1 ⟨vs, H1, I1, r, q⟩ => ⟨I1.kIn, makeG M F hr hg hb hd hx I1 r q⟩
end
end MV

set_option Elab.async false
set_option linter.all false
set_option maxRecDepth 100000
set_option maxHeartbeats 2000000
/-! MVB: the end of a law over FnG; repr of data; own in, ==, !=. -/
namespace MV
open PySem PySem.Spec PyProof.Rows L2

/-! ### the end -/
/-- the abstract heap at the law's entry: the script and nothing else -/
def scriptHp (a : Addr) (o : Obj) (xs : List V) : Hp := fun b => if b = a then some (.frz o (.lst xs)) else none
theorem scriptHp_at {a b : Addr} {o : Obj} {xs : List V} {u : HO} (h : scriptHp a o xs b = some u) : b = a ∧ u = .frz o (.lst xs) := by
  unfold scriptHp at h
  split at h
  · exact ⟨by assumption, (Option.some.inj h).symm⟩
  · cases h
theorem scriptHp_none {a b : Addr} {o : Obj} {xs : List V} (h : b ≠ a) : scriptHp a o xs b = none := if_neg h

/-- what the law's run needs of an abstract heap in which at most the script is tracked -/
theorem law_core {P : Program} {w : World} {K : PySem.W.Frag} {mg mb : Str → Option Value} {k : Nat} {fa a : Addr} {fd : FuncData}
    {x : Str} {sp : Sp} {s₁ : Shared} {H : Hp} {CX : CXT}
    (KX : K.In s₁.heap) (hns : s₁.heap.Ns mainGlobals mg) (hb : s₁.heap.Ns builtinsNs mb) (hbb : ∀ x : Str, x ≠ "__name__" → mb x = bootBuiltins x)
    (hlim : s₁.heap.NoLimit) (hg : s₁.gens = #[]) (hr : Room k callerA)
    (F : ∀ base : Heap, K.In base → base.Ns mainGlobals mg → FnG P w K mg base CX k fa fd [x] sp)
    (hbind : ∀ (s : Shared) (u : Value), BindsTo s fd ⟨[u], []⟩ [(x, u)])
    (hsp : sp [.ref a] H (fun v _ => v = .bl true) fun _ _ _ => False)
    (hCX : ∀ e s', CX [] H s₁ (fun _ _ _ => False) e s' → False)
    (ok : HOk P w H s₁.heap) (only : ∀ b u, H b = some u → K.lookup b = none ∧ ∃ o xs, u = .frz o (.lst xs)) :
    codeAny (model P w) callerA (.call (.ref fa) ⟨[.ref a], []⟩)
      (fun r s' => r = .ok (.ret (.bool true)) ∧ OldK s₁.heap s'.heap ∧ s'.os = s₁.os ∧ AllBare s'.gens) s₁ := by
  have dictFree : ∀ {b : Addr} {o : Obj} {es : Array DictEntry} {ep : Nat}, s₁.heap.get? b = some o → o.data = .dict es ep → H b = none := by
    intro b o es ep e d
    match q : H b with
    | none => rfl
    | some u =>
      obtain ⟨_, ob, xs, rfl⟩ := only b u q
      obtain ⟨e2, _, its, n, _, e3⟩ := ok b _ q
      rw [e2] at e3
      cases e3
      rw [e2] at e
      cases e
      cases d
  have ns : ∀ {b : Addr} {m : Str → Option Value}, s₁.heap.Ns b m → (hidT s₁.heap H).Ns b m := by
    rintro b m ⟨o, es, ep, e, d, r⟩
    exact ⟨o, es, ep, hidT_get e (dictFree e d), d, r⟩
  have kin : K.In (hidT s₁.heap H) := by
    intro b o e
    refine hidT_get (KX b o e) ?_
    match q : H b with
    | none => rfl
    | some u => exact absurd e (by rw [(only b u q).1]; simp)
  obtain ⟨ml, l1, l2⟩ := hlim
  have e0 : Env0 P w K mg (hidT s₁.heap H) callerA [] s₁ H :=
    { frames := rfl
      mod := ⟨kin, ns hns, ⟨mb, ns hb, hbb⟩, ⟨ml, ns l1, l2⟩⟩
      bs := fun b o e => of_hidT e
      bsz := Nat.le_of_eq (hidT_size _ _)
      funs := trivial
      frf := fun b z => absurd z List.not_mem_nil
      hok := ok
      bare := .of_eq hg }
  refine codeAny_mono ((F _ kin (ns hns)).go callerA [] s₁ H _ [.ref a] [.ref a] _ _ hr rfl e0 (hbind s₁ (.ref a)) (.cons rfl .nil) hsp) ?_
  intro r s' h
  match r, h with
  | .error e, h => exact (hCX e s' h).elim
  | .ok (.ret u), h =>
    obtain ⟨v, H', os, bare, un, hok', rv, q⟩ := h
    have e1 : v = .bl true := q
    subst e1
    have e2 : u = Value.bool true := rv
    subst e2
    refine ⟨rfl, OldK.of_keep ?_, os, bare⟩
    intro b o e
    match q : H b with
    | none => exact un.keep b o e q List.not_mem_nil List.not_mem_nil
    | some z =>
      obtain ⟨_, ob, xs, rfl⟩ := only b z q
      have e3 := (ok b _ q).1
      rw [e] at e3
      cases e3
      exact (hok' b _ (un.frzs b o _ q)).1

theorem law_callG {P : Program} {w : World} {K : PySem.W.Frag} {mg mb : Str → Option Value} {k : Nat} {fa a : Addr} {fd : FuncData}
    {x : Str} {sp : Sp} {s₁ : Shared} {vs : List Value} {ns : List Int} {CX : CXT}
    (KX : K.In s₁.heap) (hns : s₁.heap.Ns mainGlobals mg) (hb : s₁.heap.Ns builtinsNs mb) (hbb : ∀ x : Str, x ≠ "__name__" → mb x = bootBuiltins x)
    (hlim : s₁.heap.NoLimit) (hg : s₁.gens = #[])
    (ha : s₁.heap.get? a = some { cls := .type "list", data := .seq vs.toArray }) (hi : IntsAre vs ns) (hl : ns.length ≤ sizeLine) (hr : Room k callerA)
    (F : ∀ base : Heap, K.In base → base.Ns mainGlobals mg → FnG P w K mg base CX k fa fd [x] sp)
    (hbind : ∀ (s : Shared) (u : Value), BindsTo s fd ⟨[u], []⟩ [(x, u)])
    (hsp : ∀ H : Hp, SqL K H a (ns.map V.int) → sp [.ref a] H (fun v _ => v = .bl true) fun _ _ _ => False)
    (hCX : ∀ H e s', CX [] H s₁ (fun _ _ _ => False) e s' → False) :
    codeAny (model P w) callerA (.call (.ref fa) ⟨[.ref a], []⟩)
      (fun r s' => r = .ok (.ret (.bool true)) ∧ OldK s₁.heap s'.heap ∧ s'.os = s₁.os ∧ AllBare s'.gens) s₁ := by
  have rv := vals_ints hi
  have n1 := hi.length
  match hk : K.lookup a with
  | some o =>
    have e := (KX a o hk).symm.trans ha
    cases e
    refine law_core (H := fun _ => none) KX hns hb hbb hlim hg hr F hbind (hsp _ (.inr ⟨_, vs.toArray, _, hk, rfl, rfl, rfl, ?_, by simpa using rv⟩)) (hCX _) (fun b u z => nomatch z) (fun b u z => nomatch z)
    rw [List.size_toArray]
    omega
  | none =>
    have hS : SqL K (scriptHp a { cls := .type "list", data := .seq vs.toArray } (ns.map V.int)) a (ns.map V.int) := .inl (.inr ⟨_, if_pos rfl⟩)
    refine law_core (H := scriptHp a { cls := .type "list", data := .seq vs.toArray } (ns.map V.int)) KX hns hb hbb hlim hg hr F hbind (hsp _ hS) (hCX _) (fun b u z => ?_) (fun b u z => ?_)
    · obtain ⟨rfl, rfl⟩ := scriptHp_at z
      exact ⟨ha, by rw [List.length_map]; exact hl, vs, _, rv, ha⟩
    · obtain ⟨rfl, rfl⟩ := scriptHp_at z
      exact ⟨hk, _, _, rfl⟩

/-- the law's row from the promise of its def -/
theorem walkG {l : PySem.W.OpenLaw} {n k : Nat} {q : Program} {loose : List Str} {XP : (Str → Option Value) → Heap → Prop} {YP : World → Heap → Prop}
    {d : DefRec} {K : Params → PySem.W.Frag} {CX : CXT} {sp : PySem.W.Frag → Sp} {x : Str}
    (hn : l.most = some n) (hn2 : n ≤ sizeLine) (hdf : d.params.defaults = []) (hr : Room k callerA)
    (hY : ∀ (w : World) (h : Heap), YP w h → (K w.params).In h)
    (F : ∀ (w : World) (mg : Str → Option Value) (fa : Addr) (h : Heap), (K w.params).In h → h.Ns mainGlobals mg → mg d.name = some (.ref fa) →
      ∃ fd : FuncData, (∀ (s : Shared) (u : Value), BindsTo s fd ⟨[u], []⟩ [(x, u)]) ∧
        ∀ base : Heap, (K w.params).In base → base.Ns mainGlobals mg → FnG l.prog w (K w.params) mg base CX k fa fd [x] (sp (K w.params)))
    (hsp : ∀ (K : PySem.W.Frag) (H : Hp) (a : Addr) (ns : List Int), ns.length ≤ n → SqL K H a (ns.map V.int) → sp K [.ref a] H (fun v _ => v = .bl true) fun _ _ _ => False)
    (hCX : ∀ (H : Hp) (s : Shared) (e : Value) (s' : Shared), CX [] H s (fun _ _ _ => False) e s' → False) :
    PySem.W.WalkO q loose XP YP l.row.toRowW d [] (fun f vs => PySem.call f vs) := by
  refine Att.attach_call hn hdf ?_
  intro w s₀ s₁ mg mb fa o pm cd doc a vs ns G Y ho hd hcd hmg hobj hints hlen hg
  obtain ⟨fd, hb, hF⟩ := F w mg fa _ (hY w _ Y) G.T.g hmg
  exact law_callG (hY w _ Y) G.T.g G.T.b G.T.builtins G.T.nolimit hg hobj hints (Nat.le_trans hlen hn2) hr hF hb
    (fun H hS => hsp _ H a ns hlen hS) fun H e s' => hCX H s₁ e s'

/-! ### properties, own in, own ==, own != -/
section
variable {X : Cx} {CX : CXT} {k : Nat} {f C p : Addr} {fd : FuncData} {ps : List Str} {sp : Sp} {dvs : List V} {ds : List Value}
  {E : XK} {x m : Str} {pos : Pos} {e : Expr} {ta : TE} {n : Str}
/-- e.n, a property -/
theorem peg_prop (he : PE X e ta) (c : Cls X.K C) (hp : PropOf X.K C n p f)
    (F : FnG X.prog X.w X.K X.mg X.base CX k f fd ps sp) (hr : Room (k + 1) X.A) (hg : X.A.guards = some [])
    (hb : Binds X.K fd ps ds) (hd : Vals dvs ds) (hx : Passes CX X.nox E)
    (hab : attributeBase e n X.env (eval e X.env) = eval e X.env := by rfl) :
    PE X (.Attribute e n pos) (tProp C sp dvs E ta) := by
  constructor
  intro pins s σ H Q I h
  refine attr_of hab (thn (he.run pins s σ H _ I h) ?_)
  rintro u s1 ⟨_, H1, I1, rx, a, dx, fs, rfl, ea, q⟩
  cases rx
  obtain ⟨mA, O, _⟩ := ins_get I1.hok ea
  obtain ⟨od, J, _⟩ := O.look
  obtain ⟨rest, hrec⟩ := hp.rec_
  have g := PySem.W.plainGet_of (c.get n)
  have hc : (PySem.W.clsIn X.K C).isSome = true := by
    obtain ⟨cd, hc, _⟩ := PySem.W.any_some c.hd
    rw [hc]
    rfl
  have I2 := I1.tok (s1.toks + 1)
  refine PySem.W.get_bind I1.kIn J g.1 (PySem.W.findObj_data hc hp.at_ hp.get hp.tak) g.2
    (wpAny_call (PySem.W.prop_get (s := { s1 with toks := s1.toks + 1 }) I1.kIn hrec ?_))
  refine codeAny_mono (runG (X := X.nox) (us := [.ref a]) (vs := [.ref a]) F hr.in1 hg I2.env0.in1 hb hd hx (I2.wish _) (.cons rfl .nil) q) fun r s' hq => ?_
  match r, hq with
  | .error _, hq => exact False.elim hq
  | .ok (.ret u), ⟨v, H', I3, rv, q3⟩ =>
    show wpAny _ _ (handedOut u) _ _ _
    rw [PySem.W.handedOut_of (handed_of rv)]
    exact wpAny_pure ⟨v, H', I3.wish _, rv, q3⟩

/-- y in x, x an instance whose class has a def __contains__ -/
def rHas (C : Addr) (sp : Sp) (E : XK) (neg : Bool) : R2 := fun y x H Q => ∃ a dx fs, x = .ref a ∧ H a = some (.ins C dx fs) ∧
  sp [x, y] H (fun z H' => ∃ b, z = .bl b ∧ Q (.bl (if neg then !b else b)) H') E
structure HasC (K : PySem.W.Frag) (C f : Addr) : Prop where
  at_ : PySem.W.findIn K (.ref C) "__contains__" = some (some (.ref f))
  fn : PySem.W.isFn K (.ref f) = true
theorem opg_in (h : HasC X.K C f) (F : FnG X.prog X.w X.K X.mg X.base CX k f fd ps sp) (hr : Room k X.A) (hg : X.A.guards = some [])
    (hb : Binds X.K fd ps []) (hx : Passes CX X E) : OpR X (compareOp .In) (rHas C sp E false) := by
  intro pins s σ H y x v u Q I ry rx q
  obtain ⟨a, dx, fs, rfl, ea, q⟩ := q
  cases rx
  obtain ⟨mA, O, _⟩ := ins_get I.hok ea
  obtain ⟨od, J, _⟩ := O.look
  obtain ⟨m, hF⟩ := I.fr
  refine PySem.W.in_K hF I.ok.mod.kin J h.at_ h.fn (thn (callG (us := [.ref a, v]) (vs := [.ref a, y]) F hr hg hb .nil hx I (.cons rfl (.cons ry .nil)) q) ?_)
  rintro _ s' ⟨_, H', I', rv, b, rfl, q'⟩
  cases rv
  exact wpAny_truthy_bool ⟨V.bl _, H', I', rfl, q'⟩
theorem opg_notIn (h : HasC X.K C f) (F : FnG X.prog X.w X.K X.mg X.base CX k f fd ps sp) (hr : Room k X.A) (hg : X.A.guards = some [])
    (hb : Binds X.K fd ps []) (hx : Passes CX X E) : OpR X (compareOp .NotIn) (rHas C sp E true) := by
  intro pins s σ H y x v u Q I ry rx q
  obtain ⟨a, dx, fs, rfl, ea, q⟩ := q
  cases rx
  obtain ⟨mA, O, _⟩ := ins_get I.hok ea
  obtain ⟨od, J, _⟩ := O.look
  obtain ⟨m, hF⟩ := I.fr
  refine PySem.W.notIn_K hF I.ok.mod.kin J h.at_ h.fn (thn (callG (us := [.ref a, v]) (vs := [.ref a, y]) F hr hg hb .nil hx I (.cons rfl (.cons ry .nil)) q) ?_)
  rintro _ s' ⟨_, H', I', rv, b, rfl, q'⟩
  cases rv
  exact wpAny_truthy_bool ⟨V.bl _, H', I', rfl, q'⟩
end
end MV

set_option Elab.async false
set_option linter.all false
set_option maxRecDepth 100000
set_option maxHeartbeats 2000000
/-! MVC: == and != by an own __eq__. -/
namespace MV
open PySem PySem.Spec PyProof.Rows L2
open PySem.W (InstAt looks_findIn looks_subIn findIn subIn isFn ifBound_K notFirst)

section
variable {prog : Program} {w : World} {A : Around} {E : Value → Shared → Prop} {s : Shared} {K : PySem.W.Frag} {x C f : Addr} {ox : Obj} {od : Option Obj} {name : Str} {b tb : Value} {id : String}

/-- a special name that the class has from a built-in, called -/
theorem ifBoundB {M : Model} {args : List Value} {Q : Option Value → Shared → Prop} (X : K.In s.heap) (I : InstAt s.heap x ox C od)
    (hs : findIn K (.ref C) name = some (some (.builtin id))) (hb : ∀ self, bindSpecial (.builtin id) self = pure (.builtin id, [self]))
    (h : wpAny M A (call (.builtin id) (.ref x :: args)) (fun v => Q (some v)) E s) :
    wpAny M A (callSpecialIfBound? (.ref x) name args) Q E s := by
  simp only [callSpecialIfBound?, bindSpecialIfBound?]
  apply wpAny_holding
  apply wpAny_bind
  apply wpAny_bind
  apply wpAny_bind
  refine I.type.here ((looks_findIn X hs).here ?_)
  simp only [hb]
  have fin : wpAny M A (call (.builtin id) ([.ref x] ++ args) >>= fun v => pure (some v)) Q E s :=
    wpAny_bind (thn h fun v s' z => wpAny_pure z)
  refine wpAny_bind (wpAny_askSetting (wpAny_ite ?_))
  split
  · exact wpAny_bind (wpAny_pure (wpAny_pure fin))
  · exact wpAny_tryCatch (wpAny_bind (wpAny_pure (wpAny_pure fin)))

/-- a built-in slot's own check of its first argument, an instance -/
theorem checkSlot {M : Model} {owner n : String} {rest : List Value} {Q : Unit → Shared → Prop} (hk : builtinKind id = some .slot)
    (hs : splitId id = some (owner, n)) (ha : argsOk id ⟨.ref x :: rest, []⟩) (X : K.In s.heap) (I : InstAt s.heap x ox C od)
    (hob : subIn K (.ref C) (.type owner) = some true) (hq : Q () s) :
    wpAny M A (checkBuiltinCall id ⟨.ref x :: rest, []⟩) Q E s := by
  simp only [checkBuiltinCall, hk, hs]
  apply wpAny_bind
  unfold isInstance
  refine wpAny_bind (I.type.here ((looks_subIn X hob).here ?_))
  match hsig : Manifest.signature? id with
  | none => exact wpAny_pure hq
  | some sig =>
    simp only [argsOk, hsig] at ha
    have h2 : Bind.checkArgs id sig ⟨.ref x :: rest, []⟩ = pure () := ha
    show wpAny M A (Bind.checkArgs id sig ⟨.ref x :: rest, []⟩) Q E _
    rw [h2]
    exact wpAny_pure hq

/-- what != asks of a class with an own __eq__ and no own __ne__ -/
structure EqC (K : PySem.W.Frag) (C f : Addr) : Prop where
  at_ : findIn K (.ref C) "__eq__" = some (some (.ref f))
  fn : isFn K (.ref f) = true
  ne_ : findIn K (.ref C) "__ne__" = some (some (.builtin "object.__ne__"))
  ob : subIn K (.ref C) (.type "object") = some true

theorem neEntry (X : K.In s.heap) (I : InstAt s.heap x ox C od) (c : EqC K C f) (hu : A.units < cLine) {Q : Fin → Shared → Prop}
    (hcall : wpAny (model prog w) A (call (.ref f) [.ref x, b]) (fun v s' => ∃ r, v = .bool r ∧ Q (.done (.ret (.bool (!r)))) s') E s) :
    wpAny (model prog w) A (Builtin.«object.__ne__» ⟨[.ref x, b], []⟩) Q E s := by
  unfold Builtin.«object.__ne__»
  repeat (first
    | with_reducible refine wpAny_cRoomFor hu ?_
    | (refine wpAny_bind (m := callSpecialIfBound? (.ref x) (Str.ofString "__eq__") [b])
        (ifBound_K X I c.at_ c.fn (thn hcall fun r s' hr => by
          obtain ⟨b, rfl, hq⟩ := hr
          repeat (first | exact hq | exact wpAny_pure hq | exact wpAny_truthy_bool hq | (refine wpAny_bind (m := truthy (.bool _)) (wpAny_truthy_bool ?_)) | wp_step))))
    | wp_step)

theorem neOwn (X : K.In s.heap) (I : InstAt s.heap x ox C od) (c : EqC K C f) (hb : PySem.W.Looks (model prog w) s.heap (typeOf b) tb)
    (hn : notFirst K C tb = true) (hu : A.units + 1 < cLine) {Q : Value → Shared → Prop}
    (hcall : wpAny (model prog w) A.in1 (call (.ref f) [.ref x, b]) (fun v s' => ∃ r, v = .bool r ∧ Q (.bool (!r)) s') E s) :
    wpAny (model prog w) A (richCompare .NotEq (.ref x) b) Q E s := by
  have one : wpAny (model prog w) A (tryCompare (.ref x) (cmpInfo .NotEq).2.1 b) (fun r s' => ∃ v, r = some v ∧ Q v s') E s := by
    have ent : wpAny (model prog w) A.in1 (Builtin.«object.__ne__» ⟨[.ref x, b], []⟩)
        (fun fin s' => match fin with
          | .done q => ∃ r, q = .ret (.bool r) ∧ Q (.bool r) s'
          | .again _ => False) E s :=
      neEntry X I c hu (thn hcall fun v s' ⟨r, e, q⟩ => ⟨r, e, !r, rfl, q⟩)
    unfold tryCompare
    refine wpAny_bind (ifBoundB X I c.ne_ F.cmp_object.ne.bind (wpAny_call (codeAny_call_builtin F.cmp_object.ne.plain F.cmpEntry_ne
      (checkSlot F.cmpKind_ne F.cmpSplit_ne (F.cmpArgs_ne _ _) X I c.ob ?_))))
    refine thn ent ?_
    rintro (q | _) s' h
    · obtain ⟨r, rfl, q⟩ := h
      first | exact ⟨_, rfl, q⟩ | exact wpAny_pure ⟨_, rfl, q⟩
    · exact h.elim
  unfold richCompare
  simp only [oneThing_ref]
  refine wpAny_holding (wpAny_bind (wpAny_cRoomFor (Nat.lt_of_succ_lt hu) ?_))
  refine wpAny_bind (I.type.here (wpAny_bind (hb.here ?_)))
  have tail : wpAny (model prog w) A (tryCompare (.ref x) (cmpInfo .NotEq).2.1 b >>= fun r => match r with
      | some v => pure v
      | none => (pure .none : Sem Value)) Q E s := wpAny_bind (thn one fun r s' ⟨v, e, q⟩ => by subst e; exact wpAny_pure q)
  split
  · rename_i q
    have e : subIn K tb (.ref C) = some false := by
      rcases Bool.or_eq_true_iff.mp hn with e | e
      · rw [beq_iff_eq.mp e] at q
        simp at q
      · exact beq_iff_eq.mp e
    refine wpAny_bind ((looks_subIn X e).here ?_)
    simp only [Bool.false_eq_true, if_false]
    refine wpAny_bind (thn one ?_)
    rintro _ s' ⟨v, rfl, q⟩
    exact wpAny_pure q
  · refine wpAny_bind (wpAny_pure ?_)
    simp only [Bool.false_eq_true, if_false]
    refine wpAny_bind (thn one ?_)
    rintro _ s' ⟨v, rfl, q⟩
    exact wpAny_pure q
end
end MV

set_option Elab.async false
set_option linter.all false
set_option maxRecDepth 100000
set_option maxHeartbeats 2000000
namespace MV
open PySem PySem.Spec PyProof.Rows L2
section
variable {X : Cx} {CX : CXT} {k : Nat} {f C : Addr} {fd : FuncData} {ps : List Str} {sp : Sp} {E : XK}
/-- x == y, x != y, x an instance of a class with an own __eq__ -/
def rOwnEq (K : PySem.W.Frag) (C : Addr) (sp : Sp) (E : XK) (neg : Bool) : R2 := fun x y H Q => ∃ a dx fs t, x = .ref a ∧ H a = some (.ins C dx fs) ∧
  TyX K H y t ∧ PySem.W.notFirst K C t = true ∧ sp [x, y] H (fun z H' => ∃ b, z = .bl b ∧ Q (.bl (if neg then !b else b)) H') E
theorem opg_eq (c : EqC X.K C f) (F : FnG X.prog X.w X.K X.mg X.base CX k f fd ps sp) (hr : Room k X.A) (hg : X.A.guards = some [])
    (hb : Binds X.K fd ps []) (hx : Passes CX X E) : OpR X (compareOp .Eq) (rOwnEq X.K C sp E false) := by
  intro pins s σ H x y v u Q I rx ry q
  obtain ⟨a, dx, fs, t, rfl, ea, ty, nf, q⟩ := q
  cases rx
  obtain ⟨mA, O, _⟩ := ins_get I.hok ea
  obtain ⟨od, J, _⟩ := O.look
  obtain ⟨m, hF⟩ := I.fr
  obtain ⟨P, kx, hP, _⟩ := kit_of I ry ty
  show wpAny _ _ (richCompare .Eq _ _) _ _ _
  refine PySem.W.cmp_K (op := .Eq) hr.units0 hF I.ok.mod.kin J (kx.ty _ _ I.kIn hP) nf c.at_ c.fn ?_
  refine thn (callG (us := [.ref a, u]) (vs := [.ref a, y]) F hr hg hb .nil hx I (.cons rfl (.cons ry .nil)) q) ?_
  rintro _ s' ⟨_, H', I', rv, b, rfl, q'⟩
  cases rv
  exact ⟨V.bl _, H', I', rfl, q'⟩
theorem opg_ne (c : EqC X.K C f) (F : FnG X.prog X.w X.K X.mg X.base CX k f fd ps sp) (hr : Room (k + 1) X.A) (hg : X.A.guards = some [])
    (hb : Binds X.K fd ps []) (hx : Passes CX X E) : OpR X (compareOp .NotEq) (rOwnEq X.K C sp E true) := by
  intro pins s σ H x y v u Q I rx ry q
  obtain ⟨a, dx, fs, t, rfl, ea, ty, nf, q⟩ := q
  cases rx
  obtain ⟨mA, O, _⟩ := ins_get I.hok ea
  obtain ⟨od, J, _⟩ := O.look
  obtain ⟨P, kx, hP, _⟩ := kit_of I ry ty
  show wpAny _ _ (richCompare .NotEq _ _) _ _ _
  have hu : X.A.units + 1 < cLine := by have := hr.un; omega
  refine neOwn I.kIn J c (kx.ty _ _ I.kIn hP) nf hu (wpAny_call ?_)
  refine codeAny_mono (runG (us := [.ref a, u]) (vs := [.ref a, y]) F hr.in1 hg I.env0.in1 hb .nil hx I (.cons rfl (.cons ry .nil)) q) fun r s' hq => ?_
  match r, hq with
  | .error _, hq => exact hq
  | .ok (.ret w), ⟨_, H', I', rv, b, e, q'⟩ =>
    subst e
    have e2 : w = Value.bool b := rv
    subst e2
    exact ⟨b, rfl, V.bl (!b), H', I', rfl, q'⟩
end
end MV

set_option Elab.async false
set_option linter.all false
set_option maxRecDepth 100000
set_option maxHeartbeats 2000000
/-! MVE: what a step leaves of the heap (Stp), int tuples (IT), readings by lemmas (r_*), the walk over them. -/
namespace MV
open PySem PySem.Spec PyProof.Rows L2

/-! ### the tape of draws -/
/-- at t the tape: the script's ints, how many are read, what is left of a great one, the seed -/
def TapeL (H : Hp) (t l : Addr) : Prop := ∃ (ns : List Int) (a b c : Int), l ≠ t ∧
  H t = some (.lst [.ref l, .int a, .int b, .int c]) ∧ H l = some (.lst (ns.map V.int)) ∧ 0 ≤ a ∧ 0 ≤ c ∧ c < 2147483647
def Tape (H : Hp) (t : Addr) : Prop := ∃ l, TapeL H t l

/-- what a step leaves: all objects, but for the list at t (the tape), which stays a tape -/
structure Stp (t : Option Addr) (H H' : Hp) : Prop where
  ge : ∀ b o, (t = some b → ∀ xs, o ≠ .lst xs) → H b = some o → H' b = some o
  tp : ∀ a l, t = some a → TapeL H a l → TapeL H' a l

theorem TapeL.more {H H' : Hp} {a l : Addr} (T : TapeL H a l) (s : ∀ b o, H b = some o → H' b = some o) : TapeL H' a l := by
  obtain ⟨ns, x, b, c, h1, h2, h3, h4⟩ := T
  exact ⟨ns, x, b, c, h1, s _ _ h2, s _ _ h3, h4⟩
theorem Tape.more {H H' : Hp} {a : Addr} (T : Tape H a) (s : ∀ b o, H b = some o → H' b = some o) : Tape H' a := (let ⟨l, h⟩ := T; ⟨l, h.more s⟩)
theorem Stp.refl (t : Option Addr) (H : Hp) : Stp t H H := ⟨fun _ _ _ h => h, fun _ _ _ h => h⟩
theorem Stp.all {H H' : Hp} (s : Stp none H H') : ∀ b o, H b = some o → H' b = some o := fun b o h => s.ge b o (fun z => nomatch z) h
theorem Stp.of {H H' : Hp} (s : ∀ b o, H b = some o → H' b = some o) (t : Option Addr) : Stp t H H' := ⟨fun b o _ h => s b o h, fun _ _ _ T => T.more s⟩
theorem Stp.w {H H' : Hp} {t : Option Addr} (s : Stp none H H') : Stp t H H' := Stp.of s.all t
theorem Stp.trans {H H1 H2 : Hp} {t : Option Addr} (a : Stp t H H1) (b : Stp t H1 H2) : Stp t H H2 :=
  ⟨fun c o n h => b.ge c o n (a.ge c o n h), fun c l e T => b.tp c l e (a.tp c l e T)⟩
theorem Stp.new {H : Hp} {p : Addr} {o : HO} (h : H p = none) : Stp none H (upd H p o) := Stp.of (fun b u e => by
  rw [upd_ne (ne_of_none e h)]
  exact e) none
theorem Tape.mv {t : Option Addr} {H H' : Hp} {a : Addr} (s : Stp t H H') (h : t = none ∨ t = some a) (T : Tape H a) : Tape H' a := by
  rcases h with rfl | rfl
  · exact T.more s.all
  · exact (let ⟨l, h⟩ := T; ⟨l, s.tp a l rfl h⟩)
theorem Tape.mvN {H H' : Hp} {a : Addr} (s : Stp none H H') (T : Tape H a) : Tape H' a := T.more s.all
theorem Tape.mvS {H H' : Hp} {a : Addr} (s : Stp (some a) H H') (T : Tape H a) : Tape H' a := (let ⟨l, h⟩ := T; ⟨l, s.tp a l rfl h⟩)
theorem Stp.same {H H' : Hp} (s : Stp none H H') : Same H H' := s.all

/-! ### int tuples, lists, instances -/
/-- v is a tuple of the ints ns -/
def IT (H : Hp) (v : V) (ns : List Int) : Prop := ∃ p, v = .ref p ∧ H p = some (.tup (ns.map V.int))
theorem IT.mv {t : Option Addr} {H H' : Hp} {v : V} {ns : List Int} (s : Stp t H H') (h : IT H v ns) : IT H' v ns := by
  obtain ⟨p, e, h⟩ := h
  exact ⟨p, e, s.ge _ _ (fun _ xs z => by cases z) h⟩
/-- as IT, or a tuple of the text that is always there -/
def IK (K : PySem.W.Frag) (H : Hp) (v : V) (ns : List Int) : Prop := ∃ p, v = .ref p ∧ SqT K H p (ns.map V.int)
theorem IT.k {K : PySem.W.Frag} {H : Hp} {v : V} {ns : List Int} (h : IT H v ns) : IK K H v ns := by
  obtain ⟨p, e, h⟩ := h
  exact ⟨p, e, SqT.of h⟩
theorem SqT.mvS {K : PySem.W.Frag} {t : Option Addr} {H H' : Hp} {p : Addr} {xs : List V} (s : Stp t H H') (h : SqT K H p xs) : SqT K H' p xs := by
  rcases h with h | h
  · rcases h with h | ⟨o, h⟩
    · exact .inl (.inl (s.ge _ _ (fun _ xs z => by cases z) h))
    · exact .inl (.inr ⟨o, s.ge _ _ (fun _ xs z => by cases z) h⟩)
  · exact .inr h
theorem IK.mv {K : PySem.W.Frag} {t : Option Addr} {H H' : Hp} {v : V} {ns : List Int} (s : Stp t H H') (h : IK K H v ns) : IK K H' v ns := by
  obtain ⟨p, e, h⟩ := h
  exact ⟨p, e, SqT.mvS s h⟩
theorem At.tup {t : Option Addr} {H H' : Hp} {p : Addr} {xs : List V} (s : Stp t H H') (h : H p = some (.tup xs)) : H' p = some (.tup xs) :=
  s.ge _ _ (fun _ xs z => by cases z) h
theorem At.ins {t : Option Addr} {H H' : Hp} {p C dx : Addr} {fs : List (Str × V)} (s : Stp t H H') (h : H p = some (.ins C dx fs)) : H' p = some (.ins C dx fs) :=
  s.ge _ _ (fun _ xs z => by cases z) h
theorem At.lst {H H' : Hp} {p : Addr} {xs : List V} (s : Stp none H H') (h : H p = some (.lst xs)) : H' p = some (.lst xs) := s.all _ _ h
theorem At.lstS {t : Addr} {H H' : Hp} {p : Addr} {xs : List V} (s : Stp (some t) H H') (n : p ≠ t) (h : H p = some (.lst xs)) : H' p = some (.lst xs) :=
  s.ge _ _ (fun z => absurd (Option.some.inj z).symm n) h

theorem dp_ints {K : PySem.W.Frag} {H : Hp} : ∀ ns : List Int, DpAll K H (ns.map V.int) (ns.map PyData.int)
  | [] => .nil
  | n :: r => .cons (.int n) (dp_ints r)
theorem IK.dp {K : PySem.W.Frag} {H : Hp} {v : V} {ns : List Int} (h : IK K H v ns) : Dp K H v (.tuple (ns.map PyData.int)) := by
  obtain ⟨p, rfl, h⟩ := h
  exact .tup h (dp_ints ns)
theorem canLay_ints : ∀ ns : List Int, PyData.canLayAll0 (ns.map PyData.int) = true
  | [] => by rw [List.map_nil, PyData.canLayAll0]
  | n :: r => by rw [List.map_cons, PyData.canLayAll0, canLay_ints r, PyData.canLay0]; rfl
theorem depth_ints : ∀ ns : List Int, PyData.depthAll (ns.map PyData.int) = 0
  | [] => by rw [List.map_nil, PyData.depthAll]
  | n :: r => by rw [List.map_cons, PyData.depthAll, depth_ints r, PyData.depth]; rfl
theorem shaped_int (ns : List Int) : SeqAt.shaped (.tuple (ns.map PyData.int)) = true := by
  unfold SeqAt.shaped
  rw [PyData.canLay0, canLay_ints, PyData.depth, depth_ints]
  rfl
theorem eqvAll_ints : ∀ ns ms : List Int, PyData.eqvAll (ns.map PyData.int) (ms.map PyData.int) = decide (ns = ms)
  | [], [] => by rw [List.map_nil, PyData.eqvAll]; rfl
  | [], _ :: _ => by rw [List.map_nil, List.map_cons, PyData.eqvAll]; rfl
  | _ :: _, [] => by rw [List.map_nil, List.map_cons, PyData.eqvAll]; rfl
  | n :: r, m :: q => by
    rw [List.map_cons, List.map_cons, PyData.eqvAll, PyData.eqv, eqvAll_ints r q]
    by_cases h : n = m
    · subst h
      by_cases h2 : r = q
      · subst h2; simp
      · simp [h2]
    · simp [h]
theorem eqv_ints (ns ms : List Int) : PyData.eqv (.tuple (ns.map PyData.int)) (.tuple (ms.map PyData.int)) = decide (ns = ms) := by
  rw [PyData.eqv, eqvAll_ints]

/-! ### readings -/
section
variable {K : PySem.W.Frag} {σ : L2.St} {H H1 H2 : Hp} {Q : VK} {v x y : V} {i j : Int} {n : Nat} {ta tb te tc : TE} {t u : TS} {D : Ends} {tt uu : TT} {a tr : TA} {r : R2} {g : TG} {gs : TGs}
theorem r_var (h : σ[n]? = some (some v)) (q : Q v H) : tVar n σ H Q := ⟨v, h, q⟩
theorem r_c (q : Q v H) : tC v σ H Q := q
theorem r_op (q : ta σ H fun x H1 => tb σ H1 fun y H2 => r x y H2 Q) : tOp r ta tb σ H Q := q
theorem r_un {r : V → Hp → VK → Prop} (q : ta σ H fun x H1 => r x H1 Q) : tUn r ta σ H Q := q
theorem r_nil {Q : List V → Hp → Prop} (q : Q [] H) : tNil σ H Q := q
theorem r_cons {Q : List V → Hp → Prop} (q : ta σ H fun x H1 => tr σ H1 fun xs H2 => Q (x :: xs) H2) : tCons ta tr σ H Q := q
/-- a new tuple, a new list of xs is handed to Q -/
def NewT (xs : List V) (H : Hp) (Q : VK) : Prop := xs.length ≤ sizeLine ∧ ∀ p, H p = none → Q (.ref p) (upd H p (.tup xs))
def NewL (xs : List V) (H : Hp) (Q : VK) : Prop := xs.length ≤ sizeLine ∧ ∀ p, H p = none → Q (.ref p) (upd H p (.lst xs))
theorem r_tup (q : a σ H fun xs H1 => NewT xs H1 Q) : tTup a σ H Q := q
theorem r_lst (q : a σ H fun xs H1 => NewL xs H1 Q) : tLst a σ H Q := q
theorem r_newT {xs : List V} (hl : xs.length ≤ sizeLine) (k : ∀ p H2, Stp none H H2 → H2 p = some (.tup xs) → H p = none → Q (.ref p) H2) :
    NewT xs H Q := ⟨hl, fun p hp => k p _ (Stp.new hp) upd_same hp⟩
theorem r_newL {xs : List V} (hl : xs.length ≤ sizeLine) (k : ∀ p H2, Stp none H H2 → H2 p = some (.lst xs) → H p = none → Q (.ref p) H2) :
    NewL xs H Q := ⟨hl, fun p hp => k p _ (Stp.new hp) upd_same hp⟩
theorem sz100 {n : Nat} (h : n ≤ 100) : n ≤ sizeLine := Nat.le_trans h (by decide)
theorem r_newI {ns : List Int} (hl : ns.length ≤ 100) (k : ∀ v H2, Stp none H H2 → IT H2 v ns → Q v H2) :
    NewT (ns.map V.int) H Q :=
  ⟨sz100 (by rw [List.length_map]; exact hl), fun p hp => k _ _ (Stp.new hp) ⟨p, rfl, upd_same⟩⟩
theorem r_newI2 (k : ∀ v H2, Stp none H H2 → IT H2 v [i, j] → Q v H2) : NewT [V.int i, V.int j] H Q := r_newI (ns := [i, j]) (Nat.le_of_ble_eq_true rfl) k
theorem r_newI3 {l : Int} (k : ∀ v H2, Stp none H H2 → IT H2 v [i, j, l] → Q v H2) : NewT [V.int i, V.int j, V.int l] H Q := r_newI (ns := [i, j, l]) (Nat.le_of_ble_eq_true rfl) k
theorem r_newL1 (k : ∀ p H2, Stp none H H2 → H2 p = some (.lst [x]) → H p = none → Q (.ref p) H2) : NewL [x] H Q := r_newL (sz100 (Nat.le_of_ble_eq_true rfl)) k
theorem r_newL2 (k : ∀ p H2, Stp none H H2 → H2 p = some (.lst [x, y]) → H p = none → Q (.ref p) H2) : NewL [x, y] H Q := r_newL (sz100 (Nat.le_of_ble_eq_true rfl)) k
theorem r_newL3 {z : V} (k : ∀ p H2, Stp none H H2 → H2 p = some (.lst [x, y, z]) → H p = none → Q (.ref p) H2) : NewL [x, y, z] H Q := r_newL (sz100 (Nat.le_of_ble_eq_true rfl)) k
theorem r_cb {r : List V → Hp → VK → Prop} (q : a σ H fun vs H1 => r vs H1 Q) : tCB r a σ H Q := q
theorem r_call {sp : Sp} {dvs : List V} {E : XK} (q : a σ H fun vs H1 => sp (vs ++ dvs) H1 Q E) : tCall sp dvs E a σ H Q := q
theorem r_prop {C : Addr} {sp : Sp} {dvs : List V} {E : XK} (q : ta σ H fun x H1 => ∃ a dx fs, x = .ref a ∧ H1 a = some (.ins C dx fs) ∧ sp (.ref a :: dvs) H1 Q E) : tProp C sp dvs E ta σ H Q := q
theorem r_meth {C : Addr} {m : Str} {sp : Sp} {dvs : List V} {E : XK} (q : ta σ H fun x H1 => ∃ b dx fs, x = .ref b ∧ H1 b = some (.ins C dx fs) ∧ fs.lookup m = none ∧ a σ H1 fun vs H2 => sp (x :: (vs ++ dvs)) H2 Q E) :
    tMeth C m sp dvs E ta a σ H Q := q
/-- C(..): a new object is handed to __init__ and then to Q -/
def MkR (C : Addr) (sp : Sp) (vs : List V) (H1 : Hp) (Q : VK) (E : XK) : Prop := ∀ x dx, H1 x = none → H1 dx = none → dx ≠ x →
    sp (.ref x :: vs) (upd (upd H1 dx (.own x)) x (.ins C dx [])) (fun v H2 => v = .non ∧ Q (.ref x) H2) E
theorem r_make {C : Addr} {sp : Sp} {dvs : List V} {E : XK} (q : a σ H fun vs H1 => MkR C sp (vs ++ dvs) H1 Q E) : tMake C sp dvs E a σ H Q := q
theorem r_andV (q : ta σ H fun x H1 => ∃ c, x = .bl c ∧ if c = true then tb σ H1 Q else Q (.bl false) H1) : tAndV ta tb σ H Q := q
theorem r_orV (q : ta σ H fun x H1 => ∃ c, x = .bl c ∧ if c = true then Q (.bl true) H1 else tb σ H1 Q) : tOrV ta tb σ H Q := q
theorem r_notV (q : ta σ H fun x H1 => ∃ c, x = .bl c ∧ Q (.bl (!c)) H1) : tNotV ta σ H Q := q
theorem r_chain {r' : R2} (q : ta σ H fun x H1 => tb σ H1 fun y H2 => r x y H2 fun z H3 => ∃ k, z = .bl k ∧ (if k = true then tc σ H3 fun w' H4 => r' y w' H4 Q else Q (.bl false) H3)) : tChain r r' ta tb tc σ H Q := q
theorem r_ifE (q : tt σ H fun c H1 => if c = true then ta σ H1 Q else tb σ H1 Q) : tIf tt ta tb σ H Q := q
section
variable {Q : Bool → Hp → Prop}
theorem r_test (q : te σ H fun x H' => ∃ k, x = .bl k ∧ Q k H') : tTest te σ H Q := q
theorem r_B (q : te σ H fun x H' => ∃ k, x = .bl k ∧ Q k H') : tB te σ H Q := q
theorem r_and (q : tt σ H fun c H1 => if c = true then uu σ H1 Q else Q false H1) : tAnd tt uu σ H Q := q
theorem r_or (q : tt σ H fun c H1 => if c = true then Q true H1 else uu σ H1 Q) : tOr tt uu σ H Q := q
theorem r_not (q : tt σ H fun c H1 => Q (!c) H1) : tNot tt σ H Q := q
theorem r_yes (q : Q true H) : tYes σ H Q := q
theorem r_k {b : Bool} (q : Q b H) : ∃ k, V.bl b = .bl k ∧ Q k H := ⟨b, rfl, q⟩
end
theorem r_kV {b : Bool} {P : Bool → Prop} (q : P b) : ∃ k, V.bl b = .bl k ∧ P k := ⟨b, rfl, q⟩
theorem r_seq (q : t { D with nx := u D } σ H) : tSeq t u D σ H := q
theorem r_next (q : D.nx σ H) : tNext D σ H := q
theorem r_asg (q : te σ H fun x H1 => g x σ H1 D.nx) : tAsg te g D σ H := q
theorem r_drop (q : te σ H fun _ H1 => D.nx σ H1) : tDrop te D σ H := q
theorem r_ret (q : te σ H D.rt) : tRet te D σ H := q
theorem r_ifS (q : tt σ H fun b H1 => if b = true then t D σ H1 else u D σ H1) : tIfS tt t u D σ H := q
theorem r_par {m : Nat} (q : a σ H fun vs H1 => ∃ v w, vs = [v, w] ∧ D.nx ((σ.set n (some v)).set m (some w)) H1) : tPar n m a D σ H := q
theorem r_par1 {m : Nat} (q : D.nx ((σ.set n (some x)).set m (some y)) H) : ∃ v w, [x, y] = [v, w] ∧ D.nx ((σ.set n (some v)).set m (some w)) H := ⟨x, y, rfl, q⟩
section
variable {Q : L2.St → Hp → Prop} {vs : List V}
theorem r_gname (q : Q (σ.set n (some v)) H) : gName n v σ H Q := q
theorem r_gnil (q : Q σ H) : gNil [] σ H Q := ⟨rfl, q⟩
theorem r_gcons (q : g v σ H fun σ' H' => gs vs σ' H' Q) : gCons g gs (v :: vs) σ H Q := ⟨v, vs, rfl, q⟩
theorem r_unpack {ns : List Int} (h : IK K H v ns) (hn : ns.length = n) (q : gs (ns.map V.int) σ H Q) : gTup K n gs v σ H Q := by
  obtain ⟨p, rfl, h⟩ := h
  exact ⟨p, _, rfl, h, by rw [List.length_map]; exact hn, q⟩
theorem r_unpack2 (h : IK K H v [i, j]) (q : gs [V.int i, V.int j] σ H Q) : gTup K 2 gs v σ H Q := r_unpack h rfl q
theorem r_unpack3 {l : Int} (h : IK K H v [i, j, l]) (q : gs [V.int i, V.int j, V.int l] σ H Q) : gTup K 3 gs v σ H Q := r_unpack h rfl q
end
-- operators by values
theorem r_add (q : Q (.int (i + j)) H) : rI0 (fun i j => .int (i + j)) (.int i) (.int j) H Q := ⟨i, j, rfl, rfl, q⟩
theorem r_sub (q : Q (.int (i - j)) H) : rI0 (fun i j => .int (i - j)) (.int i) (.int j) H Q := ⟨i, j, rfl, rfl, q⟩
theorem r_mod (h : 0 < j) (q : Q (.int (i % j)) H) : rI (fun _ j => 0 < j) (fun i j => .int (i % j)) (.int i) (.int j) H Q := ⟨i, j, rfl, rfl, h, q⟩
theorem r_div (h : CDivW i j) (q : Q (.int (i / j)) H) : rI CDivW (fun i j => .int (i / j)) (.int i) (.int j) H Q := ⟨i, j, rfl, rfl, h, q⟩
theorem r_mulW (h : CMulW i j) (q : Q (.int (i * j)) H) : rI CMulW (fun i j => .int (i * j)) (.int i) (.int j) H Q := ⟨i, j, rfl, rfl, h, q⟩
theorem r_mul (h : CMul i j) (q : Q (.int (i * j)) H) : rI CMul (fun i j => .int (i * j)) (.int i) (.int j) H Q := ⟨i, j, rfl, rfl, h, q⟩
theorem r_pow (h : CPow i j) (q : Q (.int (i ^ j.toNat)) H) : rI CPow (fun i j => .int (i ^ j.toNat)) (.int i) (.int j) H Q := ⟨i, j, rfl, rfl, h, q⟩
theorem r_neg (q : Q (.int (-i)) H) : rU (fun i => .int (-i)) (.int i) H Q := ⟨i, rfl, q⟩
theorem r_lt (q : Q (.bl (decide (i < j))) H) : rI0 (fun i j => .bl (decide (i < j))) (.int i) (.int j) H Q := ⟨i, j, rfl, rfl, q⟩
theorem r_le (q : Q (.bl (decide (i ≤ j))) H) : rI0 (fun i j => .bl (decide (i ≤ j))) (.int i) (.int j) H Q := ⟨i, j, rfl, rfl, q⟩
theorem r_gt (q : Q (.bl (decide (j < i))) H) : rI0 (fun i j => .bl (decide (j < i))) (.int i) (.int j) H Q := ⟨i, j, rfl, rfl, q⟩
theorem r_ge (q : Q (.bl (decide (j ≤ i))) H) : rI0 (fun i j => .bl (decide (j ≤ i))) (.int i) (.int j) H Q := ⟨i, j, rfl, rfl, q⟩
theorem dec_int : decide (V.int i = V.int j) = decide (i = j) := decide_eq_decide.mpr ⟨V.int.inj, congrArg V.int⟩
theorem r_eqI (q : Q (.bl (decide (i = j))) H) : rEq (.int i) (.int j) H Q := ⟨rfl, by rw [dec_int]; exact q⟩
theorem r_neI (q : Q (.bl (!decide (i = j))) H) : rNe (.int i) (.int j) H Q := ⟨rfl, by rw [dec_int]; exact q⟩
theorem dec_str {s z : Str} : decide (V.str s = V.str z) = decide (s = z) := decide_eq_decide.mpr ⟨V.str.inj, congrArg V.str⟩
theorem r_eqS {s z : Str} (q : Q (.bl (decide (s = z))) H) : rEq (.str s) (.str z) H Q := ⟨rfl, by rw [dec_str]; exact q⟩
theorem r_neS {s z : Str} (q : Q (.bl (!decide (s = z))) H) : rNe (.str s) (.str z) H Q := ⟨rfl, by rw [dec_str]; exact q⟩
/-- == and != of int tuples -/
theorem r_eqT {ns ms : List Int} (hx : IK K H x ns) (hy : IK K H y ms) (q : Q (.bl (decide (ns = ms))) H) : rEqD K x y H Q :=
  ⟨_, _, hx.dp, hy.dp, shaped_int ns, shaped_int ms, by rw [eqv_ints]; exact q⟩
theorem r_neT {ns ms : List Int} (hx : IK K H x ns) (hy : IK K H y ms) (q : Q (.bl (!decide (ns = ms))) H) : rNeD K x y H Q :=
  ⟨_, _, hx.dp, hy.dp, shaped_int ns, shaped_int ms, by rw [eqv_ints]; exact q⟩
/-- an item of an int tuple -/
theorem r_ixI {ns : List Int} {m : Int} (h : IK K H v ns) (hn : ns[n]? = some m) (q : Q (.int m) H) : rIx K v (.int (n : Nat)) H Q := by
  obtain ⟨p, rfl, h⟩ := h
  exact .inr (.inl ⟨p, _, _, _, rfl, rfl, h, atI_nat (by rw [List.getElem?_map, hn]; rfl), q⟩)
theorem r_ix0 {m : Int} {ns : List Int} (h : IK K H v (m :: ns)) (q : Q (.int m) H) : rIx K v (.int 0) H Q := r_ixI (n := 0) h rfl q
theorem r_ix1 {m k : Int} {ns : List Int} (h : IK K H v (k :: m :: ns)) (q : Q (.int m) H) : rIx K v (.int 1) H Q := r_ixI (n := 1) h rfl q
theorem r_ix2 {m k l : Int} {ns : List Int} (h : IK K H v (k :: l :: m :: ns)) (q : Q (.int m) H) : rIx K v (.int 2) H Q := r_ixI (n := 2) h rfl q
/-- an item of a list that stands in H -/
theorem r_ixL {p : Addr} {xs : List V} (h : H p = some (.lst xs)) (hn : xs[n]? = some v) (q : Q v H) : rIx K (.ref p) (.int (n : Nat)) H Q :=
  .inl ⟨p, xs, _, v, rfl, rfl, SqL.of h, atI_nat hn, q⟩
theorem r_ixLi {p : Addr} {xs : List V} {i : Int} (h : H p = some (.lst xs)) (h0 : 0 ≤ i) (hn : xs[i.toNat]? = some v) (q : Q v H) : rIx K (.ref p) (.int i) H Q := by
  have e : i = ((i.toNat : Nat) : Int) := (Int.toNat_of_nonneg h0).symm
  rw [e]
  exact r_ixL h hn q
theorem ixN_nat {m k : Nat} (h : k < m) : ixN m ((k : Nat) : Int) = some k := by
  unfold ixN
  rw [if_pos (Int.natCast_nonneg k), if_pos (by omega)]
  rfl
theorem r_setL {p : Addr} {xs : List V} {Q : Hp → Prop} (h : H p = some (.lst xs)) (hn : n < xs.length) (q : Q (upd H p (.lst (xs.set n v)))) : rSetL (.ref p) (.int (n : Nat)) v H Q :=
  ⟨p, xs, _, n, rfl, rfl, h, ixN_nat hn, q⟩
-- tests
theorem r_ite {p : Prop} [Decidable p] {A B : Prop} (h1 : p → A) (h2 : ¬ p → B) : if decide p = true then A else B := by
  by_cases h : p
  · rw [if_pos (decide_eq_true h)]; exact h1 h
  · rw [if_neg (by simp [h])]; exact h2 h
theorem r_iteN {p : Prop} [Decidable p] {A B : Prop} (h1 : ¬ p → A) (h2 : p → B) : if (!decide p) = true then A else B := by
  by_cases h : p
  · rw [if_neg (by simp [h])]; exact h2 h
  · rw [if_pos (by simp [h])]; exact h1 h
theorem r_T {A B : Prop} (q : A) : if true = true then A else B := q
theorem r_F {A B : Prop} (q : B) : if false = true then A else B := q
theorem r_iT {b : Bool} {A B : Prop} (h : b = true) (q : A) : if b = true then A else B := by rw [h]; exact q
theorem r_iF {b : Bool} {A B : Prop} (h : b = false) (q : B) : if b = true then A else B := by rw [h]; exact q

/-! ### more readings -/
theorem r_call0 {sp : Sp} {E : XK} (q : a σ H fun vs H1 => sp vs H1 Q E) : tCall sp [] E a σ H Q := by
  unfold tCall
  simp only [List.append_nil]
  exact q
theorem r_meth0 {C : Addr} {m : Str} {sp : Sp} {E : XK} (q : ta σ H fun x H1 => ∃ b dx fs, x = .ref b ∧ H1 b = some (.ins C dx fs) ∧ fs.lookup m = none ∧ a σ H1 fun vs H2 => sp (x :: vs) H2 Q E) :
    tMeth C m sp [] E ta a σ H Q := by
  unfold tMeth
  simp only [List.append_nil]
  exact q
theorem r_make0 {C : Addr} {sp : Sp} {E : XK} (q : a σ H fun vs H1 => MkR C sp vs H1 Q E) : tMake C sp [] E a σ H Q := by
  unfold tMake
  simp only [List.append_nil]
  exact q
theorem r_isi {c t u : _} {b : Bool} {x : V} (cl : ClsV c u) (ty : TyX K H x t) (e : PySem.W.kitOne K t u = some b) (q : Q (.bl b) H) : rIsi K [x, c] H Q :=
  ⟨x, c, t, u, b, rfl, cl, ty, e, q⟩
theorem r_isiII (q : Q (.bl true) H) : rIsi K [.int i, .ty "int"] H Q := r_isi (.ty _) (.base (.int i)) (kit_ty (by decide +kernel)) q
theorem r_isiIB (q : Q (.bl false) H) : rIsi K [.int i, .ty "bool"] H Q := r_isi (.ty _) (.base (.int i)) (kit_ty (by decide +kernel)) q
theorem ty_tup {p : Addr} {xs : List V} (h : SqT K H p xs) : TyX K H (.ref p) (.type "tuple") := by
  rcases h with h | ⟨o, _, _, h1, h2, _⟩
  · rcases h with h | ⟨o, h⟩
    · exact .base (.tup h)
    · exact .fTuple h
  · exact .kTuple h1 h2
theorem r_isiTT {ns : List Int} (h : IK K H v ns) (q : Q (.bl true) H) : rIsi K [v, .ty "tuple"] H Q := by
  obtain ⟨p, rfl, h⟩ := h
  exact r_isi (.ty _) (ty_tup h) (kit_ty (by decide +kernel)) q
def rLenV (K : PySem.W.Frag) : List V → Hp → VK → Prop := fun xs H Q => ∃ p ys, xs = [.ref p] ∧ (SqL K H p ys ∨ SqT K H p ys) ∧ Q (.int ys.length) H
theorem r_cbLen (q : a σ H fun vs H1 => rLenV K vs H1 Q) : tCB (fun xs H Q => ∃ p ys, xs = [.ref p] ∧ (SqL K H p ys ∨ SqT K H p ys) ∧ Q (.int ys.length) H) a σ H Q := q
theorem r_lenI {ns : List Int} {m : Int} (h : IK K H v ns) (e : (ns.length : Int) = m) (q : Q (.int m) H) : rLenV K [v] H Q := by
  obtain ⟨p, rfl, h⟩ := h
  refine ⟨p, _, rfl, .inr h, ?_⟩
  rw [List.length_map, e]
  exact q
theorem r_len2 (h : IK K H v [i, j]) (q : Q (.int 2) H) : rLenV K [v] H Q := r_lenI h rfl q
theorem r_len3 {l : Int} (h : IK K H v [i, j, l]) (q : Q (.int 3) H) : rLenV K [v] H Q := r_lenI h rfl q
theorem r_lenL {p : Addr} {xs : List V} (h : H p = some (.lst xs)) (q : Q (.int xs.length) H) : rLenV K [.ref p] H Q := ⟨p, xs, rfl, .inl (SqL.of h), q⟩
def rInt1 : List V → Hp → VK → Prop := fun xs H Q => (∃ i, xs = [.int i] ∧ Q (.int i) H) ∨ ∃ k, xs = [.bl k] ∧ Q (.int (if k then 1 else 0)) H
theorem r_cbInt (q : a σ H fun vs H1 => rInt1 vs H1 Q) : tCB (fun xs H Q => (∃ i, xs = [.int i] ∧ Q (.int i) H) ∨ ∃ k, xs = [.bl k] ∧ Q (.int (if k then 1 else 0)) H) a σ H Q := q
theorem r_int1 (q : Q (.int i) H) : rInt1 [.int i] H Q := .inl ⟨i, rfl, q⟩
theorem r_int1B {b : Bool} (q : Q (.int (if b then 1 else 0)) H) : rInt1 [.bl b] H Q := .inr ⟨b, rfl, q⟩
def rReprI : List V → Hp → VK → Prop := fun xs H Q => ∃ i, xs = [.int i] ∧ i.natAbs.log2 < 1920 ∧ Q (.str (toString i)) H
theorem r_cbRepr (q : a σ H fun vs H1 => rReprI vs H1 Q) : tCB (fun xs H Q => ∃ i, xs = [.int i] ∧ i.natAbs.log2 < 1920 ∧ Q (.str (toString i)) H) a σ H Q := q
theorem r_reprI (h : i.natAbs.log2 < 1920) (q : Q (.str (toString i)) H) : rReprI [.int i] H Q := ⟨i, rfl, h, q⟩
def rTupL (K : PySem.W.Frag) : List V → Hp → VK → Prop := fun xs H Q => ∃ p ys, xs = [.ref p] ∧ ((SqL K H p ys ∧ ∀ l, H l = none → Q (.ref l) (upd H l (.tup ys))) ∨ (SqT K H p ys ∧ Q (.ref p) H))
theorem r_cbTup (q : a σ H fun vs H1 => rTupL K vs H1 Q) : tCB (fun xs H Q => ∃ p ys, xs = [.ref p] ∧ ((SqL K H p ys ∧ ∀ l, H l = none → Q (.ref l) (upd H l (.tup ys))) ∨ (SqT K H p ys ∧ Q (.ref p) H))) a σ H Q := q
theorem r_tupL {p : Addr} {ns : List Int} (h : H p = some (.lst (ns.map V.int))) (k : ∀ v H2, Stp none H H2 → IT H2 v ns → Q v H2) : rTupL K [.ref p] H Q :=
  ⟨p, _, rfl, .inl ⟨SqL.of h, fun l hl => k _ _ (Stp.new hl) ⟨l, rfl, upd_same⟩⟩⟩
def rLstL (K : PySem.W.Frag) : List V → Hp → VK → Prop := fun xs H Q => ∃ p ys, xs = [.ref p] ∧ (SqL K H p ys ∨ SqT K H p ys) ∧ ∀ l, H l = none → Q (.ref l) (upd H l (.lst ys))
theorem r_cbLst (q : a σ H fun vs H1 => rLstL K vs H1 Q) : tCB (fun xs H Q => ∃ p ys, xs = [.ref p] ∧ (SqL K H p ys ∨ SqT K H p ys) ∧ ∀ l, H l = none → Q (.ref l) (upd H l (.lst ys))) a σ H Q := q
theorem r_lstL {p : Addr} {xs : List V} (h : SqL K H p xs) (k : ∀ l H2, Stp none H H2 → H2 l = some (.lst xs) → H l = none → Q (.ref l) H2) : rLstL K [.ref p] H Q :=
  ⟨p, xs, rfl, .inl h, fun l hl => k l _ (Stp.new hl) upd_same hl⟩
theorem r_nT {A B : Prop} (q : B) : if (!true) = true then A else B := q
theorem r_nF {A B : Prop} (q : A) : if (!false) = true then A else B := q
theorem r_gcd {i j : Int} (q : Q (.int ((Nat.gcd i.natAbs j.natAbs : Nat) : Int)) H) : rGcd [.int i, .int j] H Q := ⟨i, j, rfl, q⟩
theorem r_setLi {p : Addr} {xs : List V} {i : Int} {Q : Hp → Prop} (h : H p = some (.lst xs)) (h0 : 0 ≤ i) (hn : i.toNat < xs.length) (q : Q (upd H p (.lst (xs.set i.toNat v)))) : rSetL (.ref p) (.int i) v H Q := by
  have e : i = ((i.toNat : Nat) : Int) := (Int.toNat_of_nonneg h0).symm
  rw [e]
  exact r_setL h hn q
/-- xs[i] = v, both parts read -/
theorem r_gsub {to ti : TE} {t : TSet} {Q : L2.St → Hp → Prop} (q : to σ H fun o H1 => ti σ H1 fun i H2 => t o i v H2 fun H3 => Q σ H3) : gSub to ti t v σ H Q := q
/-- x.f handed to Q -/
def FldR (K : PySem.W.Frag) (f : Str) (x : V) (H : Hp) (Q : VK) : Prop := ∃ a C dx fs v, x = .ref a ∧ H a = some (.ins C dx fs) ∧ Cls K C ∧ NoAttr K C f ∧ fs.lookup f = some v ∧ Q v H
theorem r_fld {f : Str} (q : ta σ H fun x H1 => FldR K f x H1 Q) : tFld K ta f σ H Q := q
theorem mulW_of {i j : Int} (hi : i.natAbs < 10 ^ 70) (hj : j.natAbs < 10 ^ 70) : CMulW i j :=
  wide_mul (a := 240) (b := 240) (Nat.lt_of_lt_of_le hi (by decide)) (Nat.lt_of_lt_of_le hj (by decide)) (by decide) (by decide) (by decide)
theorem divW_of {i j : Int} (h : 0 < j) (hj : j.natAbs < 10 ^ 70) : CDivW i j :=
  wide_div (b := 240) h (Nat.lt_of_lt_of_le hj (by decide)) (by decide) (by decide)
theorem log2_of {i : Int} (h : i.natAbs < 10 ^ 500) : i.natAbs.log2 < 1920 := by
  have : i.natAbs < 2 ^ 1920 := Nat.lt_of_lt_of_le h (by decide +kernel)
  by_cases z : i.natAbs = 0
  · rw [z]; decide
  · exact (Nat.log2_lt z).mpr this
theorem r_p6 (q : Q (.int 1000000) H) : rI CPow (fun i j => .int (i ^ j.toNat)) (.int 10) (.int 6) H Q := ⟨10, 6, rfl, rfl, ⟨by decide, by decide, by decide⟩, q⟩
theorem r_p9 (q : Q (.int 1000000000) H) : rI CPow (fun i j => .int (i ^ j.toNat)) (.int 10) (.int 9) H Q := ⟨10, 9, rfl, rfl, ⟨by decide, by decide, by decide⟩, q⟩
theorem r_p10 (q : Q (.int 10000000000) H) : rI CPow (fun i j => .int (i ^ j.toNat)) (.int 10) (.int 10) H Q := ⟨10, 10, rfl, rfl, ⟨by decide, by decide, by decide⟩, q⟩
theorem r_p11 (q : Q (.int 100000000000) H) : rI CPow (fun i j => .int (i ^ j.toNat)) (.int 10) (.int 11) H Q := ⟨10, 11, rfl, rfl, ⟨by decide, by decide, by decide⟩, q⟩
theorem r_p12 (q : Q (.int 1000000000000) H) : rI CPow (fun i j => .int (i ^ j.toNat)) (.int 10) (.int 12) H Q := ⟨10, 12, rfl, rfl, ⟨by decide, by decide, by decide⟩, q⟩
theorem r_p18 (q : Q (.int 1000000000000000000) H) : rI CPow (fun i j => .int (i ^ j.toNat)) (.int 10) (.int 18) H Q := ⟨10, 18, rfl, rfl, ⟨by decide, by decide, by decide⟩, q⟩
theorem r_p20 (q : Q (.int 100000000000000000000) H) : rI CPow (fun i j => .int (i ^ j.toNat)) (.int 10) (.int 20) H Q := ⟨10, 20, rfl, rfl, ⟨by decide, by decide, by decide⟩, q⟩
theorem r_p26 (q : Q (.int 100000000000000000000000000) H) : rI CPow (fun i j => .int (i ^ j.toNat)) (.int 10) (.int 26) H Q := ⟨10, 26, rfl, rfl, ⟨by decide, by decide, by decide⟩, q⟩
theorem r_p27 (q : Q (.int 1000000000000000000000000000) H) : rI CPow (fun i j => .int (i ^ j.toNat)) (.int 10) (.int 27) H Q := ⟨10, 27, rfl, rfl, ⟨by decide, by decide, by decide⟩, q⟩
theorem r_p30 (q : Q (.int 1000000000000000000000000000000) H) : rI CPow (fun i j => .int (i ^ j.toNat)) (.int 10) (.int 30) H Q := ⟨10, 30, rfl, rfl, ⟨by decide, by decide, by decide⟩, q⟩
theorem r_sfld {f : Str} {tv : TE} (q : tv σ H fun y H1 => ta σ H1 fun x H2 => ∃ a C dx fs, x = .ref a ∧ H2 a = some (.ins C dx fs) ∧ Cls K C ∧ NoAttr K C f ∧ fs.length < 1000 ∧ D.nx σ (upd H2 a (.ins C dx (putF f y fs)))) :
    sFld K ta tv f D σ H := q
theorem r_unl2 {Q : L2.St → Hp → Prop} {p : Addr} (h : H p = some (.lst [x, y])) (q : gs [x, y] σ H Q) : gLst K 2 gs (.ref p) σ H Q := ⟨p, _, rfl, SqL.of h, rfl, q⟩
/-- what isinstance asks of a class of the text -/
structure IsC (K : PySem.W.Frag) (C : Addr) : Prop where
  ca : PySem.W.findIn K (.ref C) "__class__" = some (some (.builtin "object.__class__"))
  cn : PySem.W.specialIn K (.builtin "object.__class__") "__get__" = some (some (.builtin "getset_descriptor.__get__"))
  ct : PySem.W.takesIn K (.builtin "object.__class__") = some true
  cm : PySem.W.mroIn K C (.type "object") = some true
theorem IsC.ty {C p dx : Addr} {fs : List (Str × V)} (c : IsC K C) (cl : Cls K C) (h : H p = some (.ins C dx fs)) : TyX K H (.ref p) (.ref C) :=
  .base (.ins h cl c.ca c.cn c.ct c.cm)
theorem kit_self {C : Addr} : PySem.W.kitOne K (.ref C) (.ref C) = some true := by
  unfold PySem.W.kitOne
  rw [if_pos (by simp)]
theorem notFirst_self {C : Addr} : PySem.W.notFirst K C (.ref C) = true := by
  unfold PySem.W.notFirst
  simp
/-- a property's object is known -/
theorem r_propAt {C p dx : Addr} {fs : List (Str × V)} {sp : Sp} {E : XK} (h : H p = some (.ins C dx fs)) (q : sp [.ref p] H Q E) :
    ∃ a dx fs, V.ref p = .ref a ∧ H a = some (.ins C dx fs) ∧ sp (.ref a :: []) H Q E := ⟨p, dx, fs, rfl, h, q⟩
theorem r_sl {rs : V → Option Int → Option Int → Hp → VK → Prop} {tl th : TO} (q : te σ H fun x H1 => tl σ H1 fun l H2 => th σ H2 fun u H3 => rs x l u H3 Q) : tSl rs te tl th σ H Q := q
theorem r_noPart {Q : Option Int → Hp → Prop} (q : Q none H) : tNoPart σ H Q := q
theorem r_part {Q : Option Int → Hp → Prop} (q : te σ H fun x H1 => ∃ i, x = .int i ∧ Q (some i) H1) : tPart te σ H Q := q
theorem r_pk {P : Int → Prop} (q : P i) : ∃ i', V.int i = .int i' ∧ P i' := ⟨i, rfl, q⟩
theorem r_slL {p : Addr} {xs : List V} {lo hi : Option Int} (h : SqL K H p xs) (k : ∀ l H2, Stp none H H2 → H2 l = some (.lst (cutV xs lo hi)) → H l = none → Q (.ref l) H2) : rSlL K (.ref p) lo hi H Q :=
  ⟨p, xs, rfl, h, fun l hl => k l _ (Stp.new hl) upd_same hl⟩
theorem cutV_map (ns : List Int) (lo hi : Option Int) : ∃ ms : List Int, cutV (ns.map V.int) lo hi = ms.map V.int :=
  ⟨(ns.drop (HT.sIx ns.length 0 lo)).take (HT.sIx ns.length ns.length hi - HT.sIx ns.length 0 lo), by
    unfold cutV
    simp only [List.length_map, List.map_take, List.map_drop]⟩
theorem r_set1 {t : Addr} {p q r s : V} {Q : Hp → Prop} (h : H t = some (.lst [p, q, r, s])) (k : Q (upd H t (.lst [p, v, r, s]))) : rSetL (.ref t) (.int 1) v H Q := r_setLi h (by decide) (Nat.le_of_ble_eq_true rfl) k
theorem r_set2 {t : Addr} {p q r s : V} {Q : Hp → Prop} (h : H t = some (.lst [p, q, r, s])) (k : Q (upd H t (.lst [p, q, v, s]))) : rSetL (.ref t) (.int 2) v H Q := r_setLi h (by decide) (Nat.le_of_ble_eq_true rfl) k
theorem r_set3 {t : Addr} {p q r s : V} {Q : Hp → Prop} (h : H t = some (.lst [p, q, r, s])) (k : Q (upd H t (.lst [p, q, r, v]))) : rSetL (.ref t) (.int 3) v H Q := r_setLi h (by decide) (Nat.le_of_ble_eq_true rfl) k
/-- the tape at t, written out -/
structure TapeIs (H : Hp) (t l : Addr) (ns : List Int) (a b c : Int) : Prop where
  ne : l ≠ t
  at_ : H t = some (.lst [.ref l, .int a, .int b, .int c])
  li : H l = some (.lst (ns.map V.int))
  a0 : 0 ≤ a
  c0 : 0 ≤ c
  c1 : c < 2147483647
theorem Tape.is {t : Addr} (T : Tape H t) : ∃ l ns a b c, TapeIs H t l ns a b c := by
  obtain ⟨l, ns, a, b, c, h1, h2, h3, h4, h5, h6⟩ := T
  exact ⟨l, ns, a, b, c, h1, h2, h3, h4, h5, h6⟩
theorem TapeIs.put {t l : Addr} {ns : List Int} {a b c a' b' c' : Int} (T : TapeIs H t l ns a b c) (a0 : 0 ≤ a') (c0 : 0 ≤ c') (c1 : c' < 2147483647) :
    Stp (some t) H (upd H t (.lst [.ref l, .int a', .int b', .int c'])) ∧ TapeIs (upd H t (.lst [.ref l, .int a', .int b', .int c'])) t l ns a' b' c' := by
  have T' : TapeIs (upd H t (.lst [.ref l, .int a', .int b', .int c'])) t l ns a' b' c' := ⟨T.ne, upd_same, by rw [upd_ne T.ne]; exact T.li, a0, c0, c1⟩
  refine ⟨⟨fun x o n e => ?_, fun x l' e z => ?_⟩, T'⟩
  · by_cases h : x = t
    · subst h
      rw [T.at_] at e
      exact absurd (Option.some.inj e).symm (n rfl _)
    · rw [upd_ne h]; exact e
  · cases e
    have el : l' = l := by
      obtain ⟨_, _, _, _, _, h, _⟩ := z
      rw [T.at_] at h
      simp only [Option.some.injEq, HO.lst.injEq, List.cons.injEq, V.ref.injEq] at h
      exact h.1.symm
    subst el
    exact ⟨ns, a', b', c', T'.ne, T'.at_, T'.li, a0, c0, c1⟩
theorem r_while {c : TT} {tb : TS} (W : Nat → L2.St → Hp → Prop) (h0 : ∃ m, W m σ H) (hs : ∀ m σ H, W m σ H →
    c σ H fun b H1 => if b = true then ∃ N : L2.St → Hp → Prop, (∀ σ' H', N σ' H' → ∃ m', m' < m ∧ W m' σ' H') ∧ tb { D with nx := N, ct := N, bk := D.nx } σ H1 else D.nx σ H1) :
    tWhile c tb D σ H := ⟨W, h0, hs⟩
end
end MV

set_option Elab.async false
set_option linter.all false
set_option maxRecDepth 100000
set_option maxHeartbeats 2000000
/-! MVF: loops and comprehensions as readings. -/
namespace MV
open PySem PySem.Spec PyProof.Rows L2
section
variable {K : PySem.W.Frag} {σ : L2.St} {H : Hp} {n : Nat} {tl : TE} {g : TG} {tb : TS} {D : Ends} {ta : TA} {x : V}
/-- a loop over a list that stands still -/
def ForL (g : TG) (tb : TS) (D : Ends) (σ : L2.St) (x : V) (H1 : Hp) : Prop := ∃ (a : Addr) (xs : List V) (Pv : Nat → L2.St → Hp → Prop), x = .ref a ∧ Pv 0 σ H1 ∧
  (∀ i σ H, i ≤ xs.length → Pv i σ H → H a = some (.lst xs)) ∧
  (∀ i x σ H, xs[i]? = some x → Pv i σ H → g x σ H fun σ2 H2 => tb { D with nx := Pv (i + 1), ct := Pv (i + 1), bk := D.nx } σ2 H2) ∧ (∀ σ H, Pv xs.length σ H → D.nx σ H)
def ForLR (K : PySem.W.Frag) (g : TG) (tb : TS) (D : Ends) (σ : L2.St) (x : V) (H1 : Hp) : Prop := ∃ a, x = .ref a ∧ (∃ xs, SqL K H1 a xs) ∧ ∃ W : Nat → Nat → L2.St → Hp → Prop, (∃ m, W 0 m σ H1) ∧ ∀ i m σ H, W i m σ H →
  ((Itl K a).stop i H ∧ D.nx σ H) ∨ ((Itl K a).go i H ∧ ∃ N : L2.St → Hp → Prop, (∀ σ' H', N σ' H' → ∃ m', m' < m ∧ W (i + 1) m' σ' H') ∧ ∀ x H', (Itl K a).yld i H x H' → g x σ H' fun σ2 H2 => tb { D with nx := N, ct := N, bk := D.nx } σ2 H2)
theorem r_forL (q : tl σ H fun x H1 => ForLR K g tb D σ x H1) : tFor (iList K tl) g tb D σ H := q
theorem ForL.ok (q : ForL g tb D σ x H) : ForLR K g tb D σ x H := by
  obtain ⟨a, xs, Pv, rfl, h0, hl, hs, hd⟩ := q
  exact ⟨a, rfl, ⟨xs, SqL.of (hl 0 σ H (Nat.zero_le _) h0)⟩, for_list Pv h0 (fun i σ H h p => SqL.of (hl i σ H h p)) hs hd⟩
/-- range(n) -/
def ForR (g : TG) (tb : TS) (D : Ends) (σ : L2.St) (vs : List V) (H1 : Hp) : Prop := ∃ (n : Nat) (Pv : Nat → L2.St → Hp → Prop), vs = [.int n] ∧ n < 2 ^ 62 ∧ Pv 0 σ H1 ∧
  (∀ i σ H, i < n → Pv i σ H → g (.int i) σ H fun σ2 H2 => tb { D with nx := Pv (i + 1), ct := Pv (i + 1), bk := D.nx } σ2 H2) ∧ (∀ σ H, Pv n σ H → D.nx σ H)
def ForRn (g : TG) (tb : TS) (D : Ends) (σ : L2.St) (vs : List V) (H : Hp) : Prop := ∃ j : Int, vs = [.int j] ∧ -(2 ^ 62) ≤ j ∧ j < 2 ^ 62 ∧ ∃ W : Nat → Nat → L2.St → Hp → Prop, (∃ m, W 0 m σ H) ∧ ∀ i m σ H, W i m σ H →
      ((Itr 0 j.toNat).stop i H ∧ D.nx σ H) ∨ ((Itr 0 j.toNat).go i H ∧ ∃ N : L2.St → Hp → Prop, (∀ σ' H', N σ' H' → ∃ m', m' < m ∧ W (i + 1) m' σ' H') ∧ ∀ x H', (Itr 0 j.toNat).yld i H x H' → g x σ H' fun σ2 H2 => tb { D with nx := N, ct := N, bk := D.nx } σ2 H2)
theorem ForR.ok {vs : List V} (q : ForR g tb D σ vs H) : ForRn g tb D σ vs H := by
  obtain ⟨n, Pv, rfl, hn, h0, hs, hd⟩ := q
  refine ⟨n, rfl, by omega, by omega, for_range (lo := 0) (n := (n : Int).toNat) Pv h0 (fun i σ H h p => ?_) hd⟩
  rw [Int.zero_add]
  exact hs i σ H h p
theorem r_forR (q : ta σ H fun vs H1 => ForRn g tb D σ vs H1) : tFor (iRng1 ta) g tb D σ H := q
theorem r_forRc {i : Int} (q : ForR g tb D σ [.int i] H) : tFor (iRng1 (tCons (tC (.int i)) tNil)) g tb D σ H := ForR.ok q
theorem r_forRv {m : Nat} {v : V} (h : σ[m]? = some (some v)) (q : ForR g tb D σ [v] H) : tFor (iRng1 (tCons (tVar m) tNil)) g tb D σ H := ⟨v, h, ForR.ok q⟩

/-- [te for n in an int tuple], the terms made of ints alone -/
def LcI (K : PySem.W.Frag) (n : Nat) (te : TE) (vs : List Nat) (σ : L2.St) (Q : VK) (v : V) (H1 : Hp) : Prop := ∃ (ns : List Int) (f : Int → Int), IK K H1 v ns ∧ ns.length ≤ 100 ∧
  (∀ m H', m ∈ ns → Stp none H1 H' → wipe ((wipe σ vs).set n (some (.int m))) vs = wipe σ vs ∧ ∀ Q : VK, Q (.int (f m)) H' → te ((wipe σ vs).set n (some (.int m))) H' Q) ∧
  ∀ p H2, Stp none H1 H2 → H2 p = some (.lst ((ns.map f).map V.int)) → H1 p = none → Q (.ref p) H2
theorem LcI.ok {te : TE} {vs : List Nat} {Q : VK} {v : V} (q : LcI K n te vs σ Q v H) : ∃ a, v = .ref a ∧ (∃ xs, SqT K H a xs) ∧ ∀ D, H D = none → ∃ W : Nat → Nat → Hp → Prop, (∃ m, W 0 m (upd H D (.lst []))) ∧ ∀ i m H, W i m H →
  ((Itt K a).stop i H ∧ Q (.ref D) H) ∨ ((Itt K a).go i H ∧ ∃ Nx : Hp → Prop, (∀ H', Nx H' → ∃ m', m' < m ∧ W (i + 1) m' H') ∧ ∀ x H', (Itt K a).yld i H x H' → gName n x (wipe σ vs) H' fun σ2 H2 => wipe σ2 vs = wipe σ vs ∧ tYes σ2 H2 fun b H3 =>
    if b = true then te σ2 H3 fun y H4 => ∃ acc, H4 D = some (.lst acc) ∧ acc.length < sizeLine ∧ Nx (upd H4 D (.lst (acc ++ [y]))) else Nx H3) := by
  obtain ⟨ns, f, ⟨a, rfl, ha⟩, hl, hs, hd⟩ := q
  refine ⟨a, rfl, ⟨_, ha⟩, fun D hD => ?_⟩
  have up : ∀ {H' : Hp} {o : HO}, (∀ b o, H b = some o → H' b = some o) → ∀ b o', H b = some o' → upd H' D o b = some o' := fun s b o' e => by
    rw [upd_ne (ne_of_none e hD)]
    exact s b o' e
  refine lc_tup (fun i H' => (∀ b o, H b = some o → H' b = some o) ∧ H' D = some (.lst (((ns.take i).map f).map V.int))) ⟨up fun _ _ e => e, upd_same⟩
    (fun i H' _ p => SqT.mvS (Stp.of p.1 none) ha) (fun i x H' hx p => ?_) (fun H' p => hd D H' (Stp.of p.1 none) ?_ hD)
  · rw [List.getElem?_map] at hx
    obtain ⟨m, hm, rfl⟩ := Option.map_eq_some_iff.mp hx
    obtain ⟨w1, w2⟩ := hs m H' (List.mem_of_getElem? hm) (Stp.of p.1 none)
    refine ⟨w1, ?_⟩
    refine w2 _ ⟨_, p.2, ?_, up p.1, ?_⟩
    · rw [List.length_map, List.length_map, List.length_take]
      exact Nat.lt_of_le_of_lt (Nat.le_trans (Nat.min_le_right _ _) hl) (by decide)
    · rw [upd_same]
      have : i < ns.length := (List.getElem?_eq_some_iff.mp hm).1
      rw [List.take_succ, hm]
      simp
  · have e := p.2
    rw [List.length_map, List.take_length] at e
    exact e
theorem r_lcV {m : Nat} {te : TE} {vs : List Nat} {Q : VK} {v : V} (h : σ[m]? = some (some v)) (q : LcI K n te vs σ Q v H) : tLc (iTup K (tVar m)) (gName n) tYes te vs σ H Q := ⟨v, h, q.ok⟩
theorem r_nX {p : Prop} [Decidable p] {A B : Prop} (h : p) (q : B) : if (!decide p) = true then A else B := by
  rw [if_neg (by simp [h])]; exact q
theorem r_pX {p : Prop} [Decidable p] {A B : Prop} (h : p) (q : A) : if decide p = true then A else B := by
  rw [if_pos (by simp [h])]; exact q
theorem r_pN {p : Prop} [Decidable p] {A B : Prop} (h : ¬ p) (q : B) : if decide p = true then A else B := by
  rw [if_neg (by simp [h])]; exact q
end
theorem byTxt {α : Type} {p : α → Prop} {q : Prop} (h : ∃ a, p a) (k : ∀ a, p a → q) : q := (let ⟨a, z⟩ := h; k a z)
end MV

set_option Elab.async false
set_option linter.all false
set_option maxRecDepth 100000
set_option maxHeartbeats 2000000
/-! MVG: repr of data (none, bools, ints, texts, lists, tuples), where no repr is under way; how long such a text may be. -/
namespace MV
open PySem PySem.Spec PyProof.Rows L2
mutual
def bnd : PyData → Nat
  | .none => 4
  | .bool _ => 5
  | .int _ => 2000
  | .str x => (PySem.reprText x).length
  | .list ds => 2 + bndAll ds
  | .tuple ds => 3 + bndAll ds
  | .dict _ => 0
def bndAll : List PyData → Nat
  | [] => 0
  | d :: ds => bnd d + 2 + bndAll ds
end
theorem len_join : ∀ ts : List Str, (Str.join ", " ts).length ≤ piled ts
  | [] => by decide
  | t :: r => by
    have := join_length_add (t :: r) (by simp)
    omega
theorem len_list (ts : List Str) : (listText ts).length ≤ piled ts + 2 := by
  cases ts with
  | nil => decide
  | cons t r =>
    have h := textFrom_length_pos r 1 (("[" : Str) ++ (if (0 : Nat) > 0 then ", " else "" : String) ++ t) (Nat.succ_pos 0)
    have e : ((("[" : Str) ++ (if (0 : Nat) > 0 then ", " else "" : String) ++ t)).length = 1 + t.length := by
      rw [strLen_append, strLen_append]; rfl
    have hX : (listText (t :: r)).length = (textFrom 0 "[" (t :: r)).length + 1 := by
      unfold listText
      rw [strLen_append]; rfl
    have hY : textFrom 0 "[" (t :: r) = textFrom 1 (("[" : Str) ++ (if (0 : Nat) > 0 then ", " else "" : String) ++ t) r := rfl
    rw [hX, hY, h, e, piled_cons]
    omega
theorem len_tuple (ts : List Str) : (tupleText ts).length ≤ piled ts + 3 := by
  have := len_join ts
  unfold tupleText
  rw [strLen_append, strLen_append]
  have e1 : ((("(" : String) : Str)).length = 1 := rfl
  have e3 : (((if ts.length == 1 then ",)" else ")" : String) : Str)).length ≤ 2 := by split <;> decide
  rw [e1]
  omega
mutual
theorem bnd_ok : ∀ d : PyData, d.showable = true → d.hasDict = false → d.shown.length ≤ bnd d
  | .none, _, _ => by decide
  | .bool b, _, _ => by cases b <;> decide
  | .int i, h, _ => by
    rw [PyData.showable] at h
    have := PySem.int_text_length_le (a := i) (k := 1920) (by decide) (of_decide_eq_true h)
    rw [PyData.shown, bnd]
    have e : (PySem.Str.ofString (toString i)).length = (toString i).length := by exact PySem.ofString_length _
    omega
  | .str x, _, _ => by rw [PyData.shown, bnd]; exact Nat.le_refl _
  | .list ds, h, g => by
    rw [PyData.showable] at h
    rw [PyData.hasDict] at g
    have := bndAll_ok ds h g
    have := len_list (PyData.shownAll ds)
    rw [PyData.shown, bnd]
    omega
  | .tuple ds, h, g => by
    rw [PyData.showable] at h
    rw [PyData.hasDict] at g
    have := bndAll_ok ds h g
    have := len_tuple (PyData.shownAll ds)
    rw [PyData.shown, bnd]
    omega
  | .dict _, _, g => by rw [PyData.hasDict] at g; cases g
theorem bndAll_ok : ∀ ds : List PyData, PyData.showableAll ds = true → PyData.hasDictAll ds = false → piled (PyData.shownAll ds) ≤ bndAll ds
  | [], _, _ => by rw [PyData.shownAll]; exact Nat.zero_le _
  | d :: r, h, g => by
    rw [PyData.showableAll, Bool.and_eq_true] at h
    rw [PyData.hasDictAll, Bool.or_eq_false_iff] at g
    have h1 := bnd_ok d h.1 g.1
    have h2 := bndAll_ok r h.2 g.2
    rw [PyData.shownAll, piled_cons, bndAll]
    omega
end
/-- data that can be shown: ints of at most 500 digits, texts and depth within bounds -/
structure Shw (d : PyData) : Prop where
  sh : d.showable = true
  nd : d.hasDict = false
  dp : d.depth ≤ 50
  ln : bnd d ≤ sizeLine
def rRepr (K : PySem.W.Frag) : List V → Hp → VK → Prop := fun xs H Q => ∃ x d, xs = [x] ∧ Dp K H x d ∧ Shw d ∧ Q (.str d.shown) H
theorem callg_repr {X : Cx} (hg : X.A.guards = some []) (hu : X.A.units + 64 < cLine) : CallR X (.builtin "repr") (rRepr X.K) := by
  intro pins s σ H xs us Q I r h
  obtain ⟨x, d, rfl, hd, S, q⟩ := h
  obtain ⟨as, hr⟩ : ∃ as, us = [as] ∧ RelV x as := by
    cases r with
    | cons r rr => cases rr; exact ⟨_, rfl, r⟩
  obtain ⟨rfl, rv⟩ := hr
  obtain ⟨ps, R⟩ := Dp.reads I d x as hd rv
  have hl : d.shown.length ≤ sizeLine := Nat.le_trans (bnd_ok d S.sh S.nd) S.ln
  have fin : ∀ (h' : Heap) (u tk : Nat), (∀ b o, s.heap.get? b = some o → h'.get? b = some o) → EP X pins σ Q (.str d.shown u) { s with heap := h', toks := tk } :=
    fun h' u tk hk => ⟨.str d.shown, H, I.kept hk, ⟨u, rfl⟩, q⟩
  have dp := S.dp
  cases R with
  | none => exact PySem.P.repr_of_none (fin _ _ _ fun _ _ e => e)
  | bool b => exact PySem.P.repr_of_bool (by have := fin s.heap s.toks (s.toks + 1) fun _ _ e => e; cases b <;> exact this)
  | int i t => exact PySem.P.repr_of_int (by have z := S.sh; rw [PyData.showable] at z; exact of_decide_eq_true z) (fin _ _ _ fun _ _ e => e)
  | str x t => exact PySem.P.repr_of_str (fin _ _ _ fun _ _ e => e) hl
  | list h1 h2 h3 h4 => exact repr_of_reads' (.list h1 h2 h3 h4) S.sh (PyData.noDict_hsm S.nd) hg (by omega) (fun _ _ e => e) (fun h' u tk hk => fin h' u tk hk) hl
  | tuple h1 h2 h3 h4 => exact repr_of_reads' (.tuple h1 h2 h3 h4) S.sh (PyData.noDict_hsm S.nd) hg (by omega) (fun _ _ e => e) (fun h' u tk hk => fin h' u tk hk) hl
  | dict _ _ _ _ _ => exact absurd S.nd (by rw [PyData.hasDict]; decide)
end MV

set_option Elab.async false
set_option linter.all false
set_option maxRecDepth 100000
set_option maxHeartbeats 2000000
/-! MVH: own operators of two instances of a class, own ~, own calls. -/
namespace MV
open PySem PySem.Spec PySem.Calls PyProof.Rows L2
section
variable {X : Cx} {CX : CXT} {k i : Nat} {f C : Addr} {fd : FuncData} {ps : List Str} {sp : Sp} {E : XK} {x : Str} {p pos : Pos} {e : Expr} {es : List Expr} {t : TA}
/-- the class C has a def of that special name -/
structure HasS (K : PySem.W.Frag) (C f : Addr) (n : Str) : Prop where
  at_ : PySem.W.findIn K (.ref C) n = some (some (.ref f))
  fn : PySem.W.isFn K (.ref f) = true
def rOwnBin (K : PySem.W.Frag) (C : Addr) (sp : Sp) (E : XK) : R2 := fun x y H Q => ∃ a dx fs, x = .ref a ∧ H a = some (.ins C dx fs) ∧ TyX K H y (.ref C) ∧ sp [x, y] H Q E
theorem opg_bin {op : Operator} (h : HasS X.K C f (PySem.dunder op.info.2)) (hc : PySem.W.selfFirst X.K C = true) (F : FnG X.prog X.w X.K X.mg X.base CX k f fd ps sp) (hr : Room k X.A) (hg : X.A.guards = some [])
    (hb : Binds X.K fd ps []) (hx : Passes CX X E) : OpR X (binaryOp op) (rOwnBin X.K C sp E) := by
  intro pins s σ H x y v u Q I rx ry q
  obtain ⟨a, dx, fs, rfl, ea, ty, q⟩ := q
  cases rx
  obtain ⟨mA, O, _⟩ := ins_get I.hok ea
  obtain ⟨od, J, _⟩ := O.look
  obtain ⟨m, hF⟩ := I.fr
  obtain ⟨P, kx, hP, _⟩ := kit_of I ry ty
  refine PySem.W.binop_K hF I.ok.mod.kin J (kx.ty _ _ I.kIn hP) hc h.at_ h.fn (thn (callG (us := [.ref a, u]) (vs := [.ref a, y]) F hr hg hb .nil hx I (.cons rfl (.cons ry .nil)) q) ?_)
  rintro z s' ⟨v', H', I', rv, q'⟩
  have fin : EP X pins σ Q z s' := ⟨v', H', I', rv, q'⟩
  cases z <;> first | exact fin | (cases v' <;> first | exact False.elim rv | (obtain ⟨_, h⟩ := rv; cases h) | cases rv)
def rOwnInv (C : Addr) (sp : Sp) (E : XK) : V → Hp → VK → Prop := fun x H Q => ∃ a dx fs, x = .ref a ∧ H a = some (.ins C dx fs) ∧ sp [x] H Q E
theorem ung_inv (h : HasS X.K C f "__invert__") (F : FnG X.prog X.w X.K X.mg X.base CX k f fd ps sp) (hr : Room k X.A) (hg : X.A.guards = some [])
    (hb : Binds X.K fd ps []) (hx : Passes CX X E) : UnR X (unaryOp .Invert) (rOwnInv C sp E) := by
  intro pins s σ H x v Q I rx q
  obtain ⟨a, dx, fs, rfl, ea, q⟩ := q
  cases rx
  obtain ⟨mA, O, _⟩ := ins_get I.hok ea
  obtain ⟨od, J, _⟩ := O.look
  obtain ⟨m, hF⟩ := I.fr
  exact PySem.W.ksp_inv hF I.ok.mod.kin J h.at_ h.fn (callG (us := [.ref a]) (vs := [.ref a]) F hr hg hb .nil hx I (.cons rfl .nil) q)
theorem instPlain {C dx : Addr} : (PySem.W.instObj C dx).data = .plain := rfl
theorem keeper_of {M : Model} {h : Heap} {a : Addr} {o : Obj} (e : h.get? a = some o) (d : o.data = .plain) : PySem.W.Looks M h (keeperOf (.ref a)) .caller := by
  refine PySem.W.Looks.andThen (.ld (part := none) e) ?_
  rw [d]
  exact .now
/-- a call of an instance that stays where it is while the arguments are made -/
theorem callInst {M : Model} {A : Around} {z : Value → Shared → Prop} {s : Shared} {a : Addr} {o : Obj} {Q : Value → Shared → Prop} {ls : List (Bool × Sem Value)} {ks : List (Option Str × Sem Value)}
    (no : (ls.any (·.1) || ks.any (·.1.isNone)) = false) (d : o.data = .plain)
    (run : wpAny M A (evalArgs (.ref a) true ls ks) (fun g s1 => s1.heap.get? a = some o ∧ wpAny M A (call (.ref a) g.pos g.kw) Q z s1) z s) :
    wpAny M A (callWith pos (.ref a) [] ls ks) Q z s := by
  unfold callWith
  refine wpAny_bind (wpAny_holding (thn run ?_))
  intro g s1 w1
  obtain ⟨e1, w1⟩ := w1
  refine wpAny_bind (wpAny_standAt ?_)
  rw [no]
  refine wpAny_bind ((keeper_of e1 d).here (wpAny_bind (thn (wpAny_operateT w1) ?_)))
  intro r s2 q
  exact wpAny_bind (wpAny_holding (wpAny_point (wpAny_pure q)))
/-- x(..), x a local that holds an instance whose class has a def __call__ -/
def tCallI (i : Nat) (C : Addr) (sp : Sp) (E : XK) (t : TA) : TE := fun σ H Q => ∃ v a dx fs, σ[i]? = some (some v) ∧ v = .ref a ∧ H a = some (.ins C dx fs) ∧ t σ H fun vs H1 => (∃ fs', H1 a = some (.ins C dx fs')) ∧ sp (v :: vs) H1 Q E
theorem peg_calli (h : HasS X.K C f "__call__") (hfn : PySem.W.fnIn X.K f = true) (F : FnG X.prog X.w X.K X.mg X.base CX k f fd ps sp) (hr : Room k X.A) (hg : X.A.guards = some [])
    (hb : Binds X.K fd ps []) (hx : Passes CX X E) (hN : X.N[i]? = some x) (hv : Vis X.env.scope x) (ha : PA X (e :: es) t)
    (hdb : (x == ("__debug__" : Str)) = false := by decide) (hcd : (x == ("__classdict__" : Str)) = false := by decide)
    (he : starEach (e :: es) X.env = (false, eval e X.env) :: starEach es X.env := by rfl) (hpl : (backTo pos (starEach es X.env)).any (·.1) = false := by rfl) :
    PE X (.Call (.Name x p) (e :: es) [] pos) (tCallI i C sp E t) := by
  refine ⟨fun pins s σ H Q I h' => ?_⟩
  obtain ⟨v, a, dx, fs, hs, rfl, ea, ht⟩ := h'
  refine wpAny_Call_Name_kw (thn ((pe_var (pos := p) hN hv hdb hcd).run pins s σ H (fun v H1 => v = .ref a ∧ H1 = H) I ⟨.ref a, hs, rfl, rfl⟩) fun u s1 ⟨v, H1, I1, r1, q1⟩ => ?_)
  obtain ⟨rfl, rfl⟩ := q1
  cases r1
  obtain ⟨mA, O, _⟩ := ins_get I1.hok ea
  obtain ⟨od, J, _⟩ := O.look
  rw [he]
  refine callInst (o := PySem.W.instObj C dx) (by show ((false || (backTo pos (starEach es X.env)).any (·.1)) || false) = false; rw [hpl]; rfl) rfl (evalArgs_plain ?_)
  suffices go : wpAny (model X.prog X.w) X.A (spliced (backTo pos (starEach (e :: es) X.env))) (fun vs s' => s'.heap.get? a = some (PySem.W.instObj C dx) ∧ wpAny (model X.prog X.w) X.A (call (.ref a) vs) (EP X pins σ Q) X.xe s') X.xe s1 by
    rw [he] at go
    exact go
  refine thn (ha.run pos pins s1 σ _ _ I1 ht) fun us s2 ⟨vs, H2, I2, r, ⟨fs2, e2⟩, q⟩ => ?_
  obtain ⟨mA2, O2, _⟩ := ins_get I2.hok e2
  obtain ⟨od2, J2, _⟩ := O2.look
  refine ⟨J2.at_, wpAny_call ?_⟩
  refine PySem.W.kco_code I2.kIn J2 rfl h.at_ h.fn hfn ?_
  refine codeAny_mono (runG (us := .ref a :: us) (vs := .ref a :: vs) (Q := Q) F hr hg I2.env0 hb .nil hx I2 (.cons rfl r) ?_) fun z s' hq => ?_
  · rw [List.append_nil]
    exact q
  · match z, hq with
    | .ok (.ret _), hq => exact hq
    | .error _, hq => exact hq
theorem r_cval {K : PySem.W.Frag} {σ : L2.St} {H : Hp} {Q : VK} {ta : TE} {fn : Str} (q : ta σ H fun x H1 => ∃ C mc v u, x = .ref C ∧ ClX.CRead K C mc ∧ ClX.CVal K C mc fn v u ∧ Q v H1) : ClX.tCVal K ta fn σ H Q := q
theorem r_isiSS {K : PySem.W.Frag} {H : Hp} {Q : VK} {z : Str} (q : Q (.bl true) H) : rIsi K [.str z, .ty "str"] H Q := r_isi (.ty _) (.base (.str z)) (kit_ty (by decide +kernel)) q
end
end MV

set_option Elab.async false
set_option linter.all false
set_option maxRecDepth 100000
set_option maxHeartbeats 2000000
/-! MVI: static methods by their class; the keys of a dict of the text; a comprehension over known items. -/
namespace MV
open PySem PySem.Spec PySem.Calls PyProof.Rows L2
section
variable {X : Cx} {CX : CXT} {k : Nat} {f C p : Addr} {fd : FuncData} {ps : List Str} {sp : Sp} {dvs : List V} {ds : List Value} {E : XK} {m : Str} {pos apos : Pos} {o e : Expr} {es : List Expr} {ta : TE} {t : TA} {mc : Value}
/-- C.m is a static method: its record at p, its def at f -/
structure SMet (K : PySem.W.Frag) (C : Addr) (mc : Value) (m : Str) (p f : Addr) : Prop where
  rd : ClX.CRead K C mc
  at_ : PySem.W.findCls K (.ref C) mc m = some (.get (.builtin "staticmethod.__get__") (.ref p) .none (.ref C))
  rc : ∃ rest, PySem.W.recIn K p "staticmethod" = some (.ref f :: rest)
  kp : PySem.W.keepIn K (.ref f) = true
def tSMeth (C : Addr) (sp : Sp) (dvs : List V) (E : XK) (ta : TE) (t : TA) : TE := fun σ H Q => ta σ H fun x H1 => x = .ref C ∧ t σ H1 fun vs H2 => sp (vs ++ dvs) H2 Q E
theorem peg_smeth {pl : Sem Bool} (he : PE X o ta) (S : SMet X.K C mc m p f)
    (F : FnG X.prog X.w X.K X.mg X.base CX k f fd ps sp) (hr : Room k X.A) (hg : X.A.guards = some [])
    (hb : Binds X.K fd ps ds) (hd : Vals dvs ds) (hx : Passes CX X E) (ha : PA X (e :: es) t)
    (hst : starEach (e :: es) X.env = (false, eval e X.env) :: starEach es X.env := by rfl)
    (hpl : (backTo pos (starEach es X.env)).any (·.1) = false := by rfl)
    (ht : eval (.Call (.Attribute o m apos) (e :: es) [] pos) X.env = (do
      let ov ← eval o X.env
      standAt apos.atName
      let (g, first) ← holding [ov] (getMethod ov m pl)
      callWith pos g first (backTo pos (starEach (e :: es) X.env)) (backToKw pos (keywordEach [] X.env))) := by rfl) :
    PE X (.Call (.Attribute o m apos) (e :: es) [] pos) (tSMeth C sp dvs E ta t) := by
  constructor
  intro pins s σ H Q I h
  refine PySem.W.methodCall_KW (pl := pl) (thn (he.run pins s σ H _ I h) ?_) ht
  rintro u s1 ⟨_, H1, I1, rx, rfl, q⟩
  cases rx
  obtain ⟨rest, hrec⟩ := S.rc
  refine PySem.W.method_cls I1.kIn S.rd.ga (PySem.W.cls_bind I1.kIn S.rd.rd S.at_ (wpAny_call (PySem.W.sm_get (s := { s1 with toks := s1.toks + 1 }) I1.kIn hrec (PySem.W.handed_on rfl ?_))))
  have I2 := I1.tok (s1.toks + 1)
  refine PySem.W.callWith_K (first := []) (h₀ := X.base) I.ok.mod.kin S.kp ?_ hst hpl
  refine thn (ha.run pos pins _ σ H1 _ I2 q) fun us s2 ⟨vs, H2, I3, r, q2⟩ => ⟨I3.kIn, ?_⟩
  exact callG F hr hg hb hd hx I3 r q2
end

/-! ### the keys of a dict of the text -/
def KKeys (K : PySem.W.Frag) (d : Addr) (xs : List V) : Prop := ∃ (es : Array DictEntry) (n : Nat), K.lookup d = some ⟨.type "dict", none, .dict es n, #[]⟩ ∧ (d == sysModules) = false ∧ Vals xs (es.toList.map (·.key))
/-- known items, one behind another -/
def Itx (xs : List V) : It := ⟨fun i _ => i < xs.length, fun i H x H' => H' = H ∧ xs[i]? = some x, fun i _ => xs.length ≤ i⟩
def iKK (K : PySem.W.Frag) (td : TE) : TI := fun σ H R => td σ H fun x H1 => ∃ d xs, x = .ref d ∧ KKeys K d xs ∧ R (Itx xs) H1
theorem vals_at {xs : List V} {us : List Value} (r : Vals xs us) {i : Nat} {x : V} (h : xs[i]? = some x) : ∃ u, us[i]? = some u ∧ RelV x u := by
  induction r generalizing i with
  | nil => cases h
  | cons r _ ih =>
    cases i with
    | zero => cases h; exact ⟨_, rfl, r⟩
    | succ i => exact ih h
theorem turn_kk {P : Program} {w : World} {K : PySem.W.Frag} {tg : Expr} {d : Addr} {xs : List V} {es : Array DictEntry} {n : Nat} (it : Addr) (hl : K.lookup d = some ⟨.type "dict", none, .dict es n, #[]⟩)
    (r : Vals xs (es.toList.map (·.key))) : Turn P w K tg (Itx xs) [it] it (fun i h => h.IsKeyIter it d i xs.length n) where
  mem := List.mem_cons_self
  obj := by
    intro i h st b hb
    cases List.mem_singleton.mp hb
    obtain ⟨oi, e, c, dd⟩ := st
    exact ⟨oi, e, fun v z => by rw [dd] at z; cases z⟩
  keep := fun i h h' st k => st.at fun oi e => k it List.mem_cons_self oi e
  item := by
    intro X hP hw hK hc i pins s σ H E I hf st hg
    subst hP hw hK
    have hg : i < xs.length := hg
    obtain ⟨f0, f1, f2, f3, f4, f5⟩ := hf it List.mem_cons_self
    obtain ⟨x, hx⟩ : ∃ x, xs[i]? = some x := ⟨xs[i], List.getElem?_eq_getElem hg⟩
    obtain ⟨u, hu, ru⟩ := vals_at r hx
    rw [List.getElem?_map] at hu
    obtain ⟨en, hen, rfl⟩ := Option.map_eq_some_iff.mp hu
    have hsz : es.size = xs.length := by
      have := Paired.length r
      rw [List.length_map, Array.length_toList] at this
      exact this.symm
    refine next_key_item st (I.kIn _ _ hl) rfl hsz (by rw [← Array.getElem?_toList]; exact hen) fun h' st' sb => ?_
    have I1 : Inv X pins σ H { s with heap := h' } := I.turned (t' := s.toks) (fun b ob hb e => (sb.2 b hb).trans e) f0 f1 f3 f4 f5
    obtain ⟨oi, e, c, dd⟩ := id st'
    exact ⟨_, rfl, go_of (s := { s with heap := h' }) e c dd (by decide) ⟨x, H, I1, ru, ⟨rfl, hx⟩, st', fun b hb => (hf b hb).1⟩⟩
  done := by
    intro X hP hw hK hc i pins s σ H E I hf st hg
    subst hP hw hK
    have hg : xs.length ≤ i := hg
    obtain ⟨f0, f1, f2, f3, f4, f5⟩ := hf it List.mem_cons_self
    have hsz : es.size = xs.length := by
      have := Paired.length r
      rw [List.length_map, Array.length_toList] at this
      exact this.symm
    exact next_key_end (I.ok.hd hc) st (I.kIn _ _ hl) rfl hsz hg fun h' eb => ⟨rfl, I.turned (t' := s.toks) (fun b ob hb e => eb b ob hb e) f0 f1 f3 f4 f5⟩
  self := fun A i s Q E st h => wpAny_pyIter_keyiter st h
theorem pi_kk {X : Cx} {tg e : Expr} {td : TE} (he : PE X e td) : PI X tg e (iKK X.K td) := by
  constructor
  intro pins s σ H R I h
  refine thn (he.run pins s σ H _ I h) ?_
  rintro u s1 ⟨_, H1, I1, rx, d, xs, rfl, ⟨es, n, hl, hs, r⟩, q⟩
  cases rx
  have hsz : es.size = xs.length := by
    have := Paired.length r
    rw [List.length_map, Array.length_toList] at this
    exact this.symm
  refine iter_keys hs (I1.kIn _ _ hl) ⟨rfl, rfl, rfl⟩ rfl (pi_one (tk := s1.toks) I1 _ (turn_kk _ hl r) ⟨_, Heap.get?_push_size _ rfl, rfl, ?_⟩ q)
  rw [hsz]
  rfl

/-! ### [te for n in known items if tt] -/
theorem lc_known {xs : List V} {g : TG} {tt : TT} {te : TE} {vs : List Nat} {σ : L2.St} {H1 : Hp} {D : Addr} {Qd : Hp → Prop} (Pv : Nat → Hp → Prop) (h0 : Pv 0 (upd H1 D (.lst [])))
    (hs : ∀ i x H, xs[i]? = some x → Pv i H → g x (wipe σ vs) H fun σ2 H2 => wipe σ2 vs = wipe σ vs ∧ tt σ2 H2 fun b H3 =>
      if b = true then te σ2 H3 fun y H4 => ∃ acc, H4 D = some (.lst acc) ∧ acc.length < sizeLine ∧ Pv (i + 1) (upd H4 D (.lst (acc ++ [y]))) else Pv (i + 1) H3) (hd : ∀ H, Pv xs.length H → Qd H) :
    ∃ W : Nat → Nat → Hp → Prop, (∃ m, W 0 m (upd H1 D (.lst []))) ∧ ∀ i m H, W i m H →
      ((Itx xs).stop i H ∧ Qd H) ∨ ((Itx xs).go i H ∧ ∃ Nx : Hp → Prop, (∀ H', Nx H' → ∃ m', m' < m ∧ W (i + 1) m' H') ∧ ∀ x H', (Itx xs).yld i H x H' → g x (wipe σ vs) H' fun σ2 H2 => wipe σ2 vs = wipe σ vs ∧ tt σ2 H2 fun b H3 =>
        if b = true then te σ2 H3 fun y H4 => ∃ acc, H4 D = some (.lst acc) ∧ acc.length < sizeLine ∧ Nx (upd H4 D (.lst (acc ++ [y]))) else Nx H3) := by
  refine ⟨fun i m H => m = xs.length - i ∧ i ≤ xs.length ∧ Pv i H, ⟨_, rfl, Nat.zero_le _, h0⟩, ?_⟩
  rintro i m H ⟨rfl, hi, p⟩
  by_cases hlt : i < xs.length
  · refine .inr ⟨hlt, Pv (i + 1), fun H' p' => ⟨_, ?_, rfl, hlt, p'⟩, ?_⟩
    · omega
    · rintro x H' ⟨rfl, hx⟩
      exact hs i x _ hx p
  · have e : i = xs.length := by omega
    subst e
    exact .inl ⟨Nat.le_refl _, hd H p⟩
end MV

set_option Elab.async false
set_option linter.all false
set_option maxRecDepth 100000
set_option maxHeartbeats 2000000
/-! MVJ: defs with defaults; tuples and dicts of the text as facts. -/
namespace MV
open PySem PySem.Spec PySem.Calls PyProof.Rows L2
section
variable {P : Program} {w : World} {K : PySem.W.Frag} {mg : Str → Option Value} {base : Heap} {CX : CXT} {k : Nat} {f : Addr} {fd : FuncData} {ps : List Str} {sp : Sp}
  {x qual : Str} {params : Arguments} {body : List Stmt} {scope : Scope} {dvs : List V} {kws : List (Str × V)} {N : List Str}
/-- the rule of a def with defaults -/
theorem FunD.g (F : FunD K x qual params body scope dvs kws f fd) (S : FnScope N ps scope)
    (ln : ∀ vs H Q E, sp vs H Q E → vs.length = ps.length)
    (hb : ∀ (cdv : Value) (A : Around) (outer : List Env) (s : Shared) (H : Hp) (vs : List V) (Q : VK) (E : XK),
      Room k (A.deeper (envOfC qual scope s.heap.objs.size f cdv)) →
      (A.deeper (envOfC qual scope s.heap.objs.size f cdv)).guards = some [] → sp vs H Q E →
      ∃ t, PSs (cxOf CX P w K mg base N qual scope f cdv A outer s H E) body t ∧
        t { nx := fun _ H' => Q .non H', rt := Q } (start N vs) H) :
    FnG P w K mg base CX (k + 1) f fd ps sp := by
  obtain ⟨oc, od, dV, kV, doc, pm, an, cdv, ct, osl, rfl, lk, hcd, _, _⟩ := F.ex
  exact fng_of lk hcd S ln fun A outer s H vs Q E hr hg h => hb cdv A outer s H vs Q E hr hg h
end
/-- a tuple of the text -/
def KT (K : PySem.W.Frag) (p : Addr) (xs : List V) : Prop := ∃ (od : Option Addr) (its : Array Value) (n : Nat) (sl : Array (Option Value)), K.lookup p = some ⟨.type "tuple", od, .seq its n, sl⟩ ∧ its.size ≤ sizeLine ∧ Vals xs its.toList
theorem KT.t {K : PySem.W.Frag} {H : Hp} {p : Addr} {xs : List V} (h : KT K p xs) : SqT K H p xs := (let ⟨_, its, n, _, h1, h2, h3⟩ := h; .inr ⟨_, its, n, h1, rfl, rfl, h2, h3⟩)
theorem KT.k {K : PySem.W.Frag} {H : Hp} {p : Addr} {ns : List Int} (h : KT K p (ns.map V.int)) : IK K H (.ref p) ns := ⟨p, rfl, h.t⟩
/-- == of data at any depth, where the frame's K is given -/
theorem op_eqDk {X : Cx} {K : PySem.W.Frag} (e : X.K = K) (hu : X.A.units + 64 < cLine) : OpR X (compareOp .Eq) (rEqD K) := e ▸ op_eqD hu
theorem op_neDk {X : Cx} {K : PySem.W.Frag} (e : X.K = K) (hu : X.A.units + 64 < cLine) : OpR X (compareOp .NotEq) (rNeD K) := e ▸ op_neD hu
theorem kt_mk {K : PySem.W.Frag} {p : Addr} {xs : List V} {od : Option Addr} {its : Array Value} {n : Nat} {sl : Array (Option Value)} (h : K.lookup p = some ⟨.type "tuple", od, .seq its n, sl⟩) (z : its.size ≤ sizeLine) (v : Vals xs its.toList) : KT K p xs :=
  ⟨od, its, n, sl, h, z, v⟩
theorem kd_mk {K : PySem.W.Frag} {w : World} {a : Addr} {x : Str} {v : V} {es : Array DictEntry} {n : Nat} {u : Value} (h : K.lookup a = some ⟨.type "dict", none, .dict es n, #[]⟩) (l : PySem.W.KeysLit w.params es.toList)
    (e : PySem.W.nsIn K a x = some (some u)) (r : RelV v u) : KDct K w a x v := ⟨es, n, u, h, l, e, r⟩
theorem kk_mk {K : PySem.W.Frag} {d : Addr} {xs : List V} {es : Array DictEntry} {n : Nat} (h : K.lookup d = some ⟨.type "dict", none, .dict es n, #[]⟩) (e : (d == sysModules) = false) (r : Vals xs (es.toList.map (·.key))) : KKeys K d xs := ⟨es, n, h, e, r⟩
theorem binds_all {K : PySem.W.Frag} {fd : FuncData} {ps : List Str} (h : ∃ ds, Vals [] ds ∧ Binds K fd ps ds) : Binds K fd ps [] := by
  obtain ⟨ds, v, b⟩ := h
  cases v
  exact b
end MV

set_option Elab.async false
set_option linter.all false
set_option maxRecDepth 100000
set_option maxHeartbeats 2000000
/-! MVK: repr by an own __repr__; {x!r} of data. -/
namespace MV
open PySem PySem.Spec PySem.Calls PyProof.Rows L2
theorem ix_seqk {X : Cx} {K : PySem.W.Frag} (e : X.K = K) : IxR X (rIx K) := e ▸ ix_seq
section
variable {X : Cx} {CX : CXT} {k : Nat} {f C : Addr} {fd : FuncData} {ps : List Str} {sp : Sp} {E : XK} {e : Expr} {te : TE} {pos : Pos}
/-- repr(x), x an instance whose class has a def __repr__ -/
def rOwnRepr (C : Addr) (sp : Sp) (E : XK) : List V → Hp → VK → Prop := fun xs H Q => ∃ a dx fs, xs = [.ref a] ∧ H a = some (.ins C dx fs) ∧ sp xs H (fun z H' => ∃ t, z = .str t ∧ Q (.str t) H') E
theorem callg_own {K : PySem.W.Frag} (h : HasS X.K C f "__repr__") (F : FnG X.prog X.w X.K X.mg X.base CX k f fd ps sp) (hr : Room (k + 1) X.A) (hg : X.A.guards = some [])
    (hb : Binds X.K fd ps []) (hx : Passes CX X E) : CallR X (.builtin "repr") (rOwnRepr C sp E) := by
  intro pins s σ H xs us Q I r q
  obtain ⟨a, dx, fs, rfl, ea, q⟩ := q
  obtain ⟨u, rfl, rv⟩ : ∃ u, us = [u] ∧ RelV (.ref a) u := by
    cases r with
    | cons r rr => cases rr; exact ⟨_, rfl, r⟩
  cases rv
  obtain ⟨mA, O, _⟩ := ins_get I.hok ea
  obtain ⟨od, J, _⟩ := O.look
  obtain ⟨m, hF⟩ := I.fr
  have hu : X.A.in1.units < cLine := by
    have := hr.un
    show X.A.units + 1 < cLine
    omega
  refine PySem.W.repr_K hu hF I.ok.mod.kin J h.at_ h.fn (wpAny_call ?_)
  refine codeAny_mono (runG (us := [.ref a]) (vs := [.ref a]) F hr.in1 hg I.env0.in1 hb .nil hx I (.cons rfl .nil) q) fun z s' hq => ?_
  match z, hq with
  | .error _, hq => exact hq
  | .ok (.ret w), ⟨v, H', I', rv, t, ev, q'⟩ =>
    subst ev
    obtain ⟨tk, rfl⟩ := rv
    exact ⟨.str t, H', I', ⟨tk, rfl⟩, q'⟩
/-- {x!r} of data that stands at an address -/
def tFmtD (K : PySem.W.Frag) (te : TE) : TE := fun σ H Q => te σ H fun x H1 => ∃ a d, x = .ref a ∧ Dp K H1 x d ∧ Shw d ∧ Q (.str d.shown) H1
theorem pe_fmtD (hg : X.A.guards = some []) (hu : X.A.units + 64 < cLine) (he : PE X e te) : PE X (.FormattedValue e 114 none pos) (tFmtD X.K te) := by
  constructor
  intro pins s σ H Q I h
  refine wpAny_FormattedValue_repr (thn (he.run pins s σ H _ I h) ?_)
  rintro v s1 ⟨_, H1, I1, rv, a, d, rfl, hd, S, q⟩
  obtain ⟨as, R⟩ := Dp.reads I1 d _ v hd rv
  cases rv
  have dp := S.dp
  have hl : d.shown.length ≤ sizeLine := Nat.le_trans (bnd_ok d S.sh S.nd) S.ln
  refine pyReprObj_of_reads R S.sh (PyData.noDict_hsm S.nd) hg (by omega) (fun _ _ e => e) (fun h' u tk hk => ?_) hl
  have I2 : Inv X pins σ H1 { s1 with heap := h', toks := tk } := I1.kept hk
  exact wpAny_formatField_str ⟨.str d.shown, H1, I2, ⟨_, rfl⟩, q⟩ ⟨.str d.shown, H1, I2.tok _, ⟨_, rfl⟩, q⟩ hl
end
end MV

set_option Elab.async false
set_option linter.all false
set_option maxRecDepth 100000
set_option maxHeartbeats 2000000
/-! MVL: comprehensions over a list as readings; pairs unpacked; data of texts. -/
namespace MV
open PySem PySem.Spec PySem.Calls PyProof.Rows L2
section
variable {K : PySem.W.Frag} {σ : L2.St} {H H1 : Hp} {n : Nat} {tl te : TE} {tt : TT} {g : TG} {vs : List Nat} {Q : VK} {x : V}
/-- [te for .. in x if tt], x a list that is already read -/
def LcLR (K : PySem.W.Frag) (g : TG) (tt : TT) (te : TE) (vs : List Nat) (σ : L2.St) (Q : VK) (x : V) (H1 : Hp) : Prop := ∃ a, x = .ref a ∧ (∃ xs, SqL K H1 a xs) ∧ ∀ D, H1 D = none → ∃ W : Nat → Nat → Hp → Prop, (∃ m, W 0 m (upd H1 D (.lst []))) ∧ ∀ i m H, W i m H →
  ((Itl K a).stop i H ∧ Q (.ref D) H) ∨ ((Itl K a).go i H ∧ ∃ Nx : Hp → Prop, (∀ H', Nx H' → ∃ m', m' < m ∧ W (i + 1) m' H') ∧ ∀ x H', (Itl K a).yld i H x H' → g x (wipe σ vs) H' fun σ2 H2 => wipe σ2 vs = wipe σ vs ∧ tt σ2 H2 fun b H3 =>
    if b = true then te σ2 H3 fun y H4 => ∃ acc, H4 D = some (.lst acc) ∧ acc.length < sizeLine ∧ Nx (upd H4 D (.lst (acc ++ [y]))) else Nx H3)
theorem r_lcL (q : tl σ H fun x H1 => LcLR K g tt te vs σ Q x H1) : tLc (iList K tl) g tt te vs σ H Q := q
theorem lcl_ok {p : Addr} {xs : List V} (hp : H1 p = some (.lst xs)) (k : ∀ D, H1 D = none → ∃ Pv : Nat → Hp → Prop, Pv 0 (upd H1 D (.lst [])) ∧ (∀ i H, i ≤ xs.length → Pv i H → H p = some (.lst xs)) ∧
    (∀ i x H, xs[i]? = some x → Pv i H → g x (wipe σ vs) H fun σ2 H2 => wipe σ2 vs = wipe σ vs ∧ tt σ2 H2 fun b H3 =>
      if b = true then te σ2 H3 fun y H4 => ∃ acc, H4 D = some (.lst acc) ∧ acc.length < sizeLine ∧ Pv (i + 1) (upd H4 D (.lst (acc ++ [y]))) else Pv (i + 1) H3) ∧ ∀ H, Pv xs.length H → Q (.ref D) H) :
    LcLR K g tt te vs σ Q (.ref p) H1 := by
  refine ⟨p, rfl, ⟨_, SqL.of hp⟩, fun D hD => ?_⟩
  obtain ⟨Pv, h0, hl, hs, hd⟩ := k D hD
  exact lc_list (xs := xs) Pv h0 (fun i H hi pv => SqL.of (hl i H hi pv)) hs hd
theorem r_unT2 {gs : TGs} {Q : L2.St → Hp → Prop} {p : Addr} {a b : V} (h : H p = some (.tup [a, b])) (q : gs [a, b] σ H Q) : gTup K 2 gs (.ref p) σ H Q := ⟨p, _, rfl, SqT.of h, rfl, q⟩
/-- the heap of a comprehension's start: what stood stands, the new list is empty -/
theorem lc_keep {D : Addr} {o : HO} (hD : H1 D = none) : ∀ b o', H1 b = some o' → upd H1 D o b = some o' := fun b o' e => by
  rw [upd_ne (ne_of_none e hD)]
  exact e
end
theorem dp_strs {K : PySem.W.Frag} {H : Hp} : ∀ ns : List Str, DpAll K H (ns.map V.str) (ns.map PyData.str)
  | [] => .nil
  | n :: r => .cons (.str n) (dp_strs r)
theorem eqvAll_strs : ∀ ns ms : List Str, PyData.eqvAll (ns.map PyData.str) (ms.map PyData.str) = decide (ns = ms)
  | [], [] => by rw [List.map_nil, PyData.eqvAll]; rfl
  | [], _ :: _ => by rw [List.map_nil, List.map_cons, PyData.eqvAll]; rfl
  | _ :: _, [] => by rw [List.map_nil, List.map_cons, PyData.eqvAll]; rfl
  | n :: r, m :: q => by
    rw [List.map_cons, List.map_cons, PyData.eqvAll, PyData.eqv, eqvAll_strs r q]
    by_cases h : n = m
    · subst h
      by_cases h2 : r = q
      · subst h2; simp
      · simp [h2]
    · simp [h]
end MV

set_option Elab.async false
set_option linter.all false
set_option maxRecDepth 100000
set_option maxHeartbeats 2000000
/-! MVM: defs with *rest; class methods without arguments; a class held in a local; // by wide numbers of either sign. -/
namespace MV
open PySem PySem.Spec PySem.Calls PyProof.Rows L2
/-- a promise of what is called with any positions, where no repr is under way -/
def FnGR (P : Program) (w : World) (K : PySem.W.Frag) (mg : Str → Option Value) (base : Heap) (CX : CXT) (k : Nat) (f : Addr) (sp : Sp) : Prop :=
  ∀ (A : Around) (outer : List Env) (s : Shared) (H : Hp) (us : List Value) (vs : List V) (Q : VK) (E : XK), Room k A → A.guards = some [] → Env0 P w K mg base A outer s H → Vals vs us → sp vs H Q E →
    codeAny (model P w) A (.call (.ref f) ⟨us, []⟩) (CR CX outer P w H s Q E) s
/-- what a def with *rest alone promises, from what its body does with the tuple -/
def spStar (sp : Sp) : Sp := fun vs H Q E => vs.length ≤ sizeLine ∧ ∀ p, H p = none → sp [.ref p] (upd H p (.tup vs)) Q E
section
variable {P : Program} {w : World} {K : PySem.W.Frag} {mg : Str → Option Value} {base : Heap} {CX : CXT} {k : Nat} {f : Addr} {fd : FuncData} {ps : List Str} {sp : Sp}
theorem Fun.gs {x qual pv : Str} {st : Stmt} {N : List Str} (F : Fun K x qual st f fd) (S : FnScope N [pv] (defScope st)) (hCX : StX.CXUp CX)
    (hb : ∀ rest : List Value, bindArgs fd ⟨rest, []⟩ = (newTuple rest >>= fun t => pure [(pv, t)]))
    (hbody : ∀ (cdv : Value) (A : Around) (outer : List Env) (s : Shared) (H : Hp) (vs : List V) (Q : VK) (E : XK),
      Room k (A.deeper (envOfC qual (defScope st) s.heap.objs.size f cdv)) →
      (A.deeper (envOfC qual (defScope st) s.heap.objs.size f cdv)).guards = some [] → sp vs H Q E →
      ∃ t, PSs (cxOf CX P w K mg base N qual (defScope st) f cdv A outer s H E).nox (defBody st) t ∧
        t { nx := fun _ H' => Q .non H', rt := Q } (start N vs) H) :
    FnGR P w K mg base CX (k + 1) f (spStar sp) := by
  obtain ⟨oc, od, kV, doc, pm, an, cdv, ct, osl, rfl, lk, hcd⟩ := F.ex
  intro A outer s H us vs Q E hr hg e0 r ⟨hz, hq⟩
  have hn : H s.heap.objs.size = Option.none := e0.hok.fresh (Nat.le_refl _)
  have hl2 : us.length ≤ sizeLine := by rw [← r.length]; exact hz
  refine StX.run_bnd lk hcd S hr e0 (G := fun xs H2 => ∃ p, H p = Option.none ∧ xs = [V.ref p] ∧ H2 = upd H p (.tup vs)) (fun A' Ex Q' h => ?_) fun s2 H2 xs ⟨p, hp, ex, eH⟩ hr' => ?_
  · rw [hb us]
    refine wpAny_bind (wpAny_newTuple (wpAny_pure ?_) hl2)
    have new : ObjOk P w (upd H s.heap.objs.size (.tup vs)) (s.heap.push ({ cls := .type "tuple", data := .seq us.toArray } : Obj)) s.heap.objs.size (.tup vs) := ⟨hz, us, r, ⟨_, Heap.get?_push_size _ rfl, rfl, _, rfl⟩⟩
    have un := StX.un_laid (fs := frs outer) (s := s) (o := ({ cls := .type "tuple", data := .seq us.toArray } : Obj)) (u := .tup vs) hn
    exact h _ _ [V.ref s.heap.objs.size] [Value.ref s.heap.objs.size] (StX.env0_laid e0 new) un rfl (fun e s' => hCX outer s H _ _ E e s' un (fun b o q => Heap.get?_push_of_some _ q) rfl) (.cons rfl .nil) rfl ⟨_, hn, rfl, rfl⟩
  · subst ex eH
    obtain ⟨t, p1, q1⟩ := hbody cdv A outer s2 _ _ Q E hr' hg (hq p hp)
    exact ⟨t, p1.nox, q1⟩
end
section
variable {X : Cx} {CX : CXT} {k i : Nat} {f C p : Addr} {fd : FuncData} {ps : List Str} {sp : Sp} {E : XK} {x m : Str} {pos apos np : Pos} {o e : Expr} {es : List Expr} {ta : TE} {t : TA} {mc : Value}
theorem runGR {A : Around} {pins : List (Addr × Obj)} {σ : L2.St} {H : Hp} {s : Shared} {Q : VK} {us : List Value} {vs : List V}
    (F : FnGR X.prog X.w X.K X.mg X.base CX k f sp) (hr : Room k A) (hg : A.guards = some [])
    (e0 : Env0 X.prog X.w X.K X.mg X.base A X.stack s H) (hx : Passes CX X E)
    (I : Inv X pins σ H s) (r : Vals vs us) (h : sp vs H Q E) :
    codeAny (model X.prog X.w) A (.call (.ref f) ⟨us, []⟩) (Back X pins σ Q) s :=
  codeAny_mono (F A X.stack s H us vs Q E hr hg e0 r h) fun r s' hq => ended hx I hq
theorem callGR {pins : List (Addr × Obj)} {σ : L2.St} {H : Hp} {s : Shared} {Q : VK} {us : List Value} {vs : List V}
    (F : FnGR X.prog X.w X.K X.mg X.base CX k f sp) (hr : Room k X.A) (hg : X.A.guards = some []) (hx : Passes CX X E)
    (I : Inv X pins σ H s) (r : Vals vs us) (h : sp vs H Q E) :
    wpAny (model X.prog X.w) X.A (call (.ref f) us) (EP X pins σ Q) X.xe s := by
  refine wpAny_call (codeAny_mono (runGR F hr hg I.env0 hx I r h) fun z s' q => ?_)
  match z, q with
  | .ok (.ret _), q => exact q
  | .error _, q => exact q
/-- C.m(..), m a static method with *rest -/
theorem peg_smethR {pl : Sem Bool} (he : PE X o ta) (S : SMet X.K C mc m p f)
    (F : FnGR X.prog X.w X.K X.mg X.base CX k f sp) (hr : Room k X.A) (hg : X.A.guards = some []) (hx : Passes CX X E) (ha : PA X (e :: es) t)
    (hst : starEach (e :: es) X.env = (false, eval e X.env) :: starEach es X.env := by rfl)
    (hpl : (backTo pos (starEach es X.env)).any (·.1) = false := by rfl)
    (ht : eval (.Call (.Attribute o m apos) (e :: es) [] pos) X.env = (do
      let ov ← eval o X.env
      standAt apos.atName
      let (g, first) ← holding [ov] (getMethod ov m pl)
      callWith pos g first (backTo pos (starEach (e :: es) X.env)) (backToKw pos (keywordEach [] X.env))) := by rfl) :
    PE X (.Call (.Attribute o m apos) (e :: es) [] pos) (tSMeth C sp [] E ta t) := by
  constructor
  intro pins s σ H Q I h
  refine PySem.W.methodCall_KW (pl := pl) (thn (he.run pins s σ H _ I h) ?_) ht
  rintro u s1 ⟨_, H1, I1, rx, rfl, q⟩
  cases rx
  obtain ⟨rest, hrec⟩ := S.rc
  refine PySem.W.method_cls I1.kIn S.rd.ga (PySem.W.cls_bind I1.kIn S.rd.rd S.at_ (wpAny_call (PySem.W.sm_get (s := { s1 with toks := s1.toks + 1 }) I1.kIn hrec (PySem.W.handed_on rfl ?_))))
  have I2 := I1.tok (s1.toks + 1)
  refine PySem.W.callWith_K (first := []) (h₀ := X.base) I.ok.mod.kin S.kp ?_ hst hpl
  refine thn (ha.run pos pins _ σ H1 _ I2 q) fun us s2 ⟨vs, H2, I3, r, q2⟩ => ⟨I3.kIn, ?_⟩
  have q2 : sp (vs ++ []) H2 Q E := q2
  rw [List.append_nil] at q2
  exact callGR F hr hg hx I3 r q2
/-- C.m(), m a class method -/
def tCMeth0 (C : Addr) (sp : Sp) (E : XK) (ta : TE) : TE := fun σ H Q => ta σ H fun x H1 => x = .ref C ∧ sp [.ref C] H1 Q E
theorem peg_cmeth0 {pl : Sem Bool} (he : PE X o ta) (r : ClX.CRead X.K C mc) (c : ClX.CMet X.K C mc m p f)
    (F : FnG X.prog X.w X.K X.mg X.base CX k f fd ps sp) (hr : Room k X.A) (hg : X.A.guards = some []) (hb : Binds X.K fd ps []) (hx : Passes CX X E)
    (ht : eval (.Call (.Attribute o m apos) [] [] pos) X.env = (do
      let ov ← eval o X.env
      standAt apos.atName
      let (g, first) ← holding [ov] (getMethod ov m pl)
      callWith pos g first (backTo pos (starEach [] X.env)) (backToKw pos (keywordEach [] X.env))) := by rfl) :
    PE X (.Call (.Attribute o m apos) [] [] pos) (tCMeth0 C sp E ta) := by
  constructor
  intro pins s σ H Q I h
  refine PySem.W.methodCall_KW (pl := pl) (thn (he.run pins s σ H _ I h) ?_) ht
  rintro u s1 ⟨_, H1, I1, rx, rfl, q⟩
  cases rx
  refine ClX.getmethcm_ok I1 r c fun s2 I2 => ?_
  have hq := ClX.pin_at I2
  refine PySem.W.callWith_M0 (first := []) (g := f) (self := .ref C) ⟨hq, I2.kIn⟩ c.fi ?_
  have z : wpAny (model X.prog X.w) X.A (call (.ref s1.heap.objs.size) []) (EP X ((s1.heap.objs.size, PySem.W.methodObj (.ref f) (.ref C)) :: pins) σ Q) X.xe s2 := by
    refine wpAny_call (PySem.W.method_call hq ?_)
    refine codeAny_mono (runG (us := [.ref C]) (vs := [.ref C]) (Q := Q) F hr hg I2.env0 hb .nil hx I2 (.cons rfl .nil) q) fun z s' q' => ?_
    match z, q' with
    | .ok (.ret _), q' => exact q'
    | .error _, q' => exact q'
  exact thn z fun _ _ y => ClX.unpinE y
/-- x(..), x a local that holds the class C -/
def tMakeL (i : Nat) (C : Addr) (sp : Sp) (E : XK) (t : TA) : TE := fun σ H Q => σ[i]? = some (some (.ref C)) ∧ t σ H fun vs H1 => MkR C sp vs H1 Q E
theorem peg_makeL (M : Mk X.K C f) (F : FnG X.prog X.w X.K X.mg X.base CX k f fd ps sp) (hr : Room (k + 1) X.A) (hg : X.A.guards = some []) (hb : Binds X.K fd ps []) (hx : Passes CX X E)
    (hN : X.N[i]? = some x) (hv : Vis X.env.scope x) (ha : PA X (e :: es) t)
    (hdb : (x == ("__debug__" : Str)) = false := by decide) (hcd : (x == ("__classdict__" : Str)) = false := by decide)
    (he : starEach (e :: es) X.env = (false, eval e X.env) :: starEach es X.env := by rfl) (hpl : (backTo pos (starEach es X.env)).any (·.1) = false := by rfl) :
    PE X (.Call (.Name x np) (e :: es) [] pos) (tMakeL i C sp E t) := by
  refine ⟨fun pins s σ H Q I h' => ?_⟩
  obtain ⟨hs, ht⟩ := h'
  refine wpAny_Call_Name_kw (thn ((pe_var (pos := np) hN hv hdb hcd).run pins s σ H (fun v H1 => v = .ref C ∧ H1 = H) I ⟨.ref C, hs, rfl, rfl⟩) fun u s1 ⟨v, H1, I1, r1, q1⟩ => ?_)
  obtain ⟨rfl, rfl⟩ := q1
  cases r1
  refine PySem.W.callWith_K (h₀ := X.base) I1.ok.mod.kin M.kp ?_ he hpl
  refine thn (ha.run pos pins s1 σ _ _ I1 ht) fun us s2 ⟨vs, H2, I2, r, q⟩ => ⟨I2.kIn, ?_⟩
  refine makeG (dvs := []) M F hr hg hb .nil hx I2 r ?_
  rw [List.append_nil]
  exact q
end
/-- // of numbers whose divisor is not 0 and has fewer than 9000 bits -/
def CDivN9 (_ j : Int) : Prop := j ≠ 0 ∧ j.natAbs.log2 < 9000
theorem op_fdivN9 {X : Cx} : OpR X (binaryOp .FloorDiv) (rI CDivN9 fun i j => .int (i.fdiv j)) := opI fun i j _ _ _ _ _ hc q =>
  floordiv_int hc.1 q (.inl (PyProof.noPylong_of_log2 hc.2))
section
variable {K : PySem.W.Frag} {H : Hp} {Q : VK} {i j : Int}
theorem r_divN9 (h : CDivN9 i j) (q : Q (.int (i.fdiv j)) H) : rI CDivN9 (fun i j => .int (i.fdiv j)) (.int i) (.int j) H Q := ⟨i, j, rfl, rfl, h, q⟩
theorem r_modN (h : j ≠ 0) (q : Q (.int (i.fmod j)) H) : rI (fun _ j => j ≠ 0) (fun i j => .int (i.fmod j)) (.int i) (.int j) H Q := ⟨i, j, rfl, rfl, h, q⟩
theorem r_cmeth0 {C : Addr} {sp : Sp} {E : XK} {ta : TE} {σ : L2.St} (q : ta σ H fun x H1 => x = .ref C ∧ sp [.ref C] H1 Q E) : tCMeth0 C sp E ta σ H Q := q
end
section
variable {K : PySem.W.Frag} {σ : L2.St} {H : Hp} {n : Nat} {tl : TE} {g : TG} {tb : TS} {D : Ends} {x : V} {Q : VK} {i j l m : Int} {gs : TGs}
/-- a loop over a tuple -/
def ForT (K : PySem.W.Frag) (g : TG) (tb : TS) (D : Ends) (σ : L2.St) (x : V) (H1 : Hp) : Prop := ∃ (a : Addr) (xs : List V) (Pv : Nat → L2.St → Hp → Prop), x = .ref a ∧ Pv 0 σ H1 ∧
  (∀ i σ H, i ≤ xs.length → Pv i σ H → SqT K H a xs) ∧
  (∀ i x σ H, xs[i]? = some x → Pv i σ H → g x σ H fun σ2 H2 => tb { D with nx := Pv (i + 1), ct := Pv (i + 1), bk := D.nx } σ2 H2) ∧ (∀ σ H, Pv xs.length σ H → D.nx σ H)
def ForTR (K : PySem.W.Frag) (g : TG) (tb : TS) (D : Ends) (σ : L2.St) (x : V) (H1 : Hp) : Prop := ∃ a, x = .ref a ∧ (∃ xs, SqT K H1 a xs) ∧ ∃ W : Nat → Nat → L2.St → Hp → Prop, (∃ m, W 0 m σ H1) ∧ ∀ i m σ H, W i m σ H →
  ((Itt K a).stop i H ∧ D.nx σ H) ∨ ((Itt K a).go i H ∧ ∃ N : L2.St → Hp → Prop, (∀ σ' H', N σ' H' → ∃ m', m' < m ∧ W (i + 1) m' σ' H') ∧ ∀ x H', (Itt K a).yld i H x H' → g x σ H' fun σ2 H2 => tb { D with nx := N, ct := N, bk := D.nx } σ2 H2)
theorem r_forT (q : tl σ H fun x H1 => ForTR K g tb D σ x H1) : tFor (iTup K tl) g tb D σ H := q
theorem ForT.ok (q : ForT K g tb D σ x H) : ForTR K g tb D σ x H := by
  obtain ⟨a, xs, Pv, rfl, h0, hl, hs, hd⟩ := q
  exact ⟨a, rfl, ⟨xs, hl 0 σ H (Nat.zero_le _) h0⟩, for_tup Pv h0 (fun i σ H h p => hl i σ H h p) hs hd⟩
theorem r_newI4 (k : ∀ v H2, Stp none H H2 → IT H2 v [i, j, l, m] → Q v H2) : NewT [V.int i, V.int j, V.int l, V.int m] H Q := r_newI (ns := [i, j, l, m]) (Nat.le_of_ble_eq_true rfl) k
theorem r_unpack4 {v : V} {Q : L2.St → Hp → Prop} (h : IK K H v [i, j, l, m]) (q : gs [V.int i, V.int j, V.int l, V.int m] σ H Q) : gTup K 4 gs v σ H Q := r_unpack h rfl q
end
/-! ### a list of one's own is written -/
theorem Stp.put {t : Option Addr} {H H' : Hp} {f : Addr} {o : HO} (s : Stp t H H') (n : H f = none) : Stp t H (upd H' f o) := by
  refine ⟨fun b o' m e => ?_, fun a l e T => ?_⟩
  · rw [upd_ne (ne_of_none e n)]
    exact s.ge b o' m e
  · have T' := s.tp a l e T
    obtain ⟨_, _, _, _, _, h1, h2, _⟩ := T
    obtain ⟨ns, x, b, c, k0, k1, k2, k3⟩ := T'
    exact ⟨ns, x, b, c, k0, by rw [upd_ne (ne_of_none h1 n)]; exact k1, by rw [upd_ne (ne_of_none h2 n)]; exact k2, k3⟩
theorem IT.put {H : Hp} {f : Addr} {xs ys : List V} {v : V} {ns : List Int} (h : IT H v ns) (e : H f = some (.lst xs)) : IT (upd H f (.lst ys)) v ns := by
  obtain ⟨p, rfl, h⟩ := h
  exact ⟨p, rfl, by rw [upd_ne (by rintro rfl; rw [e] at h; cases h)]; exact h⟩
/-- xs.append(y) as a statement -/
theorem r_app {H : Hp} {Q : VK} {f : Addr} {xs : List V} {y : V} (h : H f = some (.lst xs)) (hl : xs.length < sizeLine) (q : Q .non (upd H f (.lst (xs ++ [y])))) : rAppend (.ref f) [y] H Q := ⟨f, xs, y, rfl, rfl, h, hl, q⟩
theorem r_bm {K : PySem.W.Frag} {T : String} {r : V → List V → Hp → VK → Prop} {ta : TE} {t : TA} {σ : L2.St} {H : Hp} {Q : VK} (q : ta σ H fun x H1 => tyV K T x H1 ∧ t σ H1 fun xs H2 => r x xs H2 Q) : tBM K T r ta t σ H Q := q
/-! ### a cut behind a statement -/
def tCut (t u : TS) : TS := fun D σ H => ∃ Pv : L2.St → Hp → Prop, t { D with nx := Pv } σ H ∧ ∀ σ' H', Pv σ' H' → u D σ' H'
theorem pss_cut {X : Cx} {st : Stmt} {rest : List Stmt} {t u : TS} (h1 : PS X st t) (h2 : PSs X rest u) : PSs X (st :: rest) (tCut t u) := by
  refine ⟨fun pins s σ H D I ⟨Pv, h, hk⟩ => ?_⟩
  refine wpAny_execs_cons (thn (h1.run pins s σ H { D with nx := Pv } I h) fun f s1 q => ?_)
  cases f with
  | next =>
    obtain ⟨σ', H', I', q⟩ := q
    exact h2.run pins s1 σ' H' D I' (hk _ _ q)
  | ret v => exact q
  | brk => exact q
  | cont => exact q
theorem r_cut {t u : TS} {D : Ends} {σ : L2.St} {H : Hp} (Pv : L2.St → Hp → Prop) (h1 : t { D with nx := Pv } σ H) (h2 : ∀ σ' H', Pv σ' H' → u D σ' H') : tCut t u D σ H := ⟨Pv, h1, h2⟩
end MV

set_option Elab.async false
set_option linter.all false
set_option maxRecDepth 100000
set_option maxHeartbeats 2000000
/-! MVN: ranges of two and three numbers; rules within a comprehension's block; bools compared; lists added and repeated. -/
namespace MV
open PySem PySem.Spec PySem.Calls PyProof.Rows L2
section
variable {X : Cx} {K : PySem.W.Frag} {tg e : Expr} {te : TE}
theorem pi_tupk (h : X.K = K) (he : PE X e te) : PI X tg e (iTup K te) := h ▸ pi_tup he
theorem pi_listk (h : X.K = K) (he : PE X e te) : PI X tg e (iList K te) := h ▸ pi_list he
theorem call_tuple_ofk (h : X.K = K) : CallR X (.type "tuple") (rTupL K) := by
  subst h
  exact call_tuple_of
end
section
variable {K : PySem.W.Frag} {σ : L2.St} {H H1 : Hp} {Q : VK} {g : TG} {tb : TS} {D : Ends} {ta : TA} {x y : V} {b c : Bool}
/-- range(i, j) -/
def ForR2 (g : TG) (tb : TS) (D : Ends) (σ : L2.St) (vs : List V) (H1 : Hp) : Prop := ∃ (i j : Int) (Pv : Nat → L2.St → Hp → Prop), vs = [.int i, .int j] ∧ -(2 ^ 62) ≤ i ∧ i < 2 ^ 62 ∧ -(2 ^ 62) ≤ j ∧ j < 2 ^ 62 ∧ Pv 0 σ H1 ∧
  (∀ n σ H, n < (j - i).toNat → Pv n σ H → g (.int (i + n)) σ H fun σ2 H2 => tb { D with nx := Pv (n + 1), ct := Pv (n + 1), bk := D.nx } σ2 H2) ∧ (∀ σ H, Pv (j - i).toNat σ H → D.nx σ H)
def ForR2n (g : TG) (tb : TS) (D : Ends) (σ : L2.St) (vs : List V) (H : Hp) : Prop := ∃ i j : Int, vs = [.int i, .int j] ∧ (-(2 ^ 62) ≤ i ∧ i < 2 ^ 62 ∧ -(2 ^ 62) ≤ j ∧ j < 2 ^ 62) ∧ ∃ W : Nat → Nat → L2.St → Hp → Prop, (∃ m, W 0 m σ H) ∧ ∀ n m σ H, W n m σ H →
      ((Itr i (j - i).toNat).stop n H ∧ D.nx σ H) ∨ ((Itr i (j - i).toNat).go n H ∧ ∃ N : L2.St → Hp → Prop, (∀ σ' H', N σ' H' → ∃ m', m' < m ∧ W (n + 1) m' σ' H') ∧ ∀ x H', (Itr i (j - i).toNat).yld n H x H' → g x σ H' fun σ2 H2 => tb { D with nx := N, ct := N, bk := D.nx } σ2 H2)
theorem ForR2.ok {vs : List V} (q : ForR2 g tb D σ vs H) : ForR2n g tb D σ vs H := by
  obtain ⟨i, j, Pv, rfl, a1, a2, a3, a4, h0, hs, hd⟩ := q
  exact ⟨i, j, rfl, ⟨a1, a2, a3, a4⟩, for_range Pv h0 hs hd⟩
theorem r_forR2 (q : ta σ H fun vs H1 => ForR2n g tb D σ vs H1) : tFor (iRng2 ta) g tb D σ H := q
/-- range(i, j, c) -/
def ForR3n (g : TG) (tb : TS) (D : Ends) (σ : L2.St) (vs : List V) (H : Hp) : Prop := ∃ (i j c : Int) (n : Nat), vs = [.int i, .int j, .int c] ∧ RgC i j c n ∧ ∃ W : Nat → Nat → L2.St → Hp → Prop, (∃ m, W 0 m σ H) ∧ ∀ k m σ H, W k m σ H →
      ((Itc i c n).stop k H ∧ D.nx σ H) ∨ ((Itc i c n).go k H ∧ ∃ N : L2.St → Hp → Prop, (∀ σ' H', N σ' H' → ∃ m', m' < m ∧ W (k + 1) m' σ' H') ∧ ∀ x H', (Itc i c n).yld k H x H' → g x σ H' fun σ2 H2 => tb { D with nx := N, ct := N, bk := D.nx } σ2 H2)
theorem for3_ok {i j c : Int} {n : Nat} (hr : RgC i j c n) (Pv : Nat → L2.St → Hp → Prop) (h0 : Pv 0 σ H)
    (hs : ∀ k σ H, k < n → Pv k σ H → g (.int (i + (k : Nat) * c)) σ H fun σ2 H2 => tb { D with nx := Pv (k + 1), ct := Pv (k + 1), bk := D.nx } σ2 H2) (hd : ∀ σ H, Pv n σ H → D.nx σ H) : ForR3n g tb D σ [.int i, .int j, .int c] H :=
  ⟨i, j, c, n, rfl, hr, for_rangeC Pv h0 hs hd⟩
theorem r_forR3 (q : ta σ H fun vs H1 => ForR3n g tb D σ vs H1) : tFor (iRng3 ta) g tb D σ H := q
theorem r_neB (q : Q (.bl (!decide (b = c))) H) : rNe (.bl b) (.bl c) H Q := ⟨rfl, by
  have e : decide (V.bl b = V.bl c) = decide (b = c) := decide_eq_decide.mpr ⟨V.bl.inj, congrArg V.bl⟩
  rw [e]; exact q⟩
theorem r_eqB (q : Q (.bl (decide (b = c))) H) : rEq (.bl b) (.bl c) H Q := ⟨rfl, by
  have e : decide (V.bl b = V.bl c) = decide (b = c) := decide_eq_decide.mpr ⟨V.bl.inj, congrArg V.bl⟩
  rw [e]; exact q⟩
theorem r_catL {l m : Addr} {xs ys : List V} (h : H l = some (.lst xs)) (h2 : H m = some (.lst ys)) (hl : xs.length + ys.length ≤ 100) (k : ∀ p H2, Stp none H H2 → H2 p = some (.lst (xs ++ ys)) → H p = none → Q (.ref p) H2) : rCat (.ref l) (.ref m) H Q :=
  ⟨l, m, xs, ys, rfl, rfl, h, h2, sz100 hl, fun p hp => k p _ (Stp.new hp) upd_same hp⟩
theorem r_rep3 {l : Addr} {x : V} (h : H l = some (.lst [x])) (k : ∀ p H2, Stp none H H2 → H2 p = some (.lst [x, x, x]) → H p = none → Q (.ref p) H2) : rRep (.ref l) (.int 3) H Q :=
  ⟨l, 3, [x], rfl, rfl, h, by decide, by decide, (show (1 : Nat) * 3 ≤ sizeLine by decide), fun p hp => k p _ (Stp.new hp) upd_same hp⟩
end
/-- three bools in a list -/
abbrev b3 (b c d : Bool) : PyData := .list [.bool b, .bool c, .bool d]
theorem shw_b3 (b c d : Bool) : Shw (b3 b c d) where
  sh := by
    rw [PyData.showable, PyData.showableAll, PyData.showableAll, PyData.showableAll, PyData.showableAll, PyData.showable, PyData.showable, PyData.showable]
    rfl
  nd := by
    rw [PyData.hasDict, PyData.hasDictAll, PyData.hasDictAll, PyData.hasDictAll, PyData.hasDictAll, PyData.hasDict, PyData.hasDict, PyData.hasDict]
    rfl
  dp := by
    rw [PyData.depth, PyData.depthAll, PyData.depthAll, PyData.depthAll, PyData.depthAll, PyData.depth, PyData.depth, PyData.depth]
    decide
  ln := by
    rw [bnd, bndAll, bndAll, bndAll, bndAll, bnd, bnd, bnd]
    decide
theorem shaped_b3 {b c d : Bool} : SeqAt.shaped (b3 b c d) = true := by
  simp [SeqAt.shaped, PyData.canLay0, PyData.canLayAll0, PyData.depth, PyData.depthAll]
theorem eqv_b3 {b c d : Bool} : PyData.eqv (b3 b c d) (b3 b c d) = true := by
  simp [PyData.eqv, PyData.eqvAll]
end MV

set_option Elab.async false
set_option linter.all false
set_option maxRecDepth 100000
set_option maxHeartbeats 2000000
/-! MVO: own binary operators of instances of two classes. -/
namespace PySem.W
open PySem PySem.Spec PyProof.Rows
section
variable {prog : Program} {w : World} {A : Around} {E : Value → Shared → Prop} {s : Shared} {K : Frag} {x C D L f f' : Addr} {h₀ : Heap} {m : Str → Option Value} {ox : Obj} {od : Option Obj}
theorem mv_binTwo {op : Operator} {b : Value} {Q : Value → Shared → Prop} (F : Fr h₀ L s.heap m) (X₀ : K.In h₀) (I : InstAt s.heap x ox C od) (hb : Looks (model prog w) s.heap (typeOf b) (.ref D)) (hcd : (C == D) = false) (hc : selfFirst K C = true) (hd : selfFirst K D = true)
    (hs : findIn K (.ref C) (PySem.dunder op.info.2) = some (some (.ref f))) (hf : isFn K (.ref f) = true) (hr : findIn K (.ref C) (dunderR op.info.2) = some none)
    (hs' : findIn K (.ref D) (PySem.dunder op.info.2) = some (some (.ref f'))) (hr' : findIn K (.ref D) (dunderR op.info.2) = some none) (hsub : subIn K (.ref D) (.ref C) = some false)
    (h : wpAny (model prog w) A (call (.ref f) [.ref x, b]) (CmpBack Q) E s) : wpAny (model prog w) A (binaryOp op (.ref x) b) Q E s := by
  have X := X₀.keeps F.keep
  obtain ⟨cd, rest, hcl, hm⟩ := ksp_first hc
  obtain ⟨cd', rest', hcl', hm'⟩ := ksp_first hd
  rcases hi : op.info with ⟨sym, nm'⟩
  rw [hi] at hs hr hs' hr'
  dsimp only at hs hr hs' hr'
  have one := ksp_try X I hs hf h
  obtain ⟨hh, g, d, tt, os⟩ := s
  have L1 : Looks (model prog w) hh (typeOf (.ref x)) (.ref C) := I.type
  have L2 : Looks (model prog w) hh (typeOf b) (.ref D) := hb
  have L3 : Looks (model prog w) hh (fillsNumberSlot (.ref C) nm') true := fills_K X hcl hm hs
  have L4 : Looks (model prog w) hh (fillsNumberSlot (.ref D) nm') true := fills_K X hcl' hm' hs'
  have L5 : Looks (model prog w) hh (isSubtype (.ref D) (.ref C)) false := looks_subIn X hsub
  have L6 : Looks (model prog w) hh (numberSlotInPython (.ref C) nm') true := ksp_inPy X hs hr (.inl rfl)
  have L7 : Looks (model prog w) hh (numberSlotInPython (.ref D) nm') true := ksp_inPy X hs' hr' (.inl rfl)
  have hne : (Value.ref C == Value.ref D) = false := Bool.eq_false_iff.mpr fun q => by
    cases beq_iff_eq.mp q
    rw [beq_self_eq_true] at hcd
    cases hcd
  simp only [binaryOp, hi]
  refine wpAny_holding (wpAny_bind ?_)
  unfold binaryOp1
  refine wpAny_bind (L1.at (wpAny_bind (L2.at (wpAny_bind (L3.at ?_)))))
  simp only [hne, Bool.false_eq_true, if_false]
  ksp_lk
  refine wpAny_mono one (fun r s' hr' => ?_) fun _ _ e => e
  obtain ⟨v, rfl, hq⟩ := hr'
  ksp_lk
  exact hq
end
end PySem.W
namespace MV
open PySem PySem.Spec PySem.Calls PyProof.Rows L2
section
variable {X : Cx} {CX : CXT} {k : Nat} {f f' C D : Addr} {fd : FuncData} {ps : List Str} {sp : Sp} {E : XK}
/-- what an operator of two classes asks of the text -/
structure Two (K : PySem.W.Frag) (C D f f' : Addr) (n r : Str) : Prop where
  ne : (C == D) = false
  c : PySem.W.selfFirst K C = true
  d : PySem.W.selfFirst K D = true
  at_ : PySem.W.findIn K (.ref C) n = some (some (.ref f))
  fn : PySem.W.isFn K (.ref f) = true
  nr : PySem.W.findIn K (.ref C) r = some none
  at' : PySem.W.findIn K (.ref D) n = some (some (.ref f'))
  nr' : PySem.W.findIn K (.ref D) r = some none
  sub : PySem.W.subIn K (.ref D) (.ref C) = some false
def rOwnTwo (K : PySem.W.Frag) (C D : Addr) (sp : Sp) (E : XK) : R2 := fun x y H Q => ∃ a dx fs, x = .ref a ∧ H a = some (.ins C dx fs) ∧ TyX K H y (.ref D) ∧ sp [x, y] H Q E
theorem opg_two {op : Operator} (h : Two X.K C D f f' (PySem.dunder op.info.2) (PySem.dunderR op.info.2)) (F : FnG X.prog X.w X.K X.mg X.base CX k f fd ps sp) (hr : Room k X.A) (hg : X.A.guards = some [])
    (hb : Binds X.K fd ps []) (hx : Passes CX X E) : OpR X (binaryOp op) (rOwnTwo X.K C D sp E) := by
  intro pins s σ H x y v u Q I rx ry q
  obtain ⟨a, dx, fs, rfl, ea, ty, q⟩ := q
  cases rx
  obtain ⟨mA, O, _⟩ := ins_get I.hok ea
  obtain ⟨od, J, _⟩ := O.look
  obtain ⟨m, hF⟩ := I.fr
  obtain ⟨P, kx, hP, _⟩ := kit_of I ry ty
  refine PySem.W.mv_binTwo hF I.ok.mod.kin J (kx.ty _ _ I.kIn hP) h.ne h.c h.d h.at_ h.fn h.nr h.at' h.nr' h.sub (thn (callG (us := [.ref a, u]) (vs := [.ref a, y]) F hr hg hb .nil hx I (.cons rfl (.cons ry .nil)) q) ?_)
  rintro z s' ⟨v', H', I', rv, q'⟩
  have fin : EP X pins σ Q z s' := ⟨v', H', I', rv, q'⟩
  cases z <;> first | exact fin | (cases v' <;> first | exact False.elim rv | (obtain ⟨_, h⟩ := rv; cases h) | cases rv)
end
end MV

set_option Elab.async false
set_option linter.all false
set_option maxRecDepth 100000
set_option maxHeartbeats 2000000
/-! MVP: own exceptions with one field, made and raised. -/
namespace MV
open PySem PySem.Spec PyProof.Rows L2

/-- an own exception class C, one parameter, which its __init__ keeps in the field f -/
structure Xc (K : PySem.W.Frag) (C fI : Addr) (f : Str) : Prop where
  c : OexC K C
  i : PySem.W.findIn K (.ref C) "__init__" = some (some (.ref fI))
  t : PySem.W.typeIn K (.ref fI) = some (.type "function")
  n : PySem.W.findIn K (.ref C) f = some none

/-- what such an __init__ promises -/
def spX (K : PySem.W.Frag) (f : Str) : Sp := fun vs H Q _ => ∃ (a C : Addr) (y : V), vs = [.ref a, y] ∧ OexC K C ∧ PySem.W.findIn K (.ref C) f = some none ∧
  H a = some (exo a C none) ∧ ∀ dx, H dx = none → dx ≠ a → Q .non (upd (upd H dx (exd dx [(f, y)])) a (exo a C (some dx)))

section
variable {P : Program} {w : World} {K : PySem.W.Frag} {mg : Str → Option Value} {base : Heap} {k : Nat} {f fI : Addr} {fd : FuncData}
/-- def __init__(self, v): self.v = v -/
theorem xinit_ok {qual v : Str} {st : Stmt} {p1 p2 p3 p4 : Pos} (F : Fun K "__init__" qual st fI fd) (S : FnScope ["self", v] ["self", v] (defScope st))
    (hb : defBody st = [.Assign [.Attribute (.Name "self" p1) v p2] (.Name v p3) p4])
    (h1 : Vis (defScope st) "self") (h2 : Vis (defScope st) v)
    (d1 : (v == ("__debug__" : Str)) = false) (d2 : (v == ("__classdict__" : Str)) = false) :
    FnOk P w K mg base CX0 (k + 1) fI fd ["self", v] (spX K v) := by
  refine F.ok S (fun vs H Q E h => ?_) fun cdv A outer s H vs Q E hr h => ?_
  · obtain ⟨a, C, y, rfl, _⟩ := h
    rfl
  · obtain ⟨a, C, y, rfl, hC, hn, ha, q⟩ := h
    rw [hb]
    refine ⟨_, pss_one (ps_ost (pe_var (i := 0) rfl h1 (by decide) (by decide)) (pe_var (i := 1) rfl h2 d1 d2)), ?_⟩
    exact ⟨y, rfl, .ref a, rfl, a, C, rfl, hC, hn, .inl ⟨ha, q⟩⟩

/-- C(e), to be raised -/
def tXm (C : Addr) (f : Str) (te : TE) : L2.St → Hp → XK → Prop := fun σ H Q => te σ H fun y H1 => ∀ d, H1 d = none → Q (.ref C) (some d) (upd H1 d (.xd [(f, y)]))
end

theorem upd_xd {H : Hp} {a d : Addr} {o o1 o2 o3 : HO} (ha : H a = none) (hd : d ≠ a) :
    upd (del (upd (upd (upd H a o) d o1) a o2) a) d o3 = upd H d o3 := by
  funext b
  by_cases e : b = d
  · rw [e, upd_same, upd_same]
  · rw [upd_ne e, upd_ne e]
    by_cases e2 : b = a
    · rw [e2, del_same, ha]
    · rw [del_ne e2, upd_ne e2, upd_ne e, upd_ne e2]

section
variable {X : Cx} {C fI : Addr} {fd : FuncData} {k : Nat} {f x : Str} {e : Expr} {te : TE} {p pos pos2 : Pos} {W : WX}
theorem pe_mono (he : PE X e te) : PE X e (fun σ H Q => ∃ Q0 : VK, te σ H Q0 ∧ ∀ v H1, Q0 v H1 → Q v H1) :=
  ⟨fun pins s σ H Q I ⟨Q0, h, m⟩ => wpAny_mono (he.run pins s σ H Q0 I h) (fun _ _ ⟨v, H1, I1, r, q⟩ => ⟨v, H1, I1, r, m v H1 q⟩) fun _ _ z => z⟩
theorem pmk_x (T : Xc X.K C fI f) (F : FnOk X.prog X.w X.K X.mg X.base CX0 k fI fd ["self", f] (spX X.K f)) (hr : Room (k + 1) X.A)
    (hb : Binds X.K fd ["self", f] []) (hg : Gl X x) (hm : X.mg x = some (.ref C)) (he : PE X e te)
    (hdb : (x == ("__debug__" : Str)) = false := by decide) (hs : starEach [e] X.env = (false, eval e X.env) :: starEach [] X.env := by rfl) :
    PMk X (.Call (.Name x p) [e] [] pos) (tXm C f te) := by
  intro pins s σ H Q I h
  refine pmk_oex T.c T.i T.t F hr hb .nil (fun _ _ _ _ _ _ _ z => z.elim) hg hm (pa_cons (pe_mono he) pa_nil hs) hdb hs rfl pins s σ H Q I ?_
  refine ⟨_, h, fun y H1 q => ⟨by show 1 ≤ 1000; decide, fun a ha => ⟨a, C, y, rfl, T.c, T.n, upd_same, fun dx n1 ne => ⟨rfl, dx, [(f, y)], upd_same, ?_, ?_, ?_⟩⟩⟩⟩
  · exact (upd_ne ne).trans upd_same
  · rw [upd_ne ne] at n1
    exact n1
  · rw [upd_xd ha ne]
    rw [upd_ne ne] at n1
    exact q dx n1

/-- raise C(e) -/
theorem ps_x (hc : X.calm = true) (tk : Takes X W) (hk : PMk X (.Call (.Name x p) [e] [] pos) (tXm C f te)) :
    PS X (.Raise (some (.Call (.Name x p) [e] [] pos)) none pos2) (fun _ σ H => te σ H fun y H1 => ∀ d, H1 d = none → W (.ref C) (some d) σ (upd H1 d (.xd [(f, y)]))) :=
  ps_raise hc tk hk
end
end MV

set_option Elab.async false
set_option linter.all false
set_option maxRecDepth 100000
set_option maxHeartbeats 2000000
/-! MVQ: a lambda handed to a def, where no repr is under way. -/
namespace MV
open PySem PySem.Spec PyProof.Rows L2 LamX
section
variable {X : Cx} {pins : List (Addr × Obj)} {σ : L2.St} {H HZ : Hp} {s s1 : Shared}
/-- x(), the def's parameter a lambda of the caller, no repr under way -/
theorem peg_act {CXg : CXT} {Eg : XK} {Ng : List Str} {qg : Str} {sg : Scope} {g f c' : Addr} {cdg pm ctv : Value} {params : Arguments} {body : Expr} {scope : Scope} {k i : Nat} {a : Str} {pn : List (Addr × Obj)}
    {xe : Value → Shared → Prop} {W : WX} {E : XK} {tb : TE} {p1 p2 : Pos} (hG : X.A.guards = some [])
    (I : Inv X pins σ H s) (L : LamS X.env.scope scope)
    (hf : s.heap.get? f = some (PySem.W.kla_obj "<lambda>" (X.env.qual ++ "<lambda>") params body scope (cloFrom X.env.cells scope.names []) pm c' ctv)) (hfn : H f = none) (hfr : f ∉ frs X.stack)
    (hbind : bindArgs (PySem.W.kla_fn "<lambda>" (X.env.qual ++ "<lambda>") params body scope (cloFrom X.env.cells scope.names []) pm (.ref c') ctv) ⟨[], []⟩ = pure [])
    (tk : Takes ((cxOf CXg X.prog X.w X.K X.mg X.base Ng qg sg g cdg X.A X.stack s H Eg).tr pn xe) W) (hW : ∀ cls d σ' H', E cls d H' → W cls d σ' H')
    (hr : Room (k + 1) (X.A.deeper (envOfC qg sg s.heap.objs.size g cdg)))
    (hbody : ∀ (A : Around) (outer : List Env) (s : Shared) (H : Hp), A.guards = some [] → Room k (A.deeper (lamEnv X scope s.heap.objs.size f c')) → PE (lamCx X A outer s H E scope f c') body tb)
    (hN : Ng[i]? = some a) (hv : Vis sg a) (hd : (a == ("__debug__" : Str)) = false := by decide) (hcd : (a == ("__classdict__" : Str)) = false := by decide) :
    PE ((cxOf CXg X.prog X.w X.K X.mg X.base Ng qg sg g cdg X.A X.stack s H Eg).tr pn xe) (.Call (.Name a p1) [] [] p2)
      (fun σZ HZ Q => σZ[i]? = some (some (.ref f)) ∧ HZ c' = some (CodeO c' (X.env.qual ++ "<lambda>")) ∧ tb σ HZ Q) := by
  constructor
  rintro pinsZ sZ σZ HZ Q IZ ⟨h1, h2, h3⟩
  apply wpAny_Call_Name_kw
  refine thn ((pe_var (pos := p1) (i := i) hN hv hd hcd).run pinsZ sZ σZ HZ (fun v H1 => v = .ref f ∧ H1 = HZ) IZ ⟨.ref f, h1, rfl, rfl⟩) ?_
  rintro u s1 ⟨v, H1, I1, r1, rfl, rfl⟩
  cases r1
  have there := I1.base.keep f _ hf hfn hfr (fun z => nomatch (show f ∈ ([] : List Addr) from z))
  refine PySem.W.callWith_F0 ⟨_, _, _, _, there⟩ ?_
  obtain ⟨⟨oc, vs, t, e1, e2, e3⟩, _, _⟩ := I1.hok c' _ h2
  have run : codeAny (model X.prog X.w) (X.A.deeper (envOfC qg sg s.heap.objs.size g cdg)) (.call (.ref f) ⟨[], []⟩)
      (CR (L2.CX X.prog X.w) (envOfC qg sg s.heap.objs.size g cdg :: X.stack) X.prog X.w H1 s1 Q E) s1 := by
    refine PySem.W.kla_callFunE hr.depth there rfl L.co L.gen rfl ⟨c', oc, vs, t, rfl, e1, e2, e3⟩ ?_
    rw [hbind]
    refine wpAny_pure (wpAny_newFunctionEnv (fun y hy => (L.own y hy).2) (fun y hy => nomatch hy) (fun h₁ hns hsb => ⟨I1.nolimit.fresh _ hsb, ?_⟩) L.kind)
    have kp : ∀ b o, s1.heap.get? b = some o → h₁.get? b = some o := fun b o e =>
      hsb.extBut b o (Nat.ne_of_lt (Heap.lt_size e)) (Heap.get?_push_of_some _ e)
    have J := lam_start2 (E := E) (f := f) (c' := c') (tk := s1.toks + ([] : List (Str × Value)).length) I L I1.env0 hr.hd I1.base hns kp
    refine PySem.W.kla_codeExpr (wpAny_mono ((hbody (X.A.deeper (envOfC qg sg s.heap.objs.size g cdg)) _ s1 H1 hG (hr.deeper _)).run [] _ _ H1 Q J h3) ?_ fun _ _ z => z)
    rintro v s' ⟨w', H', J', rv, q⟩
    exact ⟨w', H', J'.os, J'.bare, J'.base, J'.hok, rv, q⟩
  have out := passes_call tk hW
  refine wpAny_call (codeAny_mono run ?_)
  rintro (e | (_ | _ | _ | u)) s' hq
  · exact out pinsZ σZ H1 s1 e s' I1 hq
  · exact hq.elim
  · exact hq.elim
  · exact hq.elim
  · exact I1.after hq

/-- x(lambda: body), no repr under way -/
theorem peg_lamcall {T : List (Addr × Str)} {TT : (XK → Hp → VK → Prop) → Hp → VK → Prop} {x a : Str} {g c P : Addr} {k : Nat} {pg : Arguments} {bg : List Stmt} {sg : Scope} {dV kV doc pm cdv ct oc : Value} {an od : Option Addr} {osl : Array (Option Value)}
    {Ng : List Str} {params : Arguments} {body : Expr} {scope : Scope} {t : XK → TE} {p lpos pos : Pos} (hG : X.A.guards = some []) (hg : Gl X x) (hm : X.mg x = some (.ref g)) (hk : PySem.W.keepIn X.K (.ref g) = true)
    (lk : X.K.lookup g = some ⟨oc, od, .func (PySem.W.fnOf x x pg bg sg dV kV doc pm an cdv ct), osl⟩) (hcg : PySem.W.codeIn X.K cdv x = true) (hb : L2.Binds X.K (PySem.W.fnOf x x pg bg sg dV kV doc pm an cdv ct) [a] [])
    (Sg : FnScope Ng [a] sg) (hNg : Ng[0]? = some a) (hva : Vis sg a) (hgv : GivesTo X Ng x sg g cdv bg a (X.env.qual ++ "<lambda>") TT)
    (TB : TabB X.base X.mg c P) (hcode : X.env.code = .ref c) (hmT : (P, X.env.qual ++ "<lambda>") ∈ T) (hu : ∀ p ∈ T, p.1 = P → p.2 = X.env.qual ++ "<lambda>") (hr : Room (k + 2) X.A) (L : LamS X.env.scope scope)
    (hdef : defaultsOf params X.env = ([], []))
    (hbind : ∀ (q : Str) (cl : List (Str × Addr)) (pm cv ctv : Value), bindArgs (PySem.W.kla_fn "<lambda>" q params body scope cl pm cv ctv) ⟨[], []⟩ = pure [])
    (hbody : ∀ (A : Around) (outer : List Env) (s : Shared) (H : Hp) (E : XK) (f c' : Addr), A.guards = some [] → Room k (A.deeper (lamEnv X scope s.heap.objs.size f c')) → PE (lamCx X A outer s H E scope f c') body (t E))
    (hdb : (x == ("__debug__" : Str)) = false := by decide) (hd : (a == ("__debug__" : Str)) = false := by decide) (hcd : (a == ("__classdict__" : Str)) = false := by decide) :
    PE X (.Call (.Name x p) [.Lambda params body scope lpos] [] pos) (tLam T TT t) := by
  constructor
  rintro pins s σ H Q I ⟨hT, h⟩
  apply wpAny_Call_Name_kw
  refine ld_glob I hg hm (PySem.W.callWith_K (h₀ := X.base) I.ok.mod.kin hk ?_ (by rfl) (by rfl)) hdb
  show wpAny _ _ (spliced ((false, eval (.Lambda params body scope lpos) X.env) :: backTo pos (starEach [] X.env))) _ _ s
  refine Calls.spliced_cons (lam_make2 I TB hcode hmT hu hT hdef (L.has I.ok) fun f c' pm' ctv H1 s' I1 eN T1 hf hfn hfr hco => Calls.spliced_nil ⟨I1.kIn, ?_⟩)
  have run : codeAny (model X.prog X.w) X.A (.call (.ref g) ⟨[.ref f], []⟩) (CR C8.CX0 X.stack X.prog X.w H1 s' Q C8.E0) s' := by
    refine run_ofS (N := Ng) (ps := [a]) (us := [.ref f]) (vs := [.ref f]) lk hcg Sg hr I1.env0 (hb s' [.ref f] I1.kIn rfl) (.cons rfl .nil) rfl fun hr' => ?_
    obtain ⟨t', ht', q'⟩ := hgv f c' s' H1 Q (fun E H' Q' => t E σ H' Q')
      (fun W pn xe E p1 p2 tk hW => peg_act (i := 0) hG I1 L hf hfn hfr (hbind _ _ _ _ _) tk hW hr' (fun A outer s H hA hr2 => hbody A outer s H E f c' hA hr2) hNg hva hd hcd) hco (h H1 eN T1)
    exact ⟨t', ht'.nox, q'⟩
  refine wpAny_call (codeAny_mono run ?_)
  rintro (e | (_ | _ | _ | u)) s2 hq
  · exact False.elim hq
  · exact hq.elim
  · exact hq.elim
  · exact hq.elim
  · exact I1.after hq
end
end MV

set_option Elab.async false
set_option linter.all false
set_option maxRecDepth 100000
set_option maxHeartbeats 2000000
/-! MVR: several clauses `except C as e`. -/
namespace MV
open PySem PySem.Spec PyProof.Rows L2

/-- a clause's class, and what its suite asks -/
abbrev Cl := Value × (Addr → Value → Option Addr → TS)
/-- what is asked behind a suite whose name stands in slot i: the name is gone -/
def behind (i : Nat) (D : Ends) : Ends := { nx := fun σ H => D.nx (σ.set i none) H, rt := D.rt, bk := fun σ H => D.bk (σ.set i none) H, ct := fun σ H => D.ct (σ.set i none) H }
/-- what the clauses ask of an exception, one after the other -/
def wAsN (K : PySem.W.Frag) (i : Nat) (Wout : WX) (D : Ends) : List Cl → WX
  | [] => Wout
  | (c, ts) :: r => fun cls d σ H => ∃ b, PySem.W.exmOne K cls c = some b ∧ (b = true → ∀ a, H a = none → ts a cls d (behind i D) (σ.set i (some (.ref a))) H) ∧ (b = false → wAsN K i Wout D r cls d σ H)
inductive HdsAs (X : Cx) (n : Str) : List ExceptHandler → List Cl → Prop
  | nil : HdsAs X n [] []
  | cons {x : Str} {c : Value} {ts : Addr → Value → Option Addr → TS} {b₀ : Stmt} {suite : List Stmt} {np pos' : Pos} {hds : List ExceptHandler} {l : List Cl} (hc : Names X x c)
      (hsu : ∀ (a : Addr) (oe : Obj) (cls : Value) (d : Option Addr) (pn : List (Addr × Obj)), Zc cls d oe → (∃ vs, oe.data = .fields vs) → PSs (X.suite a ((a, oe) :: pn)) (b₀ :: suite) (ts a cls d)) (r : HdsAs X n hds l) :
      HdsAs X n (.ExceptHandler (some (.Name x np)) (some n) (b₀ :: suite) pos' :: hds) ((c, ts) :: l)

section
variable {X : Cx} {n : Str} {i : Nat} {body : List Stmt} {h₀ : ExceptHandler} {hds : List ExceptHandler} {l : List Cl} {pos : Pos} {tb : WX → TS} {Wout : WX}
theorem ps_try_asN (hs : X.stack = X.env :: X.outer) (hf : X.env.frame = some X.env.locals) (hN : X.N.Nodup) (hi : X.N[i]? = some n) (hln : X.env.kindOf n = some .local) (tk : Takes X Wout)
    (hb : ∀ (W : WX) (pn : List (Addr × Obj)) (xe : Value → Shared → Prop), Takes (X.tr pn xe) W → PassesOwn (model X.prog X.w) X.A X.env xe → PSs (X.tr pn xe) body (tb W))
    (hh : HdsAs X n (h₀ :: hds) l) : PS X (.Try body (h₀ :: hds) [] [] pos) (fun D σ H => tb (wAsN X.K i Wout D l) D σ H) := by
  constructor
  intro pins s σ H D I h
  have ok := I.ok
  have frames : X.A.frames = some (X.env :: X.outer) := by rw [ok.frames, hs]
  apply wpAny_Try_except
  refine wpAny_mono ((hb (wAsN X.K i Wout D l) (X.pn ++ pins)
    (fun e s₁ => wpAny (model X.prog X.w) X.A (noteFrame e X.env) (fun _ s₂ => wpAny (model X.prog X.w) X.A (setFlight e none) (fun _ s₃ => wpAny (model X.prog X.w) X.A (handleBy e X.env (h₀ :: hds)) (SP X pins D) X.xe s₃) X.xe s₂) X.xe s₁)
    (fun u s' xx => ?_) PassesOwn.looking).run [] s σ H D (I.toTry _) h) ?_ fun _ _ z => z
  · obtain ⟨a, B, sI, pins', σ', H', cls, d, rfl, J', nb, up, sky, na, os, ag, w⟩ := xx
    have J : Inv X pins σ' H' sI := J'.ofTry ok
    have sky' : Sky B (X.env :: X.outer) a (Zc cls d) X.env.locals s'.heap := hs ▸ sky
    refine Sky.land Zc.steady frames hf sky' fun h3 fl3 up3 => ?_
    have J3 : Inv X pins σ' H' { s' with heap := h3 } := J.landed nb fl3.1 (up.trans up3) os ag
    obtain ⟨oe3, vs3, he3, hz3, hd3⟩ := fl3.there
    have nfr : a ∉ frs (X.env :: X.outer) := fun hm => by
      obtain ⟨_, o', e', hnf⟩ := fl3.2.2.1.mem hm
      rw [he3] at e'
      cases e'
      exact hnf _ hd3
    have nL : a ≠ X.env.locals := fun z => nfr (List.mem_filterMap.mpr ⟨X.env, List.mem_cons_self, by rw [hf, z]⟩)
    have nF : a ∉ X.fs := fun hm => by
      obtain ⟨e, he, q⟩ := List.mem_filterMap.mp hm
      exact nfr (List.mem_filterMap.mpr ⟨e, List.mem_cons_of_mem _ he, q⟩)
    have S3 := J3.suite he3 hd3 na nL nF
    have go : ∀ {hds' : List ExceptHandler} {l' : List Cl}, HdsAs X n hds' l' → wAsN X.K i Wout D l' cls d σ' H' →
        wpAny (model X.prog X.w) X.A (handleBy (.ref a) X.env hds') (SP X pins D) X.xe { s' with heap := h3 } := by
      intro hds' l' hk
      induction hk with
      | nil =>
        intro w
        apply wpAny_handleBy_nil
        obtain ⟨_, _, _, oe, vs, T, oT, ts', he, hz, hd, h1, hr⟩ := id fl3
        have fin : wpAny (model X.prog X.w) X.A (setFlight (.ref a) X.env.frame) (fun _ s4 => wpAny (model X.prog X.w) X.A (throw (.ref a) : Sem Flow) (SP X pins D) X.xe s4) X.xe { s' with heap := h3 } := by
          rw [hf]
          exact HandSPX.setFlight_upZ fl3 fun h4 hh4 up4 => wpAny_throw (tk _ _ ⟨a, B, sI, pins, σ', H', cls, d, rfl, J, nb, (up.trans up3).trans up4, .inr (.inr (by rw [hs]; exact hh4)), na, os, ag, w⟩)
        unfold PySem.passOn
        refine wpAny_bind (wpAny_field he hd h1 ?_)
        rw [if_neg (by simp)]
        first
          | exact wpAny_bind (wpAny_pure (wpAny_bind fin))
          | exact wpAny_bind fin
      | @cons x c ts b₀ suite np pos' hds2 l2 hc hsu r ih =>
        rintro ⟨b, hb1, hyes, hno⟩
        refine wpAny_handleBy_cons (codeAny_handlers_test ?_) (by intro q; cases q)
        have LT : PySem.W.Looks (model X.prog X.w) h3 (typeOf (.ref a)) cls := fun A Q E s k q => wpAny_typeOf_ref (k _ _ he3) (by rw [hz3.1]; exact q)
        have LM := PySem.W.exm_one (M := model X.prog X.w) (J3.kIn) LT hb1
        have test : ∀ {Q : Value → Shared → Prop} {E : Value → Shared → Prop}, Q c { s' with heap := h3 } →
            wpAny (model X.prog X.w) (X.A.mark (some (.ref a))) (eval (.Name x np) X.env) Q E { s' with heap := h3 } := by
          intro Q E q
          obtain ⟨hg, hdbg, hm | ⟨hm, hv, hnn⟩⟩ := hc
          · exact ld_glob (X := X.suite a ((a, oe3) :: (X.pn ++ pins))) S3 hg hm q hdbg
          · exact ld_blt (X := X.suite a ((a, oe3) :: (X.pn ++ pins))) S3 hg hm hv q hnn hdbg
        refine test (LM.here ?_)
        cases b with
        | false => exact ih (hno rfl)
        | true =>
          apply codeAny_handlers_suite_as
          refine HandSPX.lands_againZ fl3 fun h4 fl4 up4 => ?_
          have J4 : Inv X pins σ' H' { s' with heap := h4 } := J.landed nb fl4.1 ((up.trans up3).trans up4) os ag
          obtain ⟨oe4, vs4, he4, hz4, hd4⟩ := fl4.there
          have S4 := J4.suite he4 hd4 na nL nF
          refine store_ok (X := X.suite a ((a, oe4) :: (X.pn ++ pins))) (v := .ref a) S4 hN hi (.inl hln) rfl (fun s5 S5 => ?_) (.inr hln)
          refine wpAny_mono ((hsu a oe4 cls d (X.pn ++ pins) hz4 ⟨_, hd4⟩).run [] s5 _ H' _ S5 (hyes rfl a na)) (fun f s6 hsp => ?_) (fun _ _ z => False.elim z)
          have last : ∀ {σ6 : L2.St} {H6 : Hp} {Q : Shared → Prop}, Inv (X.suite a ((a, oe4) :: (X.pn ++ pins))) [] σ6 H6 s6 → (∀ s7, Inv X pins (σ6.set i none) H6 s7 → Q s7) →
              wpAny (model X.prog X.w) X.A (do bindName X.env n .none; unbindBehindTheSuite X.env n pos') (fun _ s7 => Q s7) X.xe s6 := fun S6 hq => gone_ok (S6.unsuite ok) hN hi hln hq
          match f, hsp with
          | .next, ⟨σ6, H6, S6, q6⟩ => exact last S6 fun s7 J7 => ⟨_, _, J7, q6⟩
          | .brk, ⟨σ6, H6, S6, q6⟩ => exact last S6 fun s7 J7 => ⟨_, _, J7, q6⟩
          | .cont, ⟨σ6, H6, S6, q6⟩ => exact last S6 fun s7 J7 => ⟨_, _, J7, q6⟩
          | .ret u, ⟨v6, σ6, H6, S6, r6, q6⟩ => exact last S6 fun s7 J7 => ⟨_, _, _, J7, r6, q6⟩
    exact go hh w
  · intro f s1 hsp
    match f, hsp with
    | .next, ⟨σ', H', J', q⟩ => exact wpAny_execs_nil ⟨σ', H', J'.ofTry ok, q⟩
    | .brk, ⟨σ', H', J', q⟩ => exact ⟨σ', H', J'.ofTry ok, q⟩
    | .cont, ⟨σ', H', J', q⟩ => exact ⟨σ', H', J'.ofTry ok, q⟩
    | .ret u, ⟨v, σ', H', J', r, q⟩ => exact ⟨v, σ', H', J'.ofTry ok, r, q⟩
end
end MV

set_option Elab.async false
set_option linter.all false
set_option maxRecDepth 100000
set_option maxHeartbeats 2000000
/-! MVS: the end of a law whose defs make lambdas: tables of code objects stand in the heap. -/
namespace MV
open PySem PySem.Spec PyProof.Rows L2 LamX

/-- nothing is tracked but the script and tables -/
structure OnlyT (K : PySem.W.Frag) (cs : List (Addr × Addr)) (H : Hp) : Prop where
  k : ∀ b u, H b = some u → K.lookup b = none
  u : ∀ b u, H b = some u → (∃ o xs, u = .frz o (.lst xs)) ∨ (u = .tbl #[] ∧ ∃ p ∈ cs, p.2 = b)

theorem law_coreT {P : Program} {w : World} {K : PySem.W.Frag} {mg mb : Str → Option Value} {k : Nat} {fa a : Addr} {fd : FuncData}
    {x : Str} {sp : Sp} {s₁ : Shared} {H : Hp} {CX : CXT} {cs : List (Addr × Addr)}
    (KX : K.In s₁.heap) (hns : s₁.heap.Ns mainGlobals mg) (hb : s₁.heap.Ns builtinsNs mb) (hbb : ∀ x : Str, x ≠ "__name__" → mb x = bootBuiltins x)
    (hlim : s₁.heap.NoLimit) (hg : s₁.gens = #[]) (hT : ∀ p ∈ cs, s₁.heap.get? p.2 = some { cls := .none, data := .fields #[] })
    (C : ∀ p ∈ cs, PySem.W.CodeHd s₁.heap p.1 p.2)
    (hbm : ∃ (bm : Addr) (ob : Obj), mg "__builtins__" = some (.ref bm) ∧ bm ≠ builtinsNs ∧ s₁.heap.get? bm = some ob ∧ ob.cls = .type "module" ∧ ob.dict = some builtinsNs ∧ ob.data = .plain)
    (hr : Room k callerA)
    (F : ∀ base : Heap, K.In base → base.Ns mainGlobals mg → (∀ p ∈ cs, TabB base mg p.1 p.2) → FnG P w K mg base CX k fa fd [x] sp)
    (hbind : ∀ (s : Shared) (u : Value), BindsTo s fd ⟨[u], []⟩ [(x, u)])
    (hsp : sp [.ref a] H (fun v _ => v = .bl true) fun _ _ _ => False)
    (hCX : ∀ e s', CX [] H s₁ (fun _ _ _ => False) e s' → False)
    (ok : HOk P w H s₁.heap) (only : OnlyT K cs H) :
    codeAny (model P w) callerA (.call (.ref fa) ⟨[.ref a], []⟩)
      (fun r s' => r = .ok (.ret (.bool true)) ∧ OldK s₁.heap s'.heap ∧ s'.os = s₁.os ∧ AllBare s'.gens) s₁ := by
  -- what is neither a list nor an empty table is not tracked
  have free : ∀ {b : Addr} {o : Obj}, s₁.heap.get? b = some o → (∀ vs n, o.data ≠ .seq vs n) → o.data ≠ .fields #[] → H b = none := by
    intro b o e n1 n2
    match q : H b with
    | none => rfl
    | some u =>
      rcases only.u b u q with ⟨ob, xs, rfl⟩ | ⟨rfl, p, hp, rfl⟩
      · obtain ⟨e2, _, its, n, _, e3⟩ := ok b _ q
        rw [e2] at e3
        cases e3
        rw [e2] at e
        cases e
        exact (n1 _ _ rfl).elim
      · rw [hT p hp] at e
        cases e
        exact (n2 rfl).elim
  have ns : ∀ {b : Addr} {m : Str → Option Value}, s₁.heap.Ns b m → (hidT s₁.heap H).Ns b m := by
    rintro b m ⟨o, es, ep, e, d, r⟩
    exact ⟨o, es, ep, hidT_get e (free e (fun _ _ z => by rw [d] at z; cases z) (fun z => by rw [d] at z; cases z)), d, r⟩
  have kin : K.In (hidT s₁.heap H) := by
    intro b o e
    refine hidT_get (KX b o e) ?_
    match q : H b with
    | none => rfl
    | some u => exact absurd e (by rw [only.k b u q]; simp)
  have TB : ∀ p ∈ cs, TabB (hidT s₁.heap H) mg p.1 p.2 := by
    intro p hp
    have here := hT p hp
    constructor
    · obtain ⟨o, us, file, tf, flags, tg, inF, text, tt, e1, r1, r2, r3, r⟩ := C p hp
      refine ⟨o, us, file, tf, flags, tg, inF, text, tt, hidT_get e1 (free e1 (fun _ _ z => by rw [r2] at z; cases z) (fun z => ?_)), r1, r2, r3, r⟩
      rw [r2] at z
      cases z
      simp at r3
    · obtain ⟨bm, ob, b1, b2, b3, b4, b5, b6⟩ := hbm
      refine ⟨bm, ob, b1, b2, ?_, ?_, hidT_get b3 (free b3 (fun _ _ z => by rw [b6] at z; cases z) (fun z => by rw [b6] at z; cases z)), b4, b5, b6⟩
      · rintro rfl
        obtain ⟨o, es, ep, e, hd, _⟩ := hns
        rw [e] at b3
        cases b3
        rw [hd] at b6
        cases b6
      · rintro rfl
        rw [here] at b3
        cases b3
        cases b6
    · intro z
      obtain ⟨o, es, ep, e, hd, _⟩ := hns
      rw [z, here] at e
      cases e
      cases hd
  obtain ⟨ml, l1, l2⟩ := hlim
  have e0 : Env0 P w K mg (hidT s₁.heap H) callerA [] s₁ H :=
    { frames := rfl
      mod := ⟨kin, ns hns, ⟨mb, ns hb, hbb⟩, ⟨ml, ns l1, l2⟩⟩
      bs := fun b o e => of_hidT e
      bsz := Nat.le_of_eq (hidT_size _ _)
      funs := trivial
      frf := fun b z => absurd z List.not_mem_nil
      hok := ok
      bare := .of_eq hg }
  refine codeAny_mono ((F _ kin (ns hns) TB).go callerA [] s₁ H _ [.ref a] [.ref a] _ _ hr rfl e0 (hbind s₁ (.ref a)) (.cons rfl .nil) hsp) ?_
  intro r s' h
  match r, h with
  | .error e, h => exact (hCX e s' h).elim
  | .ok (.ret u), h =>
    obtain ⟨v, H', os, bare, un, hok', rv, q⟩ := h
    have e1 : v = .bl true := q
    subst e1
    have e2 : u = Value.bool true := rv
    subst e2
    have old : ∀ b o, s₁.heap.get? b = some o → s'.heap.get? b = some o ∨ (∃ p ∈ cs, p.2 = b ∧ o = { cls := .none, data := .fields #[] } ∧ ∃ more : Array Value, s'.heap.get? b = some { cls := .none, data := .fields more }) := by
      intro b o e
      match q : H b with
      | none => exact .inl (un.keep b o e q List.not_mem_nil List.not_mem_nil)
      | some z =>
        rcases only.u b z q with ⟨ob, xs, rfl⟩ | ⟨rfl, p, hp, rfl⟩
        · have e3 := (ok b _ q).1
          rw [e] at e3
          cases e3
          exact .inl (hok' b _ (un.frzs b o _ q)).1
        · rw [hT p hp] at e
          cases e
          obtain ⟨more, z⟩ := un.tbls p.2 #[] q
          exact .inr ⟨p, hp, rfl, rfl, _, hok' p.2 _ z⟩
    refine ⟨rfl, ⟨fun b o e => ?_, fun b o e => ?_⟩, os, bare⟩
    · rcases old b o e with z | ⟨p, hp, rfl, rfl, more, z⟩
      · exact .inl z
      · exact .inr (.inl ⟨((C p hp).tab (hT p hp)).isCodeTable, rfl, #[], more, rfl, by rw [Array.empty_append]; exact z⟩)
    · rcases old b o e with z | ⟨p, hp, rfl, rfl, more, z⟩
      · exact ⟨_, z⟩
      · exact ⟨_, z⟩

/-- the heap of a law's start: the script, perhaps, and the tables -/
def startT (s : Option (Addr × HO)) (cs : List (Addr × Addr)) : Hp := fun b => if b ∈ cs.map (·.2) then some (.tbl #[]) else match s with | some (a, o) => if b = a then some o else none | none => none

theorem law_callT {P : Program} {w : World} {K : PySem.W.Frag} {mg mb : Str → Option Value} {k : Nat} {fa a : Addr} {fd : FuncData}
    {x : Str} {sp : Sp} {s₁ : Shared} {vs : List Value} {ns : List Int} {CX : CXT} {cs : List (Addr × Addr)}
    (KX : K.In s₁.heap) (hns : s₁.heap.Ns mainGlobals mg) (hb : s₁.heap.Ns builtinsNs mb) (hbb : ∀ x : Str, x ≠ "__name__" → mb x = bootBuiltins x)
    (hlim : s₁.heap.NoLimit) (hg : s₁.gens = #[]) (hT : ∀ p ∈ cs, s₁.heap.get? p.2 = some { cls := .none, data := .fields #[] }) (nT : ∀ p ∈ cs, K.lookup p.2 = none)
    (C : ∀ p ∈ cs, PySem.W.CodeHd s₁.heap p.1 p.2)
    (hbm : ∃ (bm : Addr) (ob : Obj), mg "__builtins__" = some (.ref bm) ∧ bm ≠ builtinsNs ∧ s₁.heap.get? bm = some ob ∧ ob.cls = .type "module" ∧ ob.dict = some builtinsNs ∧ ob.data = .plain)
    (ha : s₁.heap.get? a = some { cls := .type "list", data := .seq vs.toArray }) (hi : IntsAre vs ns) (hl : ns.length ≤ sizeLine) (hr : Room k callerA)
    (F : ∀ base : Heap, K.In base → base.Ns mainGlobals mg → (∀ p ∈ cs, TabB base mg p.1 p.2) → FnG P w K mg base CX k fa fd [x] sp)
    (hbind : ∀ (s : Shared) (u : Value), BindsTo s fd ⟨[u], []⟩ [(x, u)])
    (hsp : ∀ H : Hp, (∀ p ∈ cs, H p.2 = some (.tbl #[])) → SqL K H a (ns.map V.int) → sp [.ref a] H (fun v _ => v = .bl true) fun _ _ _ => False)
    (hCX : ∀ H e s', CX [] H s₁ (fun _ _ _ => False) e s' → False) :
    codeAny (model P w) callerA (.call (.ref fa) ⟨[.ref a], []⟩)
      (fun r s' => r = .ok (.ret (.bool true)) ∧ OldK s₁.heap s'.heap ∧ s'.os = s₁.os ∧ AllBare s'.gens) s₁ := by
  have rv := vals_ints hi
  have n1 := hi.length
  have mem : ∀ {b}, b ∈ cs.map (·.2) → ∃ p ∈ cs, p.2 = b := fun hb => List.mem_map.mp hb
  have atT : ∀ (z : Option (Addr × HO)) (p : Addr × Addr), p ∈ cs → startT z cs p.2 = some (.tbl #[]) := fun z p hp => if_pos (List.mem_map.mpr ⟨p, hp, rfl⟩)
  have aT : a ∉ cs.map (·.2) := fun z => by
    obtain ⟨p, hp, e⟩ := mem z
    have q := hT p hp
    rw [e, ha] at q
    cases q
  match hk : K.lookup a with
  | some o =>
    have e := (KX a o hk).symm.trans ha
    cases e
    have at_ : ∀ b u, startT none cs b = some u → u = .tbl #[] ∧ ∃ p ∈ cs, p.2 = b := fun b u z => by
      unfold startT at z
      split at z
      · rename_i hb
        cases z
        exact ⟨rfl, mem hb⟩
      · cases z
    refine law_coreT (H := startT none cs) KX hns hb hbb hlim hg hT C hbm hr F hbind (hsp _ (atT none) (.inr ⟨_, vs.toArray, _, hk, rfl, rfl, rfl, ?_, by simpa using rv⟩)) (hCX _) (fun b u z => ?_) ⟨fun b u z => ?_, fun b u z => .inr (at_ b u z)⟩
    · rw [List.size_toArray]
      omega
    · obtain ⟨rfl, p, hp, rfl⟩ := at_ b u z
      exact hT p hp
    · obtain ⟨rfl, p, hp, rfl⟩ := at_ b u z
      exact nT p hp
  | none =>
    have at_ : ∀ b u, startT (some (a, .frz { cls := .type "list", data := .seq vs.toArray } (.lst (ns.map V.int)))) cs b = some u →
        (b = a ∧ u = .frz { cls := .type "list", data := .seq vs.toArray } (.lst (ns.map V.int))) ∨ (u = .tbl #[] ∧ ∃ p ∈ cs, p.2 = b) := fun b u z => by
      unfold startT at z
      split at z
      · rename_i hb
        cases z
        exact .inr ⟨rfl, mem hb⟩
      · dsimp only at z
        split at z
        · rename_i hb
          cases z
          exact .inl ⟨hb, rfl⟩
        · cases z
    have ata : startT (some (a, .frz { cls := .type "list", data := .seq vs.toArray } (.lst (ns.map V.int)))) cs a = some (.frz { cls := .type "list", data := .seq vs.toArray } (.lst (ns.map V.int))) := by
      unfold startT
      rw [if_neg aT]
      exact if_pos rfl
    refine law_coreT (H := startT (some (a, .frz { cls := .type "list", data := .seq vs.toArray } (.lst (ns.map V.int)))) cs) KX hns hb hbb hlim hg hT C hbm hr F hbind
      (hsp _ (atT _) (.inl (.inr ⟨_, ata⟩))) (hCX _) (fun b u z => ?_) ⟨fun b u z => ?_, fun b u z => ?_⟩
    · rcases at_ b u z with ⟨rfl, rfl⟩ | ⟨rfl, p, hp, rfl⟩
      · exact ⟨ha, by rw [List.length_map]; exact hl, vs, _, rv, ha⟩
      · exact hT p hp
    · rcases at_ b u z with ⟨rfl, rfl⟩ | ⟨rfl, p, hp, rfl⟩
      · exact hk
      · exact nT p hp
    · rcases at_ b u z with ⟨rfl, rfl⟩ | h
      · exact .inl ⟨_, _, rfl⟩
      · exact .inr h

/-- what is known of the law's promise where tables stand -/
def LawT (l : PySem.W.OpenLaw) (w : World) (K : PySem.W.Frag) (CX : CXT) (k n : Nat) (x : Str) (mg : Str → Option Value) (fa : Addr) (h : Heap) : Prop :=
  ∃ (fd : FuncData) (cs : List (Addr × Addr)) (sp : Sp), (∀ p ∈ cs, h.get? p.2 = some { cls := .none, data := .fields #[] }) ∧ (∀ p ∈ cs, K.lookup p.2 = none) ∧ (∀ p ∈ cs, PySem.W.CodeHd h p.1 p.2) ∧
    (∀ (s : Shared) (u : Value), BindsTo s fd ⟨[u], []⟩ [(x, u)]) ∧
    (∀ (H : Hp) (a : Addr) (ns : List Int), ns.length ≤ n → (∀ p ∈ cs, H p.2 = some (.tbl #[])) → SqL K H a (ns.map V.int) → sp [.ref a] H (fun v _ => v = .bl true) fun _ _ _ => False) ∧
    ∀ base : Heap, K.In base → base.Ns mainGlobals mg → (∀ p ∈ cs, TabB base mg p.1 p.2) → FnG l.prog w K mg base CX k fa fd [x] sp

/-- the law's row from the promise of its def, the tables of all defs of the text being known to be empty at the start -/
theorem walkT {l : PySem.W.OpenLaw} {n k : Nat} {q : Program} {loose : List Str} {XP : (Str → Option Value) → Heap → Prop} {YP : World → Heap → Prop}
    {d : DefRec} {K : Params → PySem.W.Frag} {CX : World → CXT} {x : Str}
    (hn : l.most = some n) (hn2 : n ≤ sizeLine) (hdf : d.params.defaults = []) (hr : Room k callerA)
    (hY : ∀ (w : World) (h : Heap), YP w h → (K w.params).In h)
    (F : ∀ (w : World) (mg : Str → Option Value) (fa : Addr) (h : Heap), (K w.params).In h → h.Ns mainGlobals mg → mg d.name = some (.ref fa) →
      (∀ (y : Str) (fy : Addr), ((recsOf q).any fun e => e.name == y) = true → mg y = some (.ref fy) → OwnTab (K w.params) fy h) → LawT l w (K w.params) (CX w) k n x mg fa h)
    (hCX : ∀ (w : World) (H : Hp) (s : Shared) (e : Value) (s' : Shared), CX w [] H s (fun _ _ _ => False) e s' → False) :
    PySem.W.WalkO q loose XP YP l.row.toRowW d [] (fun f vs => PySem.call f vs) := by
  refine Att.attach_callB hn hdf ?_
  intro w s₀ s₁ mg mb fa o pm cd doc a vs ns G Y ho hd hcd hmg hobj hints hlen hbits hg
  have KX := hY w _ Y
  have tabs : ∀ (y : Str) (fy : Addr), ((recsOf q).any fun e => e.name == y) = true → mg y = some (.ref fy) → OwnTab (K w.params) fy s₁.heap := by
    intro y fy hy hm c P o1 fd1 e dd vs1 sl k1 k2 k3 k4 k5
    obtain ⟨dL, hdL, hn1⟩ := List.any_eq_true.mp hy
    obtain ⟨a', o', fd', c', P', h1, h2, h3, h4, h5, h6⟩ := G.T.tab dL hdL
    rw [show dL.name = y from beq_iff_eq.mp hn1, hm] at h1
    cases h1
    have g1 := KX _ _ k1
    rw [g1] at h2
    cases h2
    rw [k2] at h3
    cases h3
    rw [k3] at h4
    cases h4
    obtain ⟨⟨oc, vc, e1, _, e3, e4⟩, hP⟩ := h6
    have g2 := KX _ _ k4
    rw [g2] at e1
    cases e1
    cases e3
    rw [k5] at e4
    cases e4
    exact hP
  obtain ⟨fd, cs, sp, hT, nT, C, hb, hsp, hF⟩ := F w mg fa _ KX G.T.g hmg tabs
  exact law_callT KX G.T.g G.T.b G.T.builtins G.T.nolimit hg hT nT C G.T.bmain hobj hints (Nat.le_trans hlen hn2) hr hF hb
    (fun H hH hS => hsp H a ns hlen hH hS) fun H e s' => hCX w H s₁ e s'
end MV

set_option Elab.async false
set_option linter.all false
set_option maxRecDepth 100000
set_option maxHeartbeats 2000000
/-! MVT: in an except suite: isinstance of the caught error, which keeps a field. -/
namespace MV
open PySem PySem.Spec PyProof.Rows L2

/-- isinstance(e, c), e the exception that the suite holds, of the class D, its dict at d -/
def rIsX (K : PySem.W.Frag) (D a d : Addr) : List V → Hp → VK → Prop := fun xs H Q =>
  ∃ (c : V) (cv : Value) (b : Bool) (fs : List (Str × V)), xs = [.ref a, c] ∧ (∀ u, RelV c u → u = cv) ∧ PySem.W.kitOne K (.ref D) cv = some b ∧ H d = some (.xd fs) ∧ Q (.bl b) H
theorem call_isX {X : Cx} {a D d : Addr} {oe : Obj} {pn : List (Addr × Obj)} (C : ExcC X.K D) (hz : Zc (.ref D) (some d) oe) (hf : ∃ vs, oe.data = .fields vs) :
    CallR (X.suite a ((a, oe) :: pn)) (.builtin "isinstance") (rIsX X.K D a d) := by
  rintro pins s σ H xs us Q I r ⟨c, cv, b, fs, rfl, hcv, e, ed, q⟩
  match r with
  | .cons rx (.cons rt .nil) =>
    cases rx
    have ec := hcv _ rt
    subst ec
    obtain ⟨hget, _⟩ := I.pin (a, oe) (List.mem_append.mpr (.inl List.mem_cons_self))
    obtain ⟨vs, hv⟩ := hf
    have hx : ObjOk X.prog X.w H s.heap d (.xd fs) := I.hok d _ ed
    obtain ⟨mA, hns, hr⟩ := hx
    obtain ⟨od, ho, hl⟩ := lookIn_ns hns
    have J : PySem.W.InstAt s.heap a oe D (some od) := ⟨hget, hz.1, by unfold PySem.W.notCls; rw [hv] <;> rfl, by rw [hz.2]; exact ho⟩
    obtain ⟨cd, hcd, _⟩ := PySem.W.any_some C.hd
    exact PySem.W.kia_one (PySem.W.kitx_exc (by rw [hcd]; rfl) C.hg C.hk C.hs C.ha C.hn C.ht C.hm) I.kIn J e (fun z => nomatch z) fun tk => ⟨.bl b, H, I.kept (t' := tk) fun _ _ z => z, rfl, q⟩

/-- .. where the class and the dict are told by the reading -/
def rIsY (K : PySem.W.Frag) (D a : Addr) (cls : Value) (d : Option Addr) : List V → Hp → VK → Prop := fun xs H Q => ∃ dd, cls = .ref D ∧ d = some dd ∧ rIsX K D a dd xs H Q
theorem call_isY {X : Cx} {a D : Addr} {cls : Value} {d : Option Addr} {oe : Obj} {pn : List (Addr × Obj)} (C : ExcC X.K D) (hz : Zc cls d oe) (hf : ∃ vs, oe.data = .fields vs) :
    CallR (X.suite a ((a, oe) :: pn)) (.builtin "isinstance") (rIsY X.K D a cls d) := by
  rintro pins s σ H xs us Q I r ⟨dd, rfl, rfl, h⟩
  exact call_isX C hz hf pins s σ H xs us Q I r h
end MV

set_option Elab.async false
set_option linter.all false
set_option maxRecDepth 100000
set_option maxHeartbeats 2000000
/-! MVU: defs that let exceptions out. -/
namespace MV
open PySem PySem.Spec PyProof.Rows L2
section
variable {P : Program} {w : World} {K : PySem.W.Frag} {mg : Str → Option Value} {base : Heap} {N : List Str} {qual : Str} {scope : Scope} {f : Addr} {cd : Value} {A : Around} {outer : List Env} {s : Shared} {H : Hp} {E : XK}
theorem takes_cx : Takes (cxOf (L2.CX P w) P w K mg base N qual scope f cd A outer s H E) (fun cls d _ H' => E cls d H') :=
  takes_of rfl rfl rfl rfl
/-- what a callee lets out, the def lets out -/
theorem passX : Passes (L2.CX P w) (cxOf (L2.CX P w) P w K mg base N qual scope f cd A outer s H E) E :=
  passes_call takes_cx fun _ _ _ _ h => h
end
section
variable {X : Cx} {W : WX} {E : XK}
/-- .. within the body of a try -/
theorem passT (tk : Takes X W) (h : ∀ cls d σ H, E cls d H → W cls d σ H) : Passes (L2.CX X.prog X.w) X E := passes_call tk h
end

/-- what is taken is taken of frames with all their slots -/
theorem takes_len {X : Cx} {W : WX} (tk : Takes X W) : Takes X (fun cls d σ H => σ.length = X.N.length → W cls d σ H) :=
  fun u s' ⟨a, B, sI, pins, σ, H, cls, d, e, I, nb, up, sky, na, os, ag, w⟩ => tk u s' ⟨a, B, sI, pins, σ, H, cls, d, e, I, nb, up, sky, na, os, ag, w I.len⟩

/-- try: a() / except C as e: .. / rest: what it makes of the lambda's reading -/
def TTas (K : PySem.W.Frag) (Ng : List Str) (i : Nat) (l : List Cl) (tr : TS) : (XK → Hp → VK → Prop) → Hp → VK → Prop := fun tl H Q => ∀ f : Addr,
  tl (fun cls d H' => ∀ σ' : L2.St, σ'.length = Ng.length → wAsN K i (fun _ _ _ _ => False) { nx := tr { nx := fun _ H' => Q .non H', rt := Q }, rt := Q } l cls d σ' H') H
    (fun _ H' => tr { nx := fun _ H' => Q .non H', rt := Q } (L2.start Ng [.ref f]) H')
theorem gives_as {X : Cx} {Ng : List Str} {x a n q : Str} {sg : Scope} {g : Addr} {cdg : Value} {i : Nat} {l : List Cl} {tr : TS} {h₀ : ExceptHandler} {hds : List ExceptHandler} {rest : List Stmt} {p1 p2 p3 p4 : Pos}
    (nd : Ng.Nodup) (hi : Ng[i]? = some n) (hln : sg.names.lookup n = some .local) (h0 : ∀ f : Addr, (L2.start Ng [V.ref f])[0]? = some (some (V.ref f)))
    (hh : ∀ (s : Shared) (H : Hp), HdsAs (cxOf C8.CX0 X.prog X.w X.K X.mg X.base Ng x sg g cdg X.A X.stack s H C8.E0).nox n (h₀ :: hds) l)
    (hr : ∀ (s : Shared) (H : Hp), PSs (cxOf C8.CX0 X.prog X.w X.K X.mg X.base Ng x sg g cdg X.A X.stack s H C8.E0).nox rest tr) :
    LamX.GivesTo X Ng x sg g cdg (.Try [.Expr (.Call (.Name a p1) [] [] p2) p3] (h₀ :: hds) [] [] p4 :: rest) a q (TTas X.K Ng i l tr) := by
  intro f c' s H Q tl act hc h
  refine ⟨_, pss_cons (ps_try_asN (X := (cxOf C8.CX0 X.prog X.w X.K X.mg X.base Ng x sg g cdg X.A X.stack s H C8.E0).nox) (n := n) (i := i) (l := l)
      (tb := fun W D σ H => ∃ Ech : XK, (∀ cls d σ' H', Ech cls d H' → σ'.length = Ng.length → W cls d σ' H') ∧ σ[0]? = some (some (.ref f)) ∧ H c' = some (LamX.CodeO c' q) ∧ tl Ech H (fun _ H' => D.nx σ H'))
      rfl rfl nd hi hln takes_none5 (fun W pn xe tk _ => ?_) (hh s H)) (hr s H), ?_⟩
  · refine ⟨fun pins s' σ H' D I h' => ?_⟩
    obtain ⟨Ech, hW, h1, h2, h3⟩ := h'
    have hp := act _ pn xe Ech p1 p2 (takes_len tk) (fun cls d σ' H' e => hW cls d σ' H' e)
    exact (pss_one (ps_expr (pos := p3) hp)).run pins s' σ H' D I ⟨h1, h2, h3⟩
  · exact ⟨fun cls d H' => ∀ σ' : L2.St, σ'.length = Ng.length → wAsN X.K i (fun _ _ _ _ => False) { nx := tr { nx := fun _ H' => Q .non H', rt := Q }, rt := Q } l cls d σ' H', fun cls d σ' H' e hl => e σ' hl, h0 f, hc, h f⟩
end MV

set_option Elab.async false
set_option linter.all false
set_option maxRecDepth 100000
set_option maxHeartbeats 2000000
/-! MVV: a def whose code object is known (its lambdas lie in that one's table). -/
namespace MV
open PySem PySem.Spec PyProof.Rows L2
section
variable {P : Program} {w : World} {K : PySem.W.Frag} {mg : Str → Option Value} {base : Heap} {CX : CXT} {k : Nat} {f : Addr} {fd : FuncData} {ps : List Str} {sp : Sp}
/-- as Fun, the code object at c -/
structure FunC (K : PySem.W.Frag) (x qual : Str) (st : Stmt) (f : Addr) (fd : FuncData) (c : Addr) : Prop where
  ex : ∃ (oc : Value) (od : Option Addr) (kV doc pm : Value) (an : Option Addr) (ct : Value) (osl : Array (Option Value)),
    fd = PySem.W.fnOf x qual (defArgs st) (defBody st) (defScope st) .none kV doc pm an (.ref c) ct ∧ K.lookup f = some ⟨oc, od, .func fd, osl⟩ ∧ PySem.W.codeIn K (.ref c) qual = true
theorem FunC.g {x qual : Str} {st : Stmt} {N : List Str} {c : Addr} (F : FunC K x qual st f fd c) (S : FnScope N ps (defScope st))
    (ln : ∀ vs H Q E, sp vs H Q E → vs.length = ps.length)
    (hb : ∀ (A : Around) (outer : List Env) (s : Shared) (H : Hp) (vs : List V) (Q : VK) (E : XK),
      Room k (A.deeper (envOfC qual (defScope st) s.heap.objs.size f (.ref c))) →
      (A.deeper (envOfC qual (defScope st) s.heap.objs.size f (.ref c))).guards = some [] → sp vs H Q E →
      ∃ t, PSs (cxOf CX P w K mg base N qual (defScope st) f (.ref c) A outer s H E) (defBody st) t ∧
        t { nx := fun _ H' => Q .non H', rt := Q } (start N vs) H) :
    FnG P w K mg base CX (k + 1) f fd ps sp := by
  obtain ⟨oc, od, kV, doc, pm, an, ct, osl, rfl, lk, hcd⟩ := F.ex
  exact fng_of lk hcd S ln hb
theorem code_row {c Pt : Addr} (h : PySem.W.codeHdIn K c Pt = true) : ∃ (e : Value) (dd : Option Addr) (vs : Array Value) (sl : Array (Option Value)), K.lookup c = some ⟨e, dd, .fields vs, sl⟩ ∧ vs[11]? = some (.ref Pt) := by
  unfold PySem.W.codeHdIn at h
  split at h
  · rename_i dd vs n sl e
    simp only [Bool.and_eq_true] at h
    obtain ⟨⟨⟨⟨⟨h1, _⟩, _⟩, _⟩, _⟩, _⟩ := h
    split at h1
    · rename_i P' e2
      rw [beq_iff_eq.mp h1] at e2
      exact ⟨_, _, _, _, e, e2⟩
    · cases h1
  · cases h
theorem own_tab {x qual : Str} {st : Stmt} {c Pt : Addr} {h : Heap} (O : LamX.OwnTab K f h) (F : FunC K x qual st f fd c) (ch : PySem.W.codeHdIn K c Pt = true) : h.get? Pt = some { cls := .none, data := .fields #[] } := by
  obtain ⟨oc, od, kV, doc, pm, an, ct, osl, rfl, lk, hcd⟩ := F.ex
  obtain ⟨e, dd, vs, sl, e1, e2⟩ := code_row ch
  exact O c Pt _ _ e dd vs sl lk rfl rfl e1 e2
/-- what a law's end wants, from the facts of the text: one table -/
theorem lawT_one {l : PySem.W.OpenLaw} {n : Nat} {fa c Pt : Addr} {x qual y : Str} {st : Stmt} {h : Heap} (X : K.In h) (O : LamX.OwnTab K fa h) (F : FunC K x qual st fa fd c) (ch : PySem.W.codeHdIn K c Pt = true) (nP : K.lookup Pt = none)
    (hb : ∀ (s : Shared) (u : Value), BindsTo s fd ⟨[u], []⟩ [(y, u)])
    (hsp : ∀ (H : Hp) (a : Addr) (ns : List Int), ns.length ≤ n → H Pt = some (.tbl #[]) → SqL K H a (ns.map V.int) → sp [.ref a] H (fun v _ => v = .bl true) fun _ _ _ => False)
    (hF : ∀ base : Heap, LamX.TabB base mg c Pt → FnG l.prog w K mg base CX k fa fd [y] sp) : LawT l w K CX k n y mg fa h :=
  ⟨fd, [(c, Pt)], sp, fun p hp => by rw [List.mem_singleton.mp hp]; exact own_tab O F ch, fun p hp => by rw [List.mem_singleton.mp hp]; exact nP,
    fun p hp => by rw [List.mem_singleton.mp hp]; exact PySem.W.codeHd_of_K X ch, hb, fun H a ns hl hH hS => hsp H a ns hl (hH _ List.mem_cons_self) hS,
    fun base _ _ hT => hF base (hT _ List.mem_cons_self)⟩
end
section
variable {X : Cx} {A : Around} {outer : List Env} {s : Shared} {H : Hp} {E : XK} {scope : Scope} {f c' : Addr}
/-- what a lambda's body lets out -/
theorem passLam : Passes (L2.CX X.prog X.w) (LamX.lamCx X A outer s H E scope f c') E :=
  passes_call (W := fun cls d _ H' => E cls d H') (takes_of rfl rfl rfl rfl) fun _ _ _ _ h => h
end
end MV

set_option Elab.async false
set_option linter.all false
set_option maxRecDepth 100000
set_option maxHeartbeats 2000000
/-! MVW: loops and comprehensions over any walk; enumerate over a list or a tuple; a text repeated; C(k = v). -/
namespace PySem
open Sem (wp)
open Builtin Builtin.Str
/-- enumerate of a tuple -/
theorem mv_meets_enumerate_tup (l : Addr) (items : Array Value) (n : Nat) (od : Option Addr) (sl : Array (Option Value)) :
    Meets (Builtin.«enumerate.__new__» ⟨[.type "enumerate", .ref l], []⟩) (fun _ R s => s.heap.get? l = some { cls := .type "tuple", dict := od, data := .seq items n, slots := sl } ∧
      R (.ok (.ret (.ref (s.heap.push { cls := .type "tuple_iterator", data := .fields #[.ref l, .int 0 0] }).objs.size)))
        { s with heap := (s.heap.push { cls := .type "tuple_iterator", data := .fields #[.ref l, .int 0 0] }).push { cls := .type "enumerate", data := .fields #[.none, .bool false, .ref s.heap.objs.size, rawInt 0, .none, .none] } }) :=
  .of_wp fun prog w A R s h => by
    obtain ⟨hp, g, d, tk, os⟩ := s; obtain ⟨hl, h⟩ := h
    have hsub := sub_enumerate
    have hL : Heap.IsTuple (Shared.heap ⟨hp, g, d, tk, os⟩) l items := ⟨_, hl, rfl, n, rfl⟩
    wp_walk using wpAny_loadPart' hl
    refine wpAny_stack_any fun st => wpAny_pure ?_
    split
    · rename_i c _ _ _ _ _
      cases (c == Value.type "enumerate")
      · wp_walk using wpAny_loadPart' hl, wpAny_pyIter_tuple hL
        exact ⟨_, rfl, h⟩
      · wp_walk using wpAny_loadPart' hl, wpAny_pyIter_tuple hL
        exact ⟨_, rfl, h⟩
    · wp_walk using wpAny_loadPart' hl, wpAny_pyIter_tuple hL
      exact ⟨_, rfl, h⟩
section
variable {prog : Program} {w : World} {A : Around} {E : Value → Shared → Prop} {s : Shared}
theorem mv_call_enumerate_tup {l : Addr} {items : Array Value} {Q : Value → Shared → Prop} (hL : s.heap.IsTuple l items)
    (h : ∀ h', IsEnum h' (s.heap.objs.size + 1) s.heap.objs.size 0 .none → h'.IsTupleIter s.heap.objs.size l 0 → h'.objs.size = s.heap.objs.size + 2 →
      (∀ b o, s.heap.get? b = some o → h'.get? b = some o) → Q (.ref (s.heap.objs.size + 1)) { s with heap := h' }) :
    wpAny (model prog w) A (call (.type "enumerate") [.ref l]) Q E s := by
  obtain ⟨⟨c, dct, dt, sl⟩, hl, hc, n, hd⟩ := hL
  replace hc : c = .type "tuple" := hc
  replace hd : dt = .seq items n := hd
  subst hc hd
  refine callType_new F.called_enumerate (by decide) (F.typeCall_enumerate_1 _) (F.newCall_enumerate_1 _) (fun obj => F.args_object_init_2 obj _) F.entry_enumerate_new
    (mv_meets_enumerate_tup l items n dct sl) ⟨hl, ?_⟩
  have hz : (s.heap.push { cls := .type "tuple_iterator", data := .fields #[.ref l, .int 0 0] }).objs.size = s.heap.objs.size + 1 := Heap.size_push ..
  show _ ∧ _
  rw [hz]
  have he : IsEnum ((s.heap.push { cls := .type "tuple_iterator", data := .fields #[.ref l, .int 0 0] }).push
      { cls := .type "enumerate", data := .fields #[.none, .bool false, .ref s.heap.objs.size, rawInt 0, .none, .none] }) (s.heap.objs.size + 1) s.heap.objs.size 0 .none := by
    have := Heap.get?_push_size (s.heap.push { cls := .type "tuple_iterator", data := .fields #[.ref l, .int 0 0] })
      (o := { cls := .type "enumerate", data := .fields #[.none, .bool false, .ref s.heap.objs.size, rawInt 0, .none, .none] }) rfl
    rw [hz] at this; exact this
  refine ⟨⟨_, he, rfl⟩, h _ he ⟨_, Heap.get?_push_of_some _ (Heap.get?_push_size _ rfl), rfl, rfl⟩ (by rw [Heap.size_push, hz]) fun b o x => Heap.get?_push_of_some _ (Heap.get?_push_of_some _ x)⟩
end
end PySem
namespace MV
open PySem PySem.Spec PySem.Calls PyProof.Rows L2
/-! ### enumerate -/
def IteT (K : PySem.W.Frag) (a : Addr) : It :=
  ⟨fun i H => ∃ (xs : List V) (x : V), SqT K H a xs ∧ xs[i]? = some x, fun i H v H' => ∃ T x, v = .ref T ∧ H T = none ∧ H' = upd H T (.tup [.int (i : Nat), x]) ∧ ∀ xs, SqT K H a xs → xs[i]? = some x, fun i H => ∃ xs : List V, SqT K H a xs ∧ xs.length ≤ i⟩
theorem turn_enumT {P : Program} {w : World} {K : PySem.W.Frag} {elts : List Expr} {kk : Nat} {tpos : Pos} (a e it : Addr) :
    Turn P w K (.Tuple elts kk tpos) (IteT K a) [e, it] e (fun i h => (∃ old, IsEnum h e it ((i : Nat) : Int) old) ∧ h.IsTupleIter it a i ∧ e ≠ it) where
  mem := by simp
  obj := fun i h st b hb => by
    obtain ⟨⟨old, he⟩, ⟨o, ho, hc, hd⟩, _⟩ := st
    have e' : b = e ∨ b = it := by simpa using hb
    rcases e' with z | z
    · rw [z]; exact ⟨_, he, fun v q => nomatch q⟩
    · rw [z]; exact ⟨o, ho, fun v q => by rw [hd] at q; cases q⟩
  keep := fun i h h' st k => let ⟨⟨old, he⟩, hi, hne⟩ := st; ⟨⟨old, k e (by simp) _ he⟩, hi.at fun o q => k it (by simp) o q, hne⟩
  item := by
    intro X hP hw hK hc i pins s σ H E I hf st hg
    subst hP hw hK
    obtain ⟨⟨old, he⟩, hit, hne⟩ := st
    obtain ⟨xs, x, hq, hx⟩ := hg
    obtain ⟨its, rv, p, hz⟩ := I.tuple hq
    have pT : s.heap.IsTuple a its.toArray := p
    obtain ⟨u, hu, ru⟩ := rv.get hx
    have hel : e < s.heap.objs.size := Heap.lt_size he
    have hil : it < s.heap.objs.size := by obtain ⟨_, q, _⟩ := hit; exact Heap.lt_size q
    have hai : a ≠ it := by
      obtain ⟨o, e1, c1, _⟩ := pT
      obtain ⟨o', e2, c2, _⟩ := hit
      rintro rfl
      rw [e1] at e2
      cases e2
      rw [c1] at c2
      exact absurd (Value.type.inj c2) (by decide)
    have hea : e ≠ a := by
      obtain ⟨o, e1, c1, _⟩ := pT
      rintro rfl
      have he' := he
      unfold IsEnum at he'
      rw [e1] at he'
      cases he'
      exact absurd (Value.type.inj c1) (by decide)
    have hin : i < its.toArray.size := by
      have := (List.getElem?_eq_some_iff.mp hu).1
      simpa using this
    refine wpAny_pyNext_enum_itemD (Draws.tuple (A := X.A.in1) (I.ok.hd hc) it a hai its.toArray) he ⟨hit, pT⟩ hin hne (by simp [hne, hea]) fun v h' tk hv ho hst hT hsz hk => ?_
    have ev : v = u := by
      have e1 : its[i]? = some v := by simpa using hv
      rw [hu] at e1
      exact (Option.some.inj e1).symm
    subst ev
    obtain ⟨hit', _⟩ := hst
    refine ⟨_, rfl, wpAny_letOwnedTupleGo_enum (s := { s with heap := h', toks := tk + 1 }) ho fun h'' he' sb => ?_⟩
    have hT2 : h''.get? s.heap.objs.size = some { cls := .type "tuple", data := .seq #[.int i tk, v] } := (sb.2 _ (Nat.ne_of_gt hel)).trans hT
    have new : ObjOk X.prog X.w (upd H s.heap.objs.size (.tup [.int (i : Nat), x])) h'' s.heap.objs.size (.tup [.int (i : Nat), x]) :=
      ⟨by show 2 ≤ sizeLine; decide, [.int i tk, v], .cons ⟨_, rfl⟩ (.cons ru .nil), ⟨_, hT2, rfl, _, rfl⟩⟩
    have I1 : Inv X pins σ (upd H s.heap.objs.size (.tup [.int (i : Nat), x])) { s with heap := h'', toks := tk + 1 } :=
      I.turnedNew (ch := [e, it]) (fun b ob hb q => (sb.2 b (fun z => hb (by simp [z]))).trans (hk b ob (fun z => hb (by simp [z])) (fun z => hb (by simp [z])) q)) hf (Nat.le_refl _) new
    refine ⟨.ref s.heap.objs.size, _, I1, rfl, ⟨_, x, rfl, I.hok.fresh (Nat.le_refl _), rfl, fun ys hy => by rw [I.tuple_inj hy hq]; exact hx⟩, ⟨⟨v, ?_⟩, hit'.at fun o q => (sb.2 it (Ne.symm hne)).trans q, hne⟩, fun b hb => ?_⟩
    · have e1 : ((i + 1 : Nat) : Int) = (i : Int) + 1 := by omega
      rw [e1]; exact he'
    · have hb' : b < s.heap.objs.size := by
        have e' : b = e ∨ b = it := by simpa using hb
        rcases e' with z | z
        · rw [z]; exact hel
        · rw [z]; exact hil
      rw [upd_ne (Nat.ne_of_lt hb')]
      exact (hf b hb).1
  done := by
    intro X hP hw hK hc i pins s σ H E I hf st hg
    subst hP hw hK
    obtain ⟨⟨old, he⟩, hit, hne⟩ := st
    obtain ⟨xs, hq, hx⟩ := hg
    obtain ⟨its, rv, p, hz⟩ := I.tuple hq
    have pT : s.heap.IsTuple a its.toArray := p
    obtain ⟨f0, f1, f2, f3, f4, f5⟩ := hf it (by simp)
    have hl := rv.length
    have hai : a ≠ it := by
      obtain ⟨o, e1, c1, _⟩ := pT
      obtain ⟨o', e2, c2, _⟩ := hit
      rintro rfl
      rw [e1] at e2
      cases e2
      rw [c1] at c2
      exact absurd (Value.type.inj c2) (by decide)
    have hnone : its.toArray[i]? = none := by
      have : its[i]? = none := List.getElem?_eq_none_iff.mpr (by omega)
      simpa using this
    have hT : s.TypeIs (.ref e) "enumerate" := ⟨_, he, rfl⟩
    unfold pyNext
    refine wpAny_bind (wpAny_attempt (wpAny_callSpecial?_slot (name := Str.ofString "__next__") hT F.slot_enumerate_next
      (wpAny_call_entry F.slot_enumerate_next hT F.entry_enumerate_next ?_ (F.args_enumerate_next_1 _))))
    show wpAny _ _ (field (.ref e) 2 >>= _) _ _ _
    refine wpAny_bind (wpAny_field he rfl (x := .ref it) rfl ?_)
    refine wpAny_bind (wpAny_nextOf_tuple_end (A := X.A.in1) (I.ok.hd hc) hit pT hnone fun h' x eb hx' => ?_)
    obtain ⟨o, ho, hc'⟩ := hx'
    refine wpAny_bind (wpAny_isInstance (T := "StopIteration") (b := true) ⟨o, ho, hc'⟩ isSubtype_stop ?_)
    exact wpAny_pure ⟨rfl, I.turned (t' := s.toks) (fun b o hb q => eb b o hb q) f0 f1 f3 f4 f5⟩
  self := fun A i s Q E st h => let ⟨⟨_, he⟩, _⟩ := st; wpAny_pyIter_enum he h
/-- enumerate(x), x a list or a tuple -/
def iEnumA (K : PySem.W.Frag) (ta : TA) : TI := fun σ H R => ta σ H fun vs H1 => ∃ a xs, vs = [.ref a] ∧ ((SqL K H1 a xs ∧ R (Ite K a) H1) ∨ (SqT K H1 a xs ∧ R (IteT K a) H1))
theorem pi_enumA {X : Cx} {e : Expr} {ta : TA} {p pos tpos : Pos} {elts : List Expr} {kk : Nat} (hg : Gl X "enumerate") (hm : X.mg "enumerate" = none) (ha : PA X [e] ta) (hs : starEach [e] X.env = [(false, eval e X.env)] := by rfl) :
    PI X (.Tuple elts kk tpos) (.Call (.Name "enumerate" p) [e] [] pos) (iEnumA X.K ta) := by
  refine ⟨fun pins s σ H R I h => ?_⟩
  refine Call_ (ld_blt I hg hm boot_enumerate (PyProof.Rows.callWith_type1 (thn (ha.run pos pins s σ H _ I h) fun us s1 ⟨vs, H1, I1, r1, q1⟩ => ?_) hs rfl))
  obtain ⟨a, xs, ex, q⟩ := q1
  subst ex
  cases r1 with
  | cons r rr =>
    cases rr
    cases r
    have fp : ∀ b ∈ [s1.heap.objs.size + 1, s1.heap.objs.size], s1.heap.objs.size ≤ b := fun b hb => by
      have e' : b = s1.heap.objs.size + 1 ∨ b = s1.heap.objs.size := by simpa using hb
      rcases e' with z | z
      · rw [z]; exact Nat.le_add_right _ _
      · rw [z]; exact Nat.le_refl _
    rcases q with ⟨hq, q⟩ | ⟨hq, q⟩
    · obtain ⟨its, rv, p', hz⟩ := I1.list hq
      refine call_enumerate_list p'.isList fun h' he hit hsz hk => wpAny_pyIter_enum he ?_
      have I2 : Inv X pins σ H1 { s1 with heap := h' } := I1.kept (t' := s1.toks) hk
      exact ⟨s1.heap.objs.size + 1, [s1.heap.objs.size + 1, s1.heap.objs.size], _, _, H1, rfl, I2, turn_enum a (s1.heap.objs.size + 1) s1.heap.objs.size, ⟨⟨.none, he⟩, hit, Nat.succ_ne_self _⟩, fun b hb => I1.fpOk (fp b hb) (I1.hok.fresh (fp b hb)), q⟩
    · obtain ⟨its, rv, p', hz⟩ := I1.tuple hq
      have pT : s1.heap.IsTuple a its.toArray := p'
      refine mv_call_enumerate_tup pT fun h' he hit hsz hk => wpAny_pyIter_enum he ?_
      have I2 : Inv X pins σ H1 { s1 with heap := h' } := I1.kept (t' := s1.toks) hk
      exact ⟨s1.heap.objs.size + 1, [s1.heap.objs.size + 1, s1.heap.objs.size], _, _, H1, rfl, I2, turn_enumT a (s1.heap.objs.size + 1) s1.heap.objs.size, ⟨⟨.none, he⟩, hit, Nat.succ_ne_self _⟩, fun b hb => I1.fpOk (fp b hb) (I1.hok.fresh (fp b hb)), q⟩
theorem walk_enumT {K : PySem.W.Frag} {a : Addr} {xs : List V} : Walk (IteT K a) xs.length (fun H => SqT K H a xs) (YPair (fun i => some (.int (i : Nat))) (fun i => xs[i]?)) := by
  refine ⟨fun i _ hi q => ⟨xs, xs[i], q, by simp [hi]⟩, fun _ q => ⟨xs, q, Nat.le_refl _⟩, fun i H v H' _ q y => ?_⟩
  obtain ⟨T, x, h1, h2, h3, h4⟩ := y
  exact ⟨T, .int (i : Nat), x, h1, h2, h3, rfl, h4 xs q⟩
end MV

set_option Elab.async false
set_option linter.all false
set_option maxRecDepth 100000
set_option maxHeartbeats 2000000
/-! MVX: loops and comprehensions over any walk as readings; a text repeated; C(k = v); try .. except one class. -/
namespace MV
open PySem PySem.Spec PySem.Calls PyProof.Rows L2 TL
/-! ### loops, comprehensions -/
section
variable {K : PySem.W.Frag} {σ : L2.St} {H H1 : Hp} {tl te : TE} {ta : TA} {g : TG} {tb : TS} {D : Ends} {Q : VK} {tt : TT} {vs : List Nat} {J : It} {n : Nat} {G : Hp → Prop} {Y : Nat → Hp → V → Hp → Prop} {R : It → Hp → Prop} {a : Addr} {xs : List V} {x : V}
def ForJ (g : TG) (tb : TS) (D : Ends) (σ : L2.St) (J : It) (H : Hp) : Prop := ∃ W : Nat → Nat → L2.St → Hp → Prop, (∃ m, W 0 m σ H) ∧ ∀ i m σ H, W i m σ H →
  (J.stop i H ∧ D.nx σ H) ∨ (J.go i H ∧ ∃ N : L2.St → Hp → Prop, (∀ σ' H', N σ' H' → ∃ m', m' < m ∧ W (i + 1) m' σ' H') ∧ ∀ x H', J.yld i H x H' → g x σ H' fun σ2 H2 => tb { D with nx := N, ct := N, bk := D.nx } σ2 H2)
theorem r_for {wi : TI} (q : wi σ H (ForJ g tb D σ)) : tFor wi g tb D σ H := q
theorem ForJ.ok (w : Walk J n G Y) (Pv : Nat → L2.St → Hp → Prop) (h0 : Pv 0 σ H) (hG : ∀ i σ H, i ≤ n → Pv i σ H → G H)
    (hs : ∀ i x σ H H', i < n → Pv i σ H → Y i H x H' → g x σ H' fun σ2 H2 => tb { D with nx := Pv (i + 1), ct := Pv (i + 1), bk := D.nx } σ2 H2) (hd : ∀ σ H, Pv n σ H → D.nx σ H) : ForJ g tb D σ J H :=
  for_it w Pv h0 hG hs hd
def LcJ (g : TG) (tt : TT) (te : TE) (vs : List Nat) (σ : L2.St) (Q : VK) (J : It) (H1 : Hp) : Prop := ∀ D, H1 D = none → ∃ W : Nat → Nat → Hp → Prop, (∃ m, W 0 m (upd H1 D (.lst []))) ∧ ∀ i m H, W i m H →
  (J.stop i H ∧ Q (.ref D) H) ∨ (J.go i H ∧ ∃ Nx : Hp → Prop, (∀ H', Nx H' → ∃ m', m' < m ∧ W (i + 1) m' H') ∧ ∀ x H', J.yld i H x H' → g x (wipe σ vs) H' fun σ2 H2 => wipe σ2 vs = wipe σ vs ∧ tt σ2 H2 fun b H3 =>
    if b = true then te σ2 H3 fun y H4 => ∃ acc, H4 D = some (.lst acc) ∧ acc.length < sizeLine ∧ Nx (upd H4 D (.lst (acc ++ [y]))) else Nx H3)
theorem r_lc {wi : TI} (q : wi σ H (LcJ g tt te vs σ Q)) : tLc wi g tt te vs σ H Q := q
theorem LcJ.ok (w : Walk J n G Y) (k : ∀ D, H1 D = none → ∃ Pv : Nat → Hp → Prop, Pv 0 (upd H1 D (.lst [])) ∧ (∀ i H, i ≤ n → Pv i H → G H) ∧
    (∀ i x H H', i < n → Pv i H → Y i H x H' → g x (wipe σ vs) H' fun σ2 H2 => wipe σ2 vs = wipe σ vs ∧ tt σ2 H2 fun b H3 =>
      if b = true then te σ2 H3 fun y H4 => ∃ acc, H4 D = some (.lst acc) ∧ acc.length < sizeLine ∧ Pv (i + 1) (upd H4 D (.lst (acc ++ [y]))) else Pv (i + 1) H3) ∧ ∀ H, Pv n H → Q (.ref D) H) : LcJ g tt te vs σ Q J H1 := by
  intro D hD
  obtain ⟨Pv, h0, hG, hs, hd⟩ := k D hD
  exact lc_it w Pv h0 hG hs hd
/-- what a step leaves, seen from a heap in which D is free -/
theorem Stp.up0 {t : Option Addr} {D : Addr} {o : HO} (hD : H1 D = none) : Stp t H1 (upd H1 D o) := (Stp.refl t H1).put hD
theorem tp_ne {t : Option Addr} {D : Addr} (hD : H1 D = none) (ht : ∀ b, t = some b → H1 b ≠ none) : t = some D → False := fun e => ht D e hD
theorem Stp.at_new {t : Option Addr} {H H' : Hp} {D : Addr} {xs : List V} (s : Stp t H H') (n : t = some D → False) (h : H D = some (.lst xs)) : H' D = some (.lst xs) :=
  s.ge _ _ (fun e => (n e).elim) h
/-- a comprehension whose items are told by P (i turns, what is kept so far); t: the tape, if its steps draw -/
theorem LcJ.run (t : Option Addr) (ht : ∀ b, t = some b → H1 b ≠ none) (w : Walk J n G Y) (hG : ∀ H', Stp t H1 H' → G H') (hn : n < sizeLine) (P : Nat → List V → Hp → Prop) (p0 : P 0 [] H1)
    (pl : ∀ i acc H, P i acc H → acc.length ≤ i)
    (pm : ∀ i acc H H' (D : Addr), H1 D = none → P i acc H → (∀ b o, b ≠ D → H b = some o → H' b = some o) → P i acc H')
    (hs : ∀ i x H H' acc, i < n → Stp t H1 H → P i acc H → Y i H x H' → ∀ (Y1 : VK) (N1 : Hp → Prop), (∀ y H4, Stp t H H4 → P (i + 1) (acc ++ [y]) H4 → Y1 y H4) → (∀ H3, Stp t H H3 → P (i + 1) acc H3 → N1 H3) →
      g x (wipe σ vs) H' fun σ2 H2 => wipe σ2 vs = wipe σ vs ∧ tt σ2 H2 fun b H3 => if b = true then te σ2 H3 Y1 else N1 H3)
    (hd : ∀ p H2 acc, Stp t H1 H2 → H2 p = some (.lst acc) → H1 p = none → P n acc H2 → Q (.ref p) H2) : LcJ g tt te vs σ Q J H1 := by
  refine LcJ.ok w fun D hD => ⟨fun i H => Stp t H1 H ∧ ∃ acc, H D = some (.lst acc) ∧ P i acc H, ⟨Stp.up0 hD, [], upd_same, pm _ _ _ _ D hD p0 fun b o hb e => by rw [upd_ne hb]; exact e⟩, fun i H _ pv => hG H pv.1, fun i x H H' hi pv y => ?_, fun H pv => ?_⟩
  · obtain ⟨s, acc, ha, p⟩ := pv
    refine hs i x H H' acc hi s p y _ _ (fun v H4 s4 p4 => ?_) (fun H3 s3 p3 => ⟨s.trans s3, acc, s3.at_new (tp_ne hD ht) ha, p3⟩)
    have hl := pl _ _ _ p
    refine ⟨acc, s4.at_new (tp_ne hD ht) ha, by omega, (s.trans s4).put hD, _, upd_same, pm _ _ _ _ D hD p4 fun b o hb e => by rw [upd_ne hb]; exact e⟩
  · obtain ⟨s, acc, ha, p⟩ := pv
    exact hd D H acc s ha hD p
/-- .. the values themselves are told: those with keep, each f of its turn -/
theorem LcJ.flat (w : Walk J n G Y) (hG : ∀ H', Stp none H1 H' → G H') (hn : n < sizeLine) (keep : Nat → Bool) (f : Nat → V)
    (hs : ∀ i x H H', i < n → Stp none H1 H → Y i H x H' → ∀ (Y1 : VK) (N1 : Hp → Prop), (keep i = true → ∀ H4, Stp none H H4 → Y1 (f i) H4) → (keep i = false → ∀ H3, Stp none H H3 → N1 H3) →
      g x (wipe σ vs) H' fun σ2 H2 => wipe σ2 vs = wipe σ vs ∧ tt σ2 H2 fun b H3 => if b = true then te σ2 H3 Y1 else N1 H3)
    (hd : ∀ p H2, Stp none H1 H2 → H2 p = some (.lst (((List.range n).filter keep).map f)) → H1 p = none → Q (.ref p) H2) : LcJ g tt te vs σ Q J H1 := by
  refine LcJ.run none (fun _ e => nomatch e) w hG hn (fun i acc _ => acc = ((List.range i).filter keep).map f) rfl (fun i acc _ e => ?_) (fun _ _ _ _ _ _ e _ => e) (fun i x H H' acc hi s e y Y1 N1 h1 h2 => ?_) (fun p H2 acc s h np e => ?_)
  · subst e
    rw [List.length_map]
    exact Nat.le_trans (List.length_filter_le _ _) (by rw [List.length_range]; exact Nat.le_refl _)
  · subst e
    refine hs i x H H' hi s y Y1 N1 (fun k H4 s4 => h1 _ H4 s4 ?_) (fun k H3 s3 => h2 H3 s3 ?_)
    · rw [List.range_succ, List.filter_append, List.map_append, List.filter_cons, if_pos k]; rfl
    · rw [List.range_succ, List.filter_append, List.map_append, List.filter_cons, if_neg (by rw [k]; decide)]; simp
  · subst e
    exact hd p H2 s h np
end
theorem SqL.mvN {K : PySem.W.Frag} {H H' : Hp} {a : Addr} {xs : List V} (s : Stp none H H') (h : SqL K H a xs) : SqL K H' a xs := by
  rcases h with (h | ⟨o, h⟩) | h
  · exact .inl (.inl (s.all _ _ h))
  · exact .inl (.inr ⟨o, s.all _ _ h⟩)
  · exact .inr h
section
variable {K : PySem.W.Frag} {σ : L2.St} {H : Hp} {ta : TA} {te : TE} {R : It → Hp → Prop} {a : Addr} {xs : List V} {x : V} {i j : Int}
/-- what is walked is a list, a tuple: already read -/
def ItL (K : PySem.W.Frag) (x : V) (H1 : Hp) (R : It → Hp → Prop) : Prop := ∃ a, x = .ref a ∧ (∃ xs, SqL K H1 a xs) ∧ R (Itl K a) H1
def ItT (K : PySem.W.Frag) (x : V) (H1 : Hp) (R : It → Hp → Prop) : Prop := ∃ a, x = .ref a ∧ (∃ xs, SqT K H1 a xs) ∧ R (Itt K a) H1
theorem r_iList (q : te σ H fun x H1 => ItL K x H1 R) : iList K te σ H R := q
theorem r_iTup (q : te σ H fun x H1 => ItT K x H1 R) : iTup K te σ H R := q
theorem it_l (h : SqL K H a xs) (q : R (Itl K a) H) : ItL K (.ref a) H R := ⟨a, rfl, ⟨xs, h⟩, q⟩
theorem it_t (h : SqT K H a xs) (q : R (Itt K a) H) : ItT K (.ref a) H R := ⟨a, rfl, ⟨xs, h⟩, q⟩
def ItS (x : V) (H1 : Hp) (R : It → Hp → Prop) : Prop := ∃ z, x = .str z ∧ R (Its z) H1
theorem r_iStr (q : te σ H fun x H1 => ItS x H1 R) : iStr te σ H R := q
theorem it_s {z : Str} (q : R (Its z) H) : ItS (.str z) H R := ⟨z, rfl, q⟩
def ItR1 (vs : List V) (H1 : Hp) (R : It → Hp → Prop) : Prop := ∃ j : Int, vs = [.int j] ∧ -(2 ^ 62) ≤ j ∧ j < 2 ^ 62 ∧ R (Itr 0 j.toNat) H1
theorem r_iRng1 (q : ta σ H fun vs H1 => ItR1 vs H1 R) : iRng1 ta σ H R := q
theorem it_r1 (h0 : 0 ≤ j) (h1 : j ≤ 1000000) (q : R (Itr 0 j.toNat) H) : ItR1 [.int j] H R := ⟨j, rfl, by omega, by omega, q⟩
def ItR2 (vs : List V) (H1 : Hp) (R : It → Hp → Prop) : Prop := ∃ i j : Int, vs = [.int i, .int j] ∧ (-(2 ^ 62) ≤ i ∧ i < 2 ^ 62 ∧ -(2 ^ 62) ≤ j ∧ j < 2 ^ 62) ∧ R (Itr i (j - i).toNat) H1
theorem r_iRng2 (q : ta σ H fun vs H1 => ItR2 vs H1 R) : iRng2 ta σ H R := q
theorem it_r2 (h0 : -(2 ^ 62) ≤ i) (h1 : i < 2 ^ 62) (h2 : -(2 ^ 62) ≤ j) (h3 : j < 2 ^ 62) (q : R (Itr i (j - i).toNat) H) : ItR2 [.int i, .int j] H R := ⟨i, j, rfl, ⟨h0, h1, h2, h3⟩, q⟩
def ItE (K : PySem.W.Frag) (vs : List V) (H1 : Hp) (R : It → Hp → Prop) : Prop := ∃ a xs, vs = [.ref a] ∧ ((SqL K H1 a xs ∧ R (Ite K a) H1) ∨ (SqT K H1 a xs ∧ R (IteT K a) H1))
theorem r_iEnumA (q : ta σ H fun vs H1 => ItE K vs H1 R) : iEnumA K ta σ H R := q
/-- enumerate is walked, over a list or over a tuple -/
theorem it_e (hx : SqL K H a xs ∨ SqT K H a xs) (q : ∀ (J : It) (G : Hp → Prop), Walk J xs.length G (YPair (fun i => some (.int (i : Nat))) (fun i => xs[i]?)) → (∀ H', Stp none H H' → G H') → R J H) : ItE K [.ref a] H R := by
  rcases hx with h | h
  · exact ⟨a, xs, rfl, .inl ⟨h, q _ _ walk_enum fun H' s => SqL.mvN s h⟩⟩
  · exact ⟨a, xs, rfl, .inr ⟨h, q _ _ walk_enumT fun H' s => SqT.mvS s h⟩⟩
end
/-! ### texts added -/
def rAddS : R2 := fun x y H Q => ∃ i j, x = .str i ∧ y = .str j ∧ i.length + j.length ≤ sizeLine ∧ Q (.str (i ++ j)) H
theorem op_addS {X : Cx} : OpR X (binaryOp .Add) rAddS := op_add_str
theorem r_addS {s z : Str} {H : Hp} {Q : VK} (h : s.length + z.length ≤ 100000) (q : Q (.str (s ++ z)) H) : rAddS (.str s) (.str z) H Q := ⟨s, z, rfl, rfl, Nat.le_trans h (by decide), q⟩
/-! ### a text repeated -/
/-- z * k -/
def repS (z : Str) (k : Int) : Str := if k < 1 then Str.empty else if (k == 1 || z.length == 0) = true then z else ⟨(List.replicate k.toNat z.cps).foldl (· ++ ·) #[]⟩
theorem cat_fold (l : List (Array Nat)) : ∀ a : Array Nat, (l.foldl (· ++ ·) a).toList = a.toList ++ (l.map Array.toList).flatten := by
  induction l with
  | nil => intro a; simp
  | cons b r ih => intro a; rw [List.foldl_cons, ih]; simp
theorem tl_repS (z : Str) {k : Int} : tl (repS z k) = (List.replicate k.toNat (tl z)).flatten := by
  unfold repS
  split
  · rename_i c
    have e : k.toNat = 0 := by omega
    rw [e]; rfl
  · rename_i c
    split
    · rename_i c2
      simp only [Bool.or_eq_true, beq_iff_eq] at c2
      rcases c2 with c2 | c2
      · subst c2
        show tl z = [tl z].flatten
        simp
      · have e : tl z = [] := (len0_tl z).mp c2
        rw [e]
        simp
    · show (List.foldl (· ++ ·) (#[] : Array Nat) (List.replicate k.toNat z.cps)).toList = _
      rw [cat_fold, List.map_replicate]
      rfl
theorem len_repS (z : Str) {k : Int} : (repS z k).length = k.toNat * z.length := by
  rw [len_tl, tl_repS, len_tl]
  simp
def rMulS : R2 := fun x y H Q => ∃ z k, x = .str z ∧ y = .int k ∧ k ≤ 1000 ∧ -1000 ≤ k ∧ z.length ≤ 1000 ∧ Q (.str (repS z k)) H
theorem op_mulS {X : Cx} : OpR X (binaryOp .Mult) rMulS := by
  intro pins s σ H x y v u Q I rx ry h
  obtain ⟨z, k, rfl, rfl, h1, h0, h2, q⟩ := h
  obtain ⟨t, rfl⟩ := rx
  obtain ⟨t2, rfl⟩ := ry
  have hk : k.toNat ≤ 1000 := by omega
  have hm : z.length * k.toNat ≤ 1000 * 1000 := Nat.mul_le_mul h2 hk
  refine P.mul_str ?_ (fun _ _ => ?_) (fun _ _ => ?_) ?_
  · rw [decide_eq_false (by omega), decide_eq_false (by omega)]; rfl
  · have : (1000 : Int) ≤ (2 ^ 63 - 1) / k := by
      rw [Int.le_ediv_iff_mul_le (by omega)]
      omega
    omega
  · exact decide_eq_false (by rw [show sizeLine = sizeLine from rfl]; exact Nat.not_lt.mpr (Nat.le_trans hm (by decide)))
  · unfold repS at q
    split
    · rename_i c
      rw [if_pos c] at q
      exact ⟨by decide, V.str Str.empty, H, I.tok _, ⟨_, rfl⟩, q⟩
    · rename_i c
      rw [if_neg c] at q
      split
      · rename_i c2
        rw [if_pos c2] at q
        exact ⟨V.str z, H, I, ⟨_, rfl⟩, q⟩
      · rename_i c2
        rw [if_neg c2] at q
        refine ⟨?_, V.str _, H, I.tok _, ⟨_, rfl⟩, q⟩
        have e := len_repS z (k := k)
        unfold repS at e
        rw [if_neg c, if_neg c2] at e
        rw [e, Nat.mul_comm]
        exact Nat.le_trans hm (by decide)
/-- a name of the module, by its value -/
theorem peg_gc {X : Cx} {x : Str} {pos : Pos} {v : V} (hg : Gl X x) (h : ∃ u, X.mg x = some u ∧ RelV v u) (hd : (x == ("__debug__" : Str)) = false := by decide) : PE X (.Name x pos) (tC v) := by
  obtain ⟨u, hm, r⟩ := h
  exact pe_glob hg hm r hd
/-! ### C(k = v) -/
section
variable {X : Cx} {CX : CXT} {k n : Nat} {f C : Addr} {fd : FuncData} {ps ks : List Str} {sp : Sp} {E : XK} {x : Str} {p pos : Pos} {e : Expr} {es : List Expr} {kws : List Keyword} {t tk : TA} {g : List Value → List Value → List Value} {gV : List V → List V → List V}
theorem runGK {A : Around} {pins : List (Addr × Obj)} {σ : L2.St} {H : Hp} {s : Shared} {Q : VK} {args : Args} {us : List Value} {vs : List V}
    (F : FnG X.prog X.w X.K X.mg X.base CX k f fd ps sp) (hr : Room k A) (hg : A.guards = some [])
    (e0 : Env0 X.prog X.w X.K X.mg X.base A X.stack s H) (hb : BindsTo s fd args (ps.zip us)) (hx : Passes CX X E)
    (I : Inv X pins σ H s) (r : Vals vs us) (h : sp vs H Q E) :
    codeAny (model X.prog X.w) A (.call (.ref f) args) (Back X pins σ Q) s :=
  codeAny_mono (F.go A X.stack s H args us vs Q E hr hg e0 hb r h) fun r s' hq => ended hx I hq
theorem makeGK {pins : List (Addr × Obj)} {σ : L2.St} {H : Hp} {s : Shared} {Q : VK} {us ws : List Value} {vs zs : List V} (M : Mk X.K C f)
    (F : FnG X.prog X.w X.K X.mg X.base CX k f fd ps sp) (hr : Room (k + 1) X.A) (hg : X.A.guards = some []) (hb : KBn X.K fd ps (n + 1) ks g gV)
    (hx : Passes CX X E) (I : Inv X pins σ H s) (r : Vals vs us) (rz : Vals zs ws) (l1 : vs.length = n) (l2 : zs.length = ks.length)
    (h : ∀ x dx, H x = none → H dx = none → dx ≠ x → sp (gV (.ref x :: vs) zs) (upd (upd H dx (.own x)) x (.ins C dx [])) (fun v H2 => v = .non ∧ Q (.ref x) H2) E) :
    wpAny (model X.prog X.w) X.A (call (.ref C) us (ks.zip ws)) (EP X pins σ Q) X.xe s := by
  have q := h (s.heap.objs.size + 1) s.heap.objs.size (I.hok.fresh (Nat.le_succ _)) (I.hok.fresh (Nat.le_refl _)) (Nat.ne_of_lt (Nat.lt_succ_self _))
  have J := Inv.made (C := C) I
  have r1 : Vals (V.ref (s.heap.objs.size + 1) :: vs) (Value.ref (s.heap.objs.size + 1) :: us) := .cons rfl r
  have n1 : (Value.ref (s.heap.objs.size + 1) :: us).length = n + 1 := by
    rw [List.length_cons, ← r.length, l1]
  have w2 := runGK F (hr.make C us (ks.zip ws)) (guards_make hg C us (ks.zip ws)) (J.env0.make C us (ks.zip ws)) (hb.to _ (Value.ref (s.heap.objs.size + 1) :: us) ws J.kIn n1 (rz.length.symm.trans l2)) hx J (hb.rel r1 rz) q
  refine wpAny_call (make_map (f := f) I.kIn M.makes M.init (beq_iff_eq.mp M.fn) (codeAny_mono w2 ?_))
  rintro (z | (_ | _ | _ | u)) s' hq
  · exact hq
  · exact hq.elim
  · exact hq.elim
  · exact hq.elim
  · obtain ⟨v, H', I3, rv, rfl, q3⟩ := hq
    exact ⟨rv, V.ref (s.heap.objs.size + 1), H', I3, rfl, q3⟩
/-- C(k = v, ..) -/
theorem peg_makeK0 (M : Mk X.K C f) (F : FnG X.prog X.w X.K X.mg X.base CX k f fd ps sp) (hr : Room (k + 1) X.A) (hG : X.A.guards = some []) (hg : Gl X x) (hm : X.mg x = some (.ref C)) (hb : KBn X.K fd ps 1 ks g gV) (hx : Passes CX X E) (hkw : PK X kws tk)
    (hall : (backToKw pos (keywordEach kws X.env)).all (·.1.isSome) = true := by rfl) (hks : (backToKw pos (keywordEach kws X.env)).filterMap (·.1) = ks := by rfl) (hdb : (x == ("__debug__" : Str)) = false := by decide)
    (hpl : ((backTo pos (starEach [] X.env)).any (·.1) || (backToKw pos (keywordEach kws X.env)).any (·.1.isNone)) = false := by rfl) :
    PE X (.Call (.Name x p) [] kws pos) (tMakeK C 0 ks.length sp gV E tNil tk) := by
  refine ⟨fun pins s σ H Q I h => ?_⟩
  refine wpAny_Call_Name_kw (ld_glob I hg hm ?_ hdb)
  refine PySem.W.callWith_KW0 (h₀ := X.base) I.ok.mod.kin M.kp hall ?_ hpl
  refine thn (hkw.run pos pins s σ H _ I h) fun ws s2 ⟨zs, H2, I2, rz, l1, l2, q2⟩ => ⟨I2.kIn, ?_⟩
  rw [hks]
  exact makeGK (us := []) (vs := []) M F hr hG hb hx I2 .nil rz rfl l2 q2
/-- C(e, .., k = v, ..) -/
theorem peg_makeK (M : Mk X.K C f) (F : FnG X.prog X.w X.K X.mg X.base CX k f fd ps sp) (hr : Room (k + 1) X.A) (hG : X.A.guards = some []) (hg : Gl X x) (hm : X.mg x = some (.ref C)) (hb : KBn X.K fd ps (n + 1) ks g gV) (hx : Passes CX X E) (ha : PA X (e :: es) t) (hkw : PK X kws tk)
    (hall : (backToKw pos (keywordEach kws X.env)).all (·.1.isSome) = true := by rfl) (hks : (backToKw pos (keywordEach kws X.env)).filterMap (·.1) = ks := by rfl) (hdb : (x == ("__debug__" : Str)) = false := by decide)
    (he : starEach (e :: es) X.env = (false, eval e X.env) :: starEach es X.env := by rfl) (hpl : ((backTo pos (starEach (e :: es) X.env)).any (·.1) || (backToKw pos (keywordEach kws X.env)).any (·.1.isNone)) = false := by rfl) :
    PE X (.Call (.Name x p) (e :: es) kws pos) (tMakeK C n ks.length sp gV E t tk) := by
  refine ⟨fun pins s σ H Q I h => ?_⟩
  refine wpAny_Call_Name_kw (ld_glob I hg hm ?_ hdb)
  refine PySem.W.callWith_KW (h₀ := X.base) I.ok.mod.kin M.kp hall (thn (ha.run pos pins s σ H _ I h) fun us s1 ⟨vs, H1, I1, r, q⟩ => ?_) hpl he
  refine thn (hkw.run pos pins s1 σ H1 _ I1 q) fun ws s2 ⟨zs, H2, I2, rz, l1, l2, q2⟩ => ⟨I2.kIn, ?_⟩
  rw [hks]
  exact makeGK M F hr hG hb hx I2 r rz l1 l2 q2
/-- C(k = v): one value by its name -/
def MkK (C : Addr) (sp : Sp) (m : Nat) (us zs : List V) (H : Hp) (Q : VK) (E : XK) : Prop := us.length = us.length ∧ zs.length = m ∧ MkR C sp (us ++ zs) H Q E
theorem r_makeK0 {σ : L2.St} {H : Hp} {Q : VK} {m : Nat} (q : tk σ H fun zs H2 => MkK C sp m [] zs H2 Q E) : tMakeK C 0 m sp (fun us ws => us ++ ws) E tNil tk σ H Q := q
theorem r_makeK1 {σ : L2.St} {H : Hp} {Q : VK} {te : TE} {m : Nat} (q : te σ H fun x H1 => tk σ H1 fun zs H2 => MkK C sp m [x] zs H2 Q E) : tMakeK C 1 m sp (fun us ws => us ++ ws) E (tCons te tNil) tk σ H Q := q
theorem mkk1 {H : Hp} {Q : VK} {z : V} {us : List V} (q : MkR C sp (us ++ [z]) H Q E) : MkK C sp 1 us [z] H Q E := ⟨rfl, rfl, q⟩
end
/-! ### more readings -/
section
variable {K : PySem.W.Frag} {σ : L2.St} {H : Hp} {Q : VK} {a : TA} {x v : V}
theorem r_inS {c : Nat} {z : Str} (q : Q (.bl (decide (c ∈ tl z))) H) : rInS (.str ⟨#[c]⟩) (.str z) H Q := ⟨c, z, rfl, rfl, q⟩
theorem r_cbAll (q : a σ H fun vs H1 => rAll K vs H1 Q) : tCB (rAll K) a σ H Q := q
theorem r_all {p : Addr} {bs : List Bool} (h : SqL K H p (bs.map V.bl)) (q : Q (.bl (bs.all id)) H) : rAll K [.ref p] H Q := ⟨p, bs, rfl, h, q⟩
theorem r_cbIsiT (q : a σ H fun vs H1 => rIsiT K vs H1 Q) : tCB (rIsiT K) a σ H Q := q
theorem r_isiT {p : Addr} {cs : List V} {t : Value} {us : List Value} {b : Bool} (h : H p = some (.tup cs)) (pc : Paired ClsV cs us) (ty : TyX K H x t) (e : PySem.W.kitAny K t us = some b) (q : Q (.bl b) H) : rIsiT K [x, .ref p] H Q :=
  ⟨x, p, cs, t, us, b, rfl, h, pc, ty, e, q⟩
def rLenS : List V → Hp → VK → Prop := fun xs H Q => ∃ z, xs = [.str z] ∧ z.length ≤ sizeLine ∧ Q (.int z.length) H
theorem r_cbLenS (q : a σ H fun vs H1 => rLenS vs H1 Q) : tCB (fun xs H Q => ∃ z, xs = [.str z] ∧ z.length ≤ sizeLine ∧ Q (.int z.length) H) a σ H Q := q
theorem r_lenS {z : Str} (h : z.length ≤ 100000) (q : Q (.int z.length) H) : rLenS [.str z] H Q := ⟨z, rfl, Nat.le_trans h (by decide), q⟩
theorem ty_lst {p : Addr} {xs : List V} (h : SqL K H p xs) : TyX K H (.ref p) (.type "list") := by
  rcases h with h | ⟨o, _, _, h1, h2, _⟩
  · rcases h with h | ⟨o, h⟩
    · exact .base (.lst h)
    · exact .base (.frz h)
  · exact .kList h1 h2
theorem joinL_nil : ∀ l : List (List Nat), joinL [] l = l.flatten
  | [] => rfl
  | [p] => by simp [joinL]
  | p :: q :: r => by
    rw [joinL, joinL_nil (q :: r)]
    simp
theorem tl_inj {x y : Str} (h : tl x = tl y) : x = y := ext_tl h
/-- sep.join(a list of texts) -/
def rJoin (K : PySem.W.Frag) : V → List V → Hp → VK → Prop := fun x xs H Q => ∃ a p, ∃ ys : List Str, x = .str a ∧ xs = [.ref p] ∧ (SqL K H p (ys.map V.str) ∨ SqT K H p (ys.map V.str)) ∧ (ys.map (·.length)).sum + ys.length * a.length ≤ 16777216 ∧ Q (.str (Txt.join a ys)) H
theorem mt_joinR {X : Cx} : MtR X "str.join" (rJoin X.K) := mt_join
theorem join_nil (ys : List Str) : tl (Txt.join ("" : Str) ys) = (ys.map tl).flatten := by
  rw [join_eq, tl_join]
  exact joinL_nil _
/-- ''.join of signs -/
theorem r_joinC {p : Addr} {cs : List Nat} (h : H p = some (.lst (cs.map fun c => V.str ⟨#[c]⟩))) (hl : cs.length ≤ 100000) (q : Q (.str ⟨cs.toArray⟩) H) : rJoin K (.str ("" : Str)) [.ref p] H Q := by
  have e : ∀ l : List Nat, (((l.map fun c => (⟨#[c]⟩ : Str)).map (·.length)).sum) = l.length := fun l => by
    induction l with
    | nil => rfl
    | cons c r ih => rw [List.map_cons, List.map_cons, List.sum_cons, ih, List.length_cons]; show 1 + _ = _; omega
  have e2 : (cs.map fun c => V.str (⟨#[c]⟩ : Str)) = (cs.map fun c => (⟨#[c]⟩ : Str)).map V.str := by simp
  refine ⟨_, p, cs.map fun c => ⟨#[c]⟩, rfl, rfl, .inl (SqL.of (by rw [← e2]; exact h)), ?_, ?_⟩
  · rw [e, List.length_map]
    have : (("" : Str)).length = 0 := rfl
    rw [this]
    omega
  · have e3 : Txt.join ("" : Str) (cs.map fun c => (⟨#[c]⟩ : Str)) = ⟨cs.toArray⟩ := by
      refine tl_inj ?_
      rw [join_nil]
      have e4 : ∀ l : List Nat, (((l.map fun c => (⟨#[c]⟩ : Str)).map tl).flatten) = l := fun l => by
        induction l with
        | nil => rfl
        | cons c r ih => rw [List.map_cons, List.map_cons, List.flatten_cons, ih]; rfl
      rw [e4]
    rw [e3]
    exact q
/-- a sign of a text -/
theorem r_ixS {z : Str} {i : Int} {c : Nat} (h0 : 0 ≤ i) (hc : (tl z)[i.toNat]? = some c) (hl : z.length ≤ 100000) (q : Q (.str ⟨#[c]⟩) H) : rIx K (.str z) (.int i) H Q := by
  refine .inr (.inr ⟨z, i, c, rfl, rfl, Nat.le_trans hl (by decide), ?_, q⟩)
  have e : i = ((i.toNat : Nat) : Int) := (Int.toNat_of_nonneg h0).symm
  rw [e]
  exact atI_nat hc
end
end MV

set_option Elab.async false
set_option linter.all false
set_option maxRecDepth 100000
set_option maxHeartbeats 2000000
/-! MVY: lists of texts as data; parts of an f-string as readings; what lets nothing out. -/
namespace MV
open PySem PySem.Spec PySem.Calls PyProof.Rows L2 TL
/-- a list of texts as data -/
abbrev ds (ss : List Str) : PyData := .list (ss.map PyData.str)
theorem dp_ds {K : PySem.W.Frag} {H : Hp} {p : Addr} {ss : List Str} (h : SqL K H p (ss.map V.str)) : Dp K H (.ref p) (ds ss) := .lst h (dp_strs ss)
theorem depth_strs : ∀ ss : List Str, PyData.depthAll (ss.map PyData.str) = 0
  | [] => by rw [List.map_nil, PyData.depthAll]
  | n :: r => by rw [List.map_cons, PyData.depthAll, depth_strs r, PyData.depth]; rfl
/-- the signs are codes -/
def Cd (ss : List Str) : Prop := ∀ z ∈ ss, ∀ c ∈ tl z, c < 0x110000
theorem strOk_of {z : Str} (h : ∀ c ∈ tl z, c < 0x110000) : PyData.strOk z = true := by
  unfold PyData.strOk
  rw [Array.all_eq_true_iff_forall_mem]
  intro c hc
  exact decide_eq_true (h c (Array.mem_toList_iff.mpr hc))
theorem canLay_strs : ∀ {ss : List Str}, Cd ss → PyData.canLayAll0 (ss.map PyData.str) = true
  | [], _ => by rw [List.map_nil, PyData.canLayAll0]
  | n :: r, h => by
    rw [List.map_cons, PyData.canLayAll0, canLay_strs (fun z hz => h z (List.mem_cons_of_mem _ hz)), PyData.canLay0, strOk_of (h n List.mem_cons_self)]
    rfl
theorem shaped_ds {ss : List Str} (h : Cd ss) : SeqAt.shaped (ds ss) = true := by
  unfold SeqAt.shaped
  rw [PyData.canLay0, canLay_strs h, PyData.depth, depth_strs]
  rfl
theorem eqv_ds (a b : List Str) : PyData.eqv (ds a) (ds b) = decide (a = b) := by
  rw [PyData.eqv, eqvAll_strs]
/-- texts that can be shown: no more than m, each of at most n signs -/
structure Tx (n : Nat) (ss : List Str) : Prop where
  ln : ∀ z ∈ ss, z.length ≤ n
  cd : Cd ss
theorem bnd_strs {n : Nat} : ∀ {ss : List Str}, Tx n ss → bndAll (ss.map PyData.str) ≤ ss.length * (10 * n + 4)
  | [], _ => by rw [List.map_nil, bndAll]; exact Nat.zero_le _
  | z :: r, h => by
    have := bnd_strs (ss := r) ⟨fun y hy => h.ln y (List.mem_cons_of_mem _ hy), fun y hy => h.cd y (List.mem_cons_of_mem _ hy)⟩
    have h1 := StrLaws.reprText_len z (fun c hc => Nat.lt_of_lt_of_le (h.cd z List.mem_cons_self c hc) (by decide))
    have h2 := h.ln z List.mem_cons_self
    rw [List.map_cons, bndAll, bnd, List.length_cons, Nat.add_mul]
    omega
theorem showable_strs : ∀ ss : List Str, PyData.showableAll (ss.map PyData.str) = true
  | [] => by rw [List.map_nil, PyData.showableAll]
  | z :: r => by rw [List.map_cons, PyData.showableAll, showable_strs r, PyData.showable]; rfl
theorem noDict_strs : ∀ ss : List Str, PyData.hasDictAll (ss.map PyData.str) = false
  | [] => by rw [List.map_nil, PyData.hasDictAll]
  | z :: r => by rw [List.map_cons, PyData.hasDictAll, noDict_strs r, PyData.hasDict]; rfl
theorem shw_ds {n : Nat} {ss : List Str} (h : Tx n ss) (hb : ss.length * (10 * n + 4) ≤ 100000) : Shw (ds ss) where
  sh := by rw [PyData.showable, showable_strs]
  nd := by rw [PyData.hasDict, noDict_strs]
  dp := by rw [PyData.depth, depth_strs]; decide
  ln := by
    rw [bnd]
    have := bnd_strs h
    exact Nat.le_trans (show 2 + bndAll _ ≤ 100002 by omega) (by decide)
theorem ds_len {n : Nat} {ss : List Str} (h : Tx n ss) : (ds ss).shown.length ≤ 2 + ss.length * (10 * n + 4) := by
  have h1 := bnd_ok (ds ss) (by rw [PyData.showable, showable_strs]) (by rw [PyData.hasDict, noDict_strs])
  rw [bnd] at h1
  have := bnd_strs h
  omega
theorem cut_to {xs : List V} {k : Int} (h0 : 0 ≤ k) (hk : k ≤ xs.length) : cutV xs none (some k) = xs.take k.toNat := by
  obtain ⟨n, rfl⟩ : ∃ n : Nat, k = (n : Int) := ⟨k.toNat, by omega⟩
  unfold cutV
  rw [HT.sIx_nat, HT.sIx_none, List.drop_zero, Nat.sub_zero, Nat.min_eq_left (by omega), Int.toNat_natCast]
theorem cut_from {xs : List V} {k : Int} (h0 : 0 ≤ k) (hk : k ≤ xs.length) : cutV xs (some k) none = xs.drop k.toNat := by
  obtain ⟨n, rfl⟩ : ∃ n : Nat, k = (n : Int) := ⟨k.toNat, by omega⟩
  unfold cutV
  rw [HT.sIx_nat, HT.sIx_none, Nat.min_eq_left (by omega), Int.toNat_natCast]
  refine List.take_of_length_le ?_
  rw [List.length_drop]
  exact Nat.le_refl _
section
variable {K : PySem.W.Frag} {H : Hp} {Q : VK} {a b : Addr} {ss ts : List Str} {x y : V}
theorem r_eqDs (ca : Cd ss) (cb : Cd ts) (h : SqL K H a (ss.map V.str)) (g : SqL K H b (ts.map V.str)) (q : Q (.bl (decide (ss = ts))) H) : rEqD K (.ref a) (.ref b) H Q :=
  ⟨_, _, dp_ds h, dp_ds g, shaped_ds ca, shaped_ds cb, by rw [eqv_ds]; exact q⟩
theorem r_neDs (ca : Cd ss) (cb : Cd ts) (h : SqL K H a (ss.map V.str)) (g : SqL K H b (ts.map V.str)) (q : Q (.bl (!decide (ss = ts))) H) : rNeD K (.ref a) (.ref b) H Q :=
  ⟨_, _, dp_ds h, dp_ds g, shaped_ds ca, shaped_ds cb, by rw [eqv_ds]; exact q⟩
theorem r_tupA {p : Addr} {xs : List V} (h : SqL K H p xs) (k : ∀ l H2, Stp none H H2 → H2 l = some (.tup xs) → H l = none → Q (.ref l) H2) : rTupL K [.ref p] H Q :=
  ⟨p, xs, rfl, .inl ⟨h, fun l hl => k l _ (Stp.new hl) upd_same hl⟩⟩
theorem r_mulSk {z : Str} {k : Int} (h1 : k ≤ 1000) (h0 : -1000 ≤ k) (hz : z.length ≤ 1000) (q : Q (.str (repS z k)) H) : rMulS (.str z) (.int k) H Q := ⟨z, k, rfl, rfl, h1, h0, hz, q⟩
theorem r_repL {l : Addr} {xs : List V} {k : Int} (h : H l = some (.lst xs)) (h1 : -(2 ^ 63) ≤ k) (h2 : k < 2 ^ 63) (hl : xs.length * k.toNat ≤ 100000) (k' : ∀ p H2, Stp none H H2 → H2 p = some (.lst (List.replicate k.toNat xs).flatten) → H p = none → Q (.ref p) H2) : rRep (.ref l) (.int k) H Q :=
  ⟨l, k, xs, rfl, rfl, h, h1, h2, Nat.le_trans hl (by decide), fun p hp => k' p _ (Stp.new hp) upd_same hp⟩
theorem r_cat {l m : Addr} {xs ys : List V} (h : H l = some (.lst xs)) (h2 : H m = some (.lst ys)) (hl : xs.length + ys.length ≤ 100000) (k : ∀ p H2, Stp none H H2 → H2 p = some (.lst (xs ++ ys)) → H p = none → Q (.ref p) H2) : rCat (.ref l) (.ref m) H Q :=
  ⟨l, m, xs, ys, rfl, rfl, h, h2, Nat.le_trans hl (by decide), fun p hp => k p _ (Stp.new hp) upd_same hp⟩
/-- a new empty dict -/
theorem r_dnew {σ : L2.St} (k : ∀ p H2, Stp none H H2 → H2 p = some (.dK []) → H p = none → Q (.ref p) H2) : tDNewK σ H Q := fun p hp => k p _ (Stp.new hp) upd_same hp
theorem r_lstA {p : Addr} {xs : List V} (h : SqL K H p xs ∨ SqT K H p xs) (k : ∀ l H2, Stp none H H2 → H2 l = some (.lst xs) → H l = none → Q (.ref l) H2) : rLstL K [.ref p] H Q :=
  ⟨p, xs, rfl, h, fun l hl => k l _ (Stp.new hl) upd_same hl⟩
theorem r_repr {d : PyData} {z : V} (h : Dp K H z d) (S : Shw d) (q : Q (.str d.shown) H) : rRepr K [z] H Q := ⟨z, d, rfl, h, S, q⟩
theorem r_js {t : TE} {ts : List TE} {acc : Str} {σ : L2.St} {Q : Str → Hp → Prop} (q : t σ H fun x H1 => ∃ y : Str, x = .str y ∧ (acc ++ y).length ≤ sizeLine ∧ tJs ts (acc ++ y) σ H1 Q) : tJs (t :: ts) acc σ H Q := q
theorem r_js0 {acc : Str} {σ : L2.St} {Q : Str → Hp → Prop} (q : Q acc H) : tJs [] acc σ H Q := q
theorem r_jv {y acc : Str} {ts : List TE} {σ : L2.St} {Q : Str → Hp → Prop} (h : (acc ++ y).length ≤ sizeLine) (q : tJs ts (acc ++ y) σ H Q) : ∃ z : Str, V.str y = .str z ∧ (acc ++ z).length ≤ sizeLine ∧ tJs ts (acc ++ z) σ H Q := ⟨y, rfl, h, q⟩
theorem r_fmtR {te : TE} {σ : L2.St} (q : te σ H fun x H1 => (∃ y : Str, x = .str y ∧ (PySem.reprText y).length ≤ sizeLine ∧ Q (.str (PySem.reprText y)) H1) ∨ ∃ i : Int, x = .int i ∧ i.natAbs.log2 < 1920 ∧ Q (.str (toString i)) H1) : tFmtR te σ H Q := q
theorem r_fmtD {te : TE} {σ : L2.St} (q : te σ H fun x H1 => ∃ a d, x = .ref a ∧ Dp K H1 x d ∧ Shw d ∧ Q (.str d.shown) H1) : tFmtD K te σ H Q := q
theorem app_le {a b : Str} {m n : Nat} (ha : a.length ≤ m) (hb : b.length ≤ n) : (a ++ b).length ≤ m + n := by
  rw [strLen_append]
  omega
theorem fits_of {a : Str} {m : Nat} (h : a.length ≤ m) (hm : m ≤ 100000) : a.length ≤ sizeLine := Nat.le_trans h (Nat.le_trans hm (by decide))
theorem tl_app (x y : Str) : tl (x ++ y) = tl x ++ tl y := tl_append x y
end
/-- e.f of the caught error, told -/
theorem r_xf {a C : Addr} {cls : Value} {d : Option Addr} {dd : Addr} {f : Str} {σ : L2.St} {H : Hp} {Q : VK} {n : Nat} {fs : List (Str × V)} {v : V} (ec : cls = .ref C) (ed : d = some dd) (hd : H dd = some (.xd fs)) (hf : fs.lookup f = some v) (h : σ[n]? = some (some (.ref a))) (q : Q v H) :
    tXf a cls d C f (tVar n) σ H Q := ⟨.ref a, h, rfl, ec, dd, fs, v, ed, hd, hf, q⟩
/-! ### lists or tuples; types -/
section
variable {K : PySem.W.Frag} {H : Hp} {Q : VK} {v : V}
theorem ty_mv {H H' : Hp} {x : V} {t : Value} (s : Stp none H H') (h : TyX K H x t) : TyX K H' x t := by
  cases h with
  | base b =>
    cases b with
    | non => exact .base .non
    | bl b => exact .base (.bl b)
    | int i => exact .base (.int i)
    | str z => exact .base (.str z)
    | flt z => exact .base (.flt z)
    | lst e => exact .base (.lst (s.all _ _ e))
    | frz e => exact .base (.frz (s.all _ _ e))
    | tup e => exact .base (.tup (s.all _ _ e))
    | dK e => exact .base (.dK (s.all _ _ e))
    | dT e => exact .base (.dT (s.all _ _ e))
    | ins e a b c d f => exact .base (.ins (s.all _ _ e) a b c d f)
  | byt b => exact .byt b
  | set e => exact .set (s.all _ _ e)
  | kList e c => exact .kList e c
  | kTuple e c => exact .kTuple e c
  | kDict e c => exact .kDict e c
  | fTuple e => exact .fTuple (s.all _ _ e)
  | fDict e => exact .fDict (s.all _ _ e)
theorem ty_tl {p : Addr} {xs : List V} (h : SqL K H p xs ∨ SqT K H p xs) : ∃ t, TyX K H (.ref p) t ∧ PySem.W.kitAny K t [.type "list", .type "tuple"] = some true := by
  rcases h with h | h
  · exact ⟨_, ty_lst h, kitAny_cons (b := true) (kit_ty (by decide +kernel)) (fun z => nomatch z) (fun _ => rfl)⟩
  · exact ⟨_, ty_tup h, kitAny_cons (b := false) (kit_ty (by decide +kernel)) (fun _ => kitAny_cons (b := true) (kit_ty (by decide +kernel)) (fun z => nomatch z) fun _ => rfl) (fun z => nomatch z)⟩
theorem sq_mv {p : Addr} {xs : List V} {H H' : Hp} (s : Stp none H H') (h : SqL K H p xs ∨ SqT K H p xs) : SqL K H' p xs ∨ SqT K H' p xs := h.elim (fun h => .inl (SqL.mvN s h)) fun h => .inr (SqT.mvS s h)
theorem r_nN {p : Prop} [Decidable p] {A B : Prop} (h : ¬ p) (q : A) : if (!decide p) = true then A else B := by
  rw [if_pos (by simp [h])]; exact q
/-- an item of a list or a tuple -/
theorem r_ixA {p : Addr} {xs : List V} {n : Nat} (h : SqL K H p xs ∨ SqT K H p xs) (hn : xs[n]? = some v) (q : Q v H) : rIx K (.ref p) (.int (n : Nat)) H Q := by
  rcases h with h | h
  · exact .inl ⟨p, xs, _, v, rfl, rfl, h, atI_nat hn, q⟩
  · exact .inr (.inl ⟨p, xs, _, v, rfl, rfl, h, atI_nat hn, q⟩)
theorem r_lenA {p : Addr} {xs : List V} (h : SqL K H p xs ∨ SqT K H p xs) (q : Q (.int xs.length) H) : rLenV K [.ref p] H Q := ⟨p, xs, rfl, h, q⟩
end
end MV

set_option Elab.async false
set_option linter.all false
set_option maxRecDepth 100000
set_option maxHeartbeats 2000000
/-! MVZ: what a step with lambdas leaves (Sn); a lambda handed to a def of the text; repr of an empty dict. -/
namespace MV
open PySem PySem.Spec PySem.Calls PyProof.Rows L2 TL LamX
/-- what a step leaves that may write the tables T and the tape t -/
structure Sn (T : List (Addr × Str)) (t : Option Addr) (H H' : Hp) : Prop where
  ge : ∀ b o, H b = some o → (∀ ps, o ≠ .tbl ps) → (t = some b → ∀ xs, o ≠ .lst xs) → H' b = some o
  tp : ∀ a l, t = some a → TapeL H a l → TapeL H' a l
  tb : Tabs T H → Tabs T H'
section
variable {T : List (Addr × Str)} {t : Option Addr} {H H' H1 H2 : Hp}
theorem codeO_lst {c : Addr} {q : Str} (xs : List V) : CodeO c q ≠ .lst xs := fun z => by
  have z' : HO.ext _ = HO.lst xs := z
  cases z'
theorem Tabs.stp (s : Stp t H H') (h : Tabs T H) : Tabs T H' := fun p hp => by
  obtain ⟨ps, h1, h2, h3⟩ := h p hp
  refine ⟨ps, s.ge _ _ (fun _ xs z => by cases z) h1, h2, fun pos cv hc => ?_⟩
  obtain ⟨c, e1, e2⟩ := h3 pos cv hc
  exact ⟨c, e1, s.ge _ _ (fun _ xs => codeO_lst xs) e2⟩
theorem Sn.of (s : Stp t H H') : Sn T t H H' := ⟨fun b o e _ n => s.ge b o n e, s.tp, fun h => Tabs.stp s h⟩
theorem Sn.ofN (s : Stp none H H') : Sn T t H H' := .of s.w
theorem Sn.lam (e : ExtN H H') (h : Tabs T H') : Sn T t H H' := by
  refine ⟨fun b o h n _ => e b o h n, fun a l _ X => ?_, fun _ => h⟩
  obtain ⟨ns, x, b, c, h0, h1, h2, h3⟩ := X
  exact ⟨ns, x, b, c, h0, e _ _ h1 (fun ps z => by cases z), e _ _ h2 (fun ps z => by cases z), h3⟩
theorem Sn.refl : Sn T t H H := ⟨fun _ _ h _ _ => h, fun _ _ _ h => h, fun h => h⟩
theorem Sn.trans (a : Sn T t H H1) (b : Sn T t H1 H2) : Sn T t H H2 := ⟨fun c o h n m => b.ge c o (a.ge c o h n m) n m, fun c l e X => b.tp c l e (a.tp c l e X), fun h => b.tb (a.tb h)⟩
theorem Sn.tup (s : Sn T t H H') {p : Addr} {xs : List V} (h : H p = some (.tup xs)) : H' p = some (.tup xs) := s.ge _ _ h (fun _ z => by cases z) (fun _ _ z => by cases z)
theorem Sn.ins (s : Sn T t H H') {p C dx : Addr} {fs : List (Str × V)} (h : H p = some (.ins C dx fs)) : H' p = some (.ins C dx fs) := s.ge _ _ h (fun _ z => by cases z) (fun _ _ z => by cases z)
theorem Sn.dK (s : Sn T t H H') {p : Addr} {kvs : List (Key × V)} (h : H p = some (.dK kvs)) : H' p = some (.dK kvs) := s.ge _ _ h (fun _ z => by cases z) (fun _ _ z => by cases z)
theorem Sn.xd (s : Sn T t H H') {p : Addr} {fs : List (Str × V)} (h : H p = some (.xd fs)) : H' p = some (.xd fs) := s.ge _ _ h (fun _ z => by cases z) (fun _ _ z => by cases z)
theorem Sn.lst (s : Sn T t H H') {p : Addr} {xs : List V} (n : t = some p → False) (h : H p = some (.lst xs)) : H' p = some (.lst xs) := s.ge _ _ h (fun _ z => by cases z) (fun e => (n e).elim)
theorem Sn.it (s : Sn T t H H') {v : V} {ns : List Int} (h : IT H v ns) : IT H' v ns := (let ⟨p, e, h⟩ := h; ⟨p, e, s.tup h⟩)
theorem Sn.tape {a : Addr} (s : Sn T (some a) H H') (h : Tape H a) : Tape H' a := (let ⟨l, h⟩ := h; ⟨l, s.tp a l rfl h⟩)
end
/-! ### a lambda handed to a def -/
section
variable {X : Cx}
theorem peg_lamF {T : List (Addr × Str)} {TT : (XK → Hp → VK → Prop) → Hp → VK → Prop} {x a : Str} {g c P : Addr} {k : Nat} {st : Stmt} {fd : FuncData} {Ng : List Str} {params : Arguments} {body : Expr} {scope : Scope} {t : XK → TE} {p lpos pos : Pos}
    (hG : X.A.guards = some []) (hg : Gl X x) (hm : X.mg x = some (.ref g)) (F : Fun X.K x x st g fd) (hb : L2.Binds X.K fd [a] []) (Sg : FnScope Ng [a] (defScope st)) (hNg : Ng[0]? = some a) (hva : Vis (defScope st) a)
    (hgv : ∀ cdv, GivesTo X Ng x (defScope st) g cdv (defBody st) a (X.env.qual ++ "<lambda>") TT)
    (TB : TabB X.base X.mg c P) (hcode : X.env.code = .ref c) (hmT : (P, X.env.qual ++ "<lambda>") ∈ T) (hu : ∀ p ∈ T, p.1 = P → p.2 = X.env.qual ++ "<lambda>") (hr : Room (k + 2) X.A) (L : LamS X.env.scope scope)
    (hdef : defaultsOf params X.env = ([], []))
    (hbind : ∀ (q : Str) (cl : List (Str × Addr)) (pm cv ctv : Value), bindArgs (PySem.W.kla_fn "<lambda>" q params body scope cl pm cv ctv) ⟨[], []⟩ = pure [])
    (hbody : ∀ (A : Around) (outer : List Env) (s : Shared) (H : Hp) (E : XK) (f c' : Addr), A.guards = some [] → Room k (A.deeper (lamEnv X scope s.heap.objs.size f c')) → PE (lamCx X A outer s H E scope f c') body (t E))
    (hdb : (x == ("__debug__" : Str)) = false := by decide) (hd : (a == ("__debug__" : Str)) = false := by decide) (hcd : (a == ("__classdict__" : Str)) = false := by decide) :
    PE X (.Call (.Name x p) [.Lambda params body scope lpos] [] pos) (tLam T TT t) := by
  obtain ⟨oc, od, kV, doc, pm, an, cdv, ct, osl, rfl, lk, hcd⟩ := F.ex
  exact peg_lamcall hG hg hm F.kp lk hcd hb Sg hNg hva (hgv cdv) TB hcode hmT hu hr L hdef hbind hbody hdb ‹_› ‹_›
/-- .. the def's own table alone -/
theorem peg_lam1 {qn : Str} (hq : X.env.qual = qn) {TT : (XK → Hp → VK → Prop) → Hp → VK → Prop} {x a : Str} {g c P : Addr} {k : Nat} {st : Stmt} {fd : FuncData} {Ng : List Str} {params : Arguments} {body : Expr} {scope : Scope} {t : XK → TE} {p lpos pos : Pos}
    (hcode : X.env.code = .ref c) (TB : TabB X.base X.mg c P)
    (hG : X.A.guards = some []) (hr : Room (k + 2) X.A) (hg : Gl X x) (hm : X.mg x = some (.ref g)) (F : Fun X.K x x st g fd) (hb : L2.Binds X.K fd [a] []) (Sg : FnScope Ng [a] (defScope st)) (hNg : Ng[0]? = some a) (hva : Vis (defScope st) a)
    (hgv : ∀ cdv, GivesTo X Ng x (defScope st) g cdv (defBody st) a (X.env.qual ++ "<lambda>") TT)
    (L : LamS X.env.scope scope)
    (hdef : defaultsOf params X.env = ([], []))
    (hbind : ∀ (q : Str) (cl : List (Str × Addr)) (pm cv ctv : Value), bindArgs (PySem.W.kla_fn "<lambda>" q params body scope cl pm cv ctv) ⟨[], []⟩ = pure [])
    (hbody : ∀ (A : Around) (outer : List Env) (s : Shared) (H : Hp) (E : XK) (f c' : Addr), A.guards = some [] → Room k (A.deeper (lamEnv X scope s.heap.objs.size f c')) → PE (lamCx X A outer s H E scope f c') body (t E))
    (hdb : (x == ("__debug__" : Str)) = false := by decide) (hd : (a == ("__debug__" : Str)) = false := by decide) (hcd : (a == ("__classdict__" : Str)) = false := by decide) :
    PE X (.Call (.Name x p) [.Lambda params body scope lpos] [] pos) (tLam [(P, qn ++ ("<lambda>" : Str))] TT t) := by
  subst hq
  exact peg_lamF hG hg hm F hb Sg hNg hva hgv TB hcode List.mem_cons_self (fun p hp _ => by rw [List.mem_singleton.mp hp]) hr L hdef hbind hbody hdb hd hcd
end
/-- the readings of lambdas -/
theorem r_lam {T : List (Addr × Str)} {TT : (XK → Hp → VK → Prop) → Hp → VK → Prop} {t : XK → TE} {σ : L2.St} {H : Hp} {Q : VK} (h : Tabs T H) (q : ∀ H1, ExtN H H1 → Tabs T H1 → TT (fun E H' Q' => t E σ H' Q') H1 Q) : tLam T TT t σ H Q := ⟨h, q⟩
theorem r_TTas {K : PySem.W.Frag} {Ng : List Str} {i : Nat} {l : List Cl} {tr : TS} {tl : XK → Hp → VK → Prop} {H : Hp} {Q : VK} (q : ∀ f : Addr,
    tl (fun cls d H' => ∀ σ' : L2.St, σ'.length = Ng.length → wAsN K i (fun _ _ _ _ => False) { nx := tr { nx := fun _ H' => Q .non H', rt := Q }, rt := Q } l cls d σ' H') H
      (fun _ H' => tr { nx := fun _ H' => Q .non H', rt := Q } (L2.start Ng [.ref f]) H')) : TTas K Ng i l tr tl H Q := q
/-! ### repr of an empty dict -/
def rReprE : List V → Hp → VK → Prop := fun xs H Q => ∃ a, xs = [.ref a] ∧ H a = some (.dK []) ∧ Q (.str "{}") H
theorem shown_e : (PyData.dict []).shown = "{}" := by
  rw [PyData.shown]
  rfl
theorem callg_reprE {X : Cx} (hg : X.A.guards = some []) (hu : X.A.units + 64 < cLine) : CallR X (.builtin "repr") rReprE := by
  intro pins s σ H xs us Q I r h
  obtain ⟨a, rfl, ha, q⟩ := h
  obtain ⟨u, rfl, rv⟩ : ∃ u, us = [u] ∧ RelV (.ref a) u := by
    cases r with
    | cons r rr => cases rr; exact ⟨_, rfl, r⟩
  cases rv
  have ok : ObjOk X.prog X.w H s.heap a (.dK []) := I.hok a _ ha
  obtain ⟨_, hs, vs, kv, o, es, ep, h1, h2, h3, h4, h5, _⟩ := ok
  have ev : vs = [] := by cases kv; rfl
  subst ev
  have ee : es.toList = [] := by
    generalize es.toList = l at h5
    cases h5
    rfl
  have R : Reads s.heap (.ref a) (.dict []) ([a] ++ []) := Reads.dict (as := []) h1 h2.1 h3 (by rw [ee]; exact .nil) (by rw [ee]; exact .nil)
  have hq : ∀ h' u tk, (∀ b o, s.heap.get? b = some o → h'.get? b = some o) → EP X pins σ Q (.str (PyData.dict []).shown u) { s with heap := h', toks := tk } :=
    fun h' u tk hk => ⟨.str (PyData.dict []).shown, H, I.kept hk, ⟨u, rfl⟩, by rw [shown_e]; exact q⟩
  refine repr_of_reads' R ?_ (fun _ hm => ?_) hg ?_ (fun _ _ e => e) hq ?_
  · rw [PyData.showable]; rfl
  · have e : sysModules = a := by simpa using hm
    rw [← e] at hs
    cases hs
  · rw [PyData.depth]
    show X.A.units + (1 + 1) < cLine
    omega
  · rw [shown_e]; decide +kernel
def rReprX (K : PySem.W.Frag) : List V → Hp → VK → Prop := fun xs H Q => rRepr K xs H Q ∨ rReprE xs H Q
theorem callg_reprX {X : Cx} (hg : X.A.guards = some []) (hu : X.A.units + 64 < cLine) : CallR X (.builtin "repr") (rReprX X.K) := (callg_repr hg hu).or (callg_reprE hg hu)
/-- .. in a suite of a def that was handed a lambda -/
theorem callg_reprH {X : Cx} {Ng : List Str} {x : Str} {sg : Scope} {g a : Addr} {cdg : Value} {s : Shared} {H : Hp} {pn : List (Addr × Obj)} (hg : X.A.guards = some []) (hr : Room 2 X.A) :
    CallR ((cxOf C8.CX0 X.prog X.w X.K X.mg X.base Ng x sg g cdg X.A X.stack s H C8.E0).nox.suite a pn) (.builtin "repr") (rReprX X.K) :=
  callg_reprX (X := ((cxOf C8.CX0 X.prog X.w X.K X.mg X.base Ng x sg g cdg X.A X.stack s H C8.E0).nox.suite a pn)) hg (by have := hr.un; show X.A.units + 3 + 64 < cLine; omega)
end MV

set_option Elab.async false
set_option linter.all false
set_option maxRecDepth 100000
set_option maxHeartbeats 4000000
namespace Law
open PySem PySem.Spec PyProof.Rows L2 MV TL LamX
def topS (i : Nat) : Stmt := PySem.Challenge.pw_carpets_k08_invalid_motions.main.body.getD i (.Pass ⟨0, 0, 0, 0⟩)
abbrev s_InvalidPlace_init : Stmt := inClass (topS 3) 0
abbrev N_InvalidPlace_init : List Str := ["self", "value"]
abbrev P_InvalidPlace_init : List Str := ["self", "value"]
theorem sc_InvalidPlace_init : FnScope N_InvalidPlace_init P_InvalidPlace_init (defScope s_InvalidPlace_init) := ⟨rfl, rfl, rfl, by decide +kernel, rfl, by decide +kernel, by decide +kernel⟩
abbrev s_InvalidMotion_init : Stmt := inClass (topS 4) 0
abbrev N_InvalidMotion_init : List Str := ["self", "value"]
abbrev P_InvalidMotion_init : List Str := ["self", "value"]
theorem sc_InvalidMotion_init : FnScope N_InvalidMotion_init P_InvalidMotion_init (defScope s_InvalidMotion_init) := ⟨rfl, rfl, rfl, by decide +kernel, rfl, by decide +kernel, by decide +kernel⟩
abbrev s_InvalidNumber_init : Stmt := inClass (topS 5) 0
abbrev N_InvalidNumber_init : List Str := ["self", "value"]
abbrev P_InvalidNumber_init : List Str := ["self", "value"]
theorem sc_InvalidNumber_init : FnScope N_InvalidNumber_init P_InvalidNumber_init (defScope s_InvalidNumber_init) := ⟨rfl, rfl, rfl, by decide +kernel, rfl, by decide +kernel, by decide +kernel⟩
abbrev s_is_integer : Stmt := topS 7
abbrev N_is_integer : List Str := ["value"]
abbrev P_is_integer : List Str := ["value"]
theorem sc_is_integer : FnScope N_is_integer P_is_integer (defScope s_is_integer) := ⟨rfl, rfl, rfl, by decide +kernel, rfl, by decide +kernel, by decide +kernel⟩
abbrev s_is_place : Stmt := topS 8
abbrev N_is_place : List Str := ["value"]
abbrev P_is_place : List Str := ["value"]
theorem sc_is_place : FnScope N_is_place P_is_place (defScope s_is_place) := ⟨rfl, rfl, rfl, by decide +kernel, rfl, by decide +kernel, by decide +kernel⟩
abbrev s_check_place : Stmt := topS 9
abbrev N_check_place : List Str := ["value"]
abbrev P_check_place : List Str := ["value"]
theorem sc_check_place : FnScope N_check_place P_check_place (defScope s_check_place) := ⟨rfl, rfl, rfl, by decide +kernel, rfl, by decide +kernel, by decide +kernel⟩
abbrev s_Motion_init : Stmt := inClass (topS 15) 1
abbrev N_Motion_init : List Str := ["self", "kind", "shift", "x", "y"]
abbrev P_Motion_init : List Str := ["self", "kind", "shift"]
theorem sc_Motion_init : FnScope N_Motion_init P_Motion_init (defScope s_Motion_init) := ⟨rfl, rfl, rfl, by decide +kernel, rfl, by decide +kernel, by decide +kernel⟩
abbrev s_Motion_by : Stmt := inClass (topS 15) 2
abbrev N_Motion_by : List Str := ["shift"]
abbrev P_Motion_by : List Str := ["shift"]
theorem sc_Motion_by : FnScope N_Motion_by P_Motion_by (defScope s_Motion_by) := ⟨rfl, rfl, rfl, by decide +kernel, rfl, by decide +kernel, by decide +kernel⟩
abbrev s_Motion_kind : Stmt := inClass (topS 15) 3
abbrev N_Motion_kind : List Str := ["self"]
abbrev P_Motion_kind : List Str := ["self"]
theorem sc_Motion_kind : FnScope N_Motion_kind P_Motion_kind (defScope s_Motion_kind) := ⟨rfl, rfl, rfl, by decide +kernel, rfl, by decide +kernel, by decide +kernel⟩
abbrev s_Motion_shift : Stmt := inClass (topS 15) 4
abbrev N_Motion_shift : List Str := ["self"]
abbrev P_Motion_shift : List Str := ["self"]
theorem sc_Motion_shift : FnScope N_Motion_shift P_Motion_shift (defScope s_Motion_shift) := ⟨rfl, rfl, rfl, by decide +kernel, rfl, by decide +kernel, by decide +kernel⟩
abbrev s_Motion_call : Stmt := inClass (topS 15) 6
abbrev N_Motion_call : List Str := ["self", "place", "x", "y", "dx", "dy"]
abbrev P_Motion_call : List Str := ["self", "place"]
theorem sc_Motion_call : FnScope N_Motion_call P_Motion_call (defScope s_Motion_call) := ⟨rfl, rfl, rfl, by decide +kernel, rfl, by decide +kernel, by decide +kernel⟩
abbrev s_Motion_repeated : Stmt := inClass (topS 15) 9
abbrev N_Motion_repeated : List Str := ["self", "number", "fourth", "dx", "dy", "fours", "result", "_"]
abbrev P_Motion_repeated : List Str := ["self", "number"]
theorem sc_Motion_repeated : FnScope N_Motion_repeated P_Motion_repeated (defScope s_Motion_repeated) := ⟨rfl, rfl, rfl, by decide +kernel, rfl, by decide +kernel, by decide +kernel⟩
abbrev s_law_tape : Stmt := topS 17
abbrev N_law_tape : List Str := ["_law_script"]
abbrev P_law_tape : List Str := ["_law_script"]
theorem sc_law_tape : FnScope N_law_tape P_law_tape (defScope s_law_tape) := ⟨rfl, rfl, rfl, by decide +kernel, rfl, by decide +kernel, by decide +kernel⟩
abbrev s_law_draw : Stmt := topS 18
abbrev N_law_draw : List Str := ["_law_tape_here", "_law_many", "_law_digit", "_law_cell", "_law_near"]
abbrev P_law_draw : List Str := ["_law_tape_here", "_law_many"]
theorem sc_law_draw : FnScope N_law_draw P_law_draw (defScope s_law_draw) := ⟨rfl, rfl, rfl, by decide +kernel, rfl, by decide +kernel, by decide +kernel⟩
abbrev s_law_great : Stmt := topS 19
abbrev N_law_great : List Str := ["_law_tape_here", "_law_size", "_law_high", "_law_value"]
abbrev P_law_great : List Str := ["_law_tape_here", "_law_size"]
theorem sc_law_great : FnScope N_law_great P_law_great (defScope s_law_great) := ⟨rfl, rfl, rfl, by decide +kernel, rfl, by decide +kernel, by decide +kernel⟩
abbrev s_law_place : Stmt := topS 20
abbrev N_law_place : List Str := ["_law_tape_here"]
abbrev P_law_place : List Str := ["_law_tape_here"]
theorem sc_law_place : FnScope N_law_place P_law_place (defScope s_law_place) := ⟨rfl, rfl, rfl, by decide +kernel, rfl, by decide +kernel, by decide +kernel⟩
abbrev s_law_kinds : Stmt := topS 21
abbrev N_law_kinds : List Str := []
abbrev P_law_kinds : List Str := []
theorem sc_law_kinds : FnScope N_law_kinds P_law_kinds (defScope s_law_kinds) := ⟨rfl, rfl, rfl, by decide +kernel, rfl, by decide +kernel, by decide +kernel⟩
abbrev s_law_heard : Stmt := topS 22
abbrev N_law_heard : List Str := ["_law_call", "e"]
abbrev P_law_heard : List Str := ["_law_call"]
theorem sc_law_heard : FnScope N_law_heard P_law_heard (defScope s_law_heard) := ⟨rfl, rfl, rfl, by decide +kernel, rfl, by decide +kernel, by decide +kernel⟩
abbrev s_law : Stmt := topS 23
abbrev N_law : List Str := ["_law_script", "_law_tape_here", "_law_good", "_law_place_here", "_law_spots", "_law_made", "_law_odd", "_law_other"]
abbrev P_law : List Str := ["_law_script"]
theorem sc_law : FnScope N_law P_law (defScope s_law) := ⟨rfl, rfl, rfl, by decide +kernel, rfl, by decide +kernel, by decide +kernel⟩
structure Ad where
  C_CarpetError : Addr
  KINDS : Addr
  dfl0 : Addr
  C_InvalidPlace : Addr
  C_InvalidMotion : Addr
  C_InvalidNumber : Addr
  C_Motion : Addr
  InvalidPlace_init : Addr
  InvalidPlace_init_d : FuncData
  InvalidMotion_init : Addr
  InvalidMotion_init_d : FuncData
  InvalidNumber_init : Addr
  InvalidNumber_init_d : FuncData
  is_integer : Addr
  is_integer_d : FuncData
  is_place : Addr
  is_place_d : FuncData
  check_place : Addr
  check_place_d : FuncData
  Motion_init : Addr
  Motion_init_d : FuncData
  Motion_by : Addr
  Motion_by_d : FuncData
  p_Motion_by : Addr
  Motion_kind : Addr
  Motion_kind_d : FuncData
  p_Motion_kind : Addr
  Motion_shift : Addr
  Motion_shift_d : FuncData
  p_Motion_shift : Addr
  Motion_call : Addr
  Motion_call_d : FuncData
  Motion_repeated : Addr
  Motion_repeated_d : FuncData
  law_tape : Addr
  law_tape_d : FuncData
  law_draw : Addr
  law_draw_d : FuncData
  law_great : Addr
  law_great_d : FuncData
  law_place : Addr
  law_place_d : FuncData
  law_kinds : Addr
  law_kinds_d : FuncData
  law_heard : Addr
  law_heard_d : FuncData
  law : Addr
  law_d : FuncData
  cc_law : Addr
  PT_law : Addr
structure Txt (K : PySem.W.Frag) (mg : Str → Option Value) (a : Ad) : Prop where
  g_InvalidPlace : mg "InvalidPlace" = some (.ref a.C_InvalidPlace)
  x_InvalidPlace : Xc K a.C_InvalidPlace a.InvalidPlace_init "value"
  xf_InvalidPlace : XfC K a.C_InvalidPlace
  xi_InvalidPlace : ExcC K a.C_InvalidPlace
  g_InvalidMotion : mg "InvalidMotion" = some (.ref a.C_InvalidMotion)
  x_InvalidMotion : Xc K a.C_InvalidMotion a.InvalidMotion_init "value"
  xf_InvalidMotion : XfC K a.C_InvalidMotion
  xi_InvalidMotion : ExcC K a.C_InvalidMotion
  g_InvalidNumber : mg "InvalidNumber" = some (.ref a.C_InvalidNumber)
  x_InvalidNumber : Xc K a.C_InvalidNumber a.InvalidNumber_init "value"
  xf_InvalidNumber : XfC K a.C_InvalidNumber
  xi_InvalidNumber : ExcC K a.C_InvalidNumber
  g_Motion : mg "Motion" = some (.ref a.C_Motion)
  cl_Motion : Cls K a.C_Motion
  k_Motion : Mk K a.C_Motion a.Motion_init
  F_InvalidPlace_init : Fun K "__init__" "InvalidPlace.__init__" s_InvalidPlace_init a.InvalidPlace_init a.InvalidPlace_init_d
  b_InvalidPlace_init : Binds K a.InvalidPlace_init_d P_InvalidPlace_init []
  F_InvalidMotion_init : Fun K "__init__" "InvalidMotion.__init__" s_InvalidMotion_init a.InvalidMotion_init a.InvalidMotion_init_d
  b_InvalidMotion_init : Binds K a.InvalidMotion_init_d P_InvalidMotion_init []
  F_InvalidNumber_init : Fun K "__init__" "InvalidNumber.__init__" s_InvalidNumber_init a.InvalidNumber_init a.InvalidNumber_init_d
  b_InvalidNumber_init : Binds K a.InvalidNumber_init_d P_InvalidNumber_init []
  g_is_integer : mg "is_integer" = some (.ref a.is_integer)
  F_is_integer : Fun K "is_integer" "is_integer" s_is_integer a.is_integer a.is_integer_d
  b_is_integer : Binds K a.is_integer_d P_is_integer []
  g_is_place : mg "is_place" = some (.ref a.is_place)
  F_is_place : Fun K "is_place" "is_place" s_is_place a.is_place a.is_place_d
  b_is_place : Binds K a.is_place_d P_is_place []
  g_check_place : mg "check_place" = some (.ref a.check_place)
  F_check_place : Fun K "check_place" "check_place" s_check_place a.check_place a.check_place_d
  b_check_place : Binds K a.check_place_d P_check_place []
  F_Motion_init : FunD K "__init__" "Motion.__init__" (defArgs s_Motion_init) (defBody s_Motion_init) (defScope s_Motion_init) [V.ref a.dfl0] []  a.Motion_init a.Motion_init_d
  b_Motion_init : Binds K a.Motion_init_d P_Motion_init []
  bd_Motion_init : ∃ ds, Vals [V.ref a.dfl0] ds ∧ Binds K a.Motion_init_d P_Motion_init ds
  sm_Motion_by : SMet K a.C_Motion (.type "type") "by" a.p_Motion_by a.Motion_by
  F_Motion_by : Fun K "by" "Motion.by" s_Motion_by a.Motion_by a.Motion_by_d
  b_Motion_by : Binds K a.Motion_by_d P_Motion_by []
  p_Motion_kind : PropOf K a.C_Motion "kind" a.p_Motion_kind a.Motion_kind
  F_Motion_kind : Fun K "kind" "Motion.kind" s_Motion_kind a.Motion_kind a.Motion_kind_d
  b_Motion_kind : Binds K a.Motion_kind_d P_Motion_kind []
  p_Motion_shift : PropOf K a.C_Motion "shift" a.p_Motion_shift a.Motion_shift
  F_Motion_shift : Fun K "shift" "Motion.shift" s_Motion_shift a.Motion_shift a.Motion_shift_d
  b_Motion_shift : Binds K a.Motion_shift_d P_Motion_shift []
  o_Motion_call : HasS K a.C_Motion a.Motion_call "__call__"
  fn_Motion_call : PySem.W.fnIn K a.Motion_call = true
  F_Motion_call : Fun K "__call__" "Motion.__call__" s_Motion_call a.Motion_call a.Motion_call_d
  b_Motion_call : Binds K a.Motion_call_d P_Motion_call []
  m_Motion_repeated : Meth K a.C_Motion "repeated" a.Motion_repeated
  F_Motion_repeated : Fun K "repeated" "Motion.repeated" s_Motion_repeated a.Motion_repeated a.Motion_repeated_d
  b_Motion_repeated : Binds K a.Motion_repeated_d P_Motion_repeated []
  g_law_tape : mg "_law_tape" = some (.ref a.law_tape)
  F_law_tape : Fun K "_law_tape" "_law_tape" s_law_tape a.law_tape a.law_tape_d
  b_law_tape : Binds K a.law_tape_d P_law_tape []
  g_law_draw : mg "_law_draw" = some (.ref a.law_draw)
  F_law_draw : Fun K "_law_draw" "_law_draw" s_law_draw a.law_draw a.law_draw_d
  b_law_draw : Binds K a.law_draw_d P_law_draw []
  g_law_great : mg "_law_great" = some (.ref a.law_great)
  F_law_great : Fun K "_law_great" "_law_great" s_law_great a.law_great a.law_great_d
  b_law_great : Binds K a.law_great_d P_law_great []
  g_law_place : mg "_law_place" = some (.ref a.law_place)
  F_law_place : Fun K "_law_place" "_law_place" s_law_place a.law_place a.law_place_d
  b_law_place : Binds K a.law_place_d P_law_place []
  g_law_kinds : mg "_law_kinds" = some (.ref a.law_kinds)
  F_law_kinds : Fun K "_law_kinds" "_law_kinds" s_law_kinds a.law_kinds a.law_kinds_d
  b_law_kinds : Binds K a.law_kinds_d P_law_kinds []
  g_law_heard : mg "_law_heard" = some (.ref a.law_heard)
  F_law_heard : Fun K "_law_heard" "_law_heard" s_law_heard a.law_heard a.law_heard_d
  b_law_heard : Binds K a.law_heard_d P_law_heard []
  g_law : mg "law" = some (.ref a.law)
  FC_law : FunC K "law" "law" s_law a.law a.law_d a.cc_law
  ch_law : PySem.W.codeHdIn K a.cc_law a.PT_law = true
  nP_law : K.lookup a.PT_law = none
  F_law : Fun K "law" "law" s_law a.law a.law_d
  b_law : Binds K a.law_d P_law []
  z_bool : mg "bool" = none
  z_int : mg "int" = none
  z_isinstance : mg "isinstance" = none
  z_len : mg "len" = none
  z_list : mg "list" = none
  z_range : mg "range" = none
  z_repr : mg "repr" = none
  z_str : mg "str" = none
  z_tuple : mg "tuple" = none
  g_CarpetError : mg "CarpetError" = some (.ref a.C_CarpetError)
  ki_InvalidPlace : PySem.W.kitOne K (.ref a.C_InvalidPlace) (.ref a.C_CarpetError) = some true
  ki_InvalidMotion : PySem.W.kitOne K (.ref a.C_InvalidMotion) (.ref a.C_CarpetError) = some true
  ki_InvalidNumber : PySem.W.kitOne K (.ref a.C_InvalidNumber) (.ref a.C_CarpetError) = some true
  em_InvalidPlace_InvalidPlace : PySem.W.exmOne K (.ref a.C_InvalidPlace) (.ref a.C_InvalidPlace) = some true
  em_InvalidPlace_InvalidMotion : PySem.W.exmOne K (.ref a.C_InvalidPlace) (.ref a.C_InvalidMotion) = some false
  em_InvalidPlace_InvalidNumber : PySem.W.exmOne K (.ref a.C_InvalidPlace) (.ref a.C_InvalidNumber) = some false
  em_InvalidMotion_InvalidPlace : PySem.W.exmOne K (.ref a.C_InvalidMotion) (.ref a.C_InvalidPlace) = some false
  em_InvalidMotion_InvalidMotion : PySem.W.exmOne K (.ref a.C_InvalidMotion) (.ref a.C_InvalidMotion) = some true
  em_InvalidMotion_InvalidNumber : PySem.W.exmOne K (.ref a.C_InvalidMotion) (.ref a.C_InvalidNumber) = some false
  em_InvalidNumber_InvalidPlace : PySem.W.exmOne K (.ref a.C_InvalidNumber) (.ref a.C_InvalidPlace) = some false
  em_InvalidNumber_InvalidMotion : PySem.W.exmOne K (.ref a.C_InvalidNumber) (.ref a.C_InvalidMotion) = some false
  em_InvalidNumber_InvalidNumber : PySem.W.exmOne K (.ref a.C_InvalidNumber) (.ref a.C_InvalidNumber) = some true
  t_dfl0 : KT K a.dfl0 [V.int 0, V.int 0]
  c_KINDS : ClX.CVal K a.C_Motion (.type "type") "KINDS" (V.ref a.KINDS) (.ref a.KINDS)
  t_KINDS : KT K a.KINDS [V.str "none", V.str "left", V.str "half", V.str "right", V.str "flip", V.str "mirror", V.str "swap", V.str "cross"]
  n_kind : NoAttr K a.C_Motion "_kind"
  n_shift : NoAttr K a.C_Motion "_shift"
  cr_Motion : ClX.CRead K a.C_Motion (.type "type")
local macro_rules | `(tactic| walk_at "up") => `(tactic| first
  | assumption
  | (refine' IT.mv ?s ?g; (case s => assumption); (case g => walk_at "up"))
  | (refine' IT.k ?g; (case g => walk_at "up"))
  | (refine' IK.mv ?s ?g; (case s => assumption); (case g => walk_at "up"))
  | (refine' Tape.mvN ?s ?g; (case s => assumption); (case g => walk_at "up"))
  | (refine' Tape.mvS ?s ?g; (case s => assumption); (case g => walk_at "up"))
  | (refine' At.tup ?s ?g; (case s => assumption); (case g => walk_at "up"))
  | (refine' At.ins ?s ?g; (case s => assumption); (case g => walk_at "up"))
  | (refine' At.lst ?s ?g; (case s => assumption); (case g => walk_at "up"))
  | (refine' At.lstS ?s ?n ?g; (case s => assumption); (case n => assumption); (case g => walk_at "up"))
  | fail)
local macro_rules | `(tactic| walk_at "st") => `(tactic| first
  | assumption
  | exact Stp.refl _ _
  | (refine' Stp.w ?s; (case s => assumption))
  | (refine' Stp.trans ?g ?s; (case s => (first | assumption | (refine' Stp.w ?u; (case u => assumption)))); (case g => walk_at "st"))
  | fail)
local macro_rules | `(tactic| walk_at "bT") => `(tactic| first
  | decide
  | (simp only [Bool.not_eq_true', Bool.not_eq_false', decide_eq_true_eq, decide_eq_false_iff_not]; omega)
  | fail)
local macro_rules | `(tactic| walk_at "sd") => `(tactic| first | assumption | decide | omega | fail)
local macro_rules | `(tactic| walk_at "r") => `(tactic| first
  | (with_reducible refine r_seq ?_)
  | (with_reducible refine r_asg ?_)
  | ((with_reducible refine' r_var ?h ?k); (case h => rfl))
  | (with_reducible refine r_c ?_)
  | (with_reducible refine r_op ?_)
  | (with_reducible refine r_un ?_)
  | (with_reducible refine r_nil ?_)
  | (with_reducible refine r_cons ?_)
  | (with_reducible refine r_tup ?_)
  | (with_reducible refine r_lst ?_)
  | (with_reducible refine r_cbLen ?_)
  | (with_reducible refine r_cbInt ?_)
  | (with_reducible refine r_cbRepr ?_)
  | (with_reducible refine r_cbTup ?_)
  | (with_reducible refine r_cbLst ?_)
  | (with_reducible refine r_cb ?_)
  | (with_reducible refine r_prop ?_)
  | (with_reducible refine r_andV ?_)
  | (with_reducible refine r_orV ?_)
  | (with_reducible refine r_notV ?_)
  | (with_reducible refine r_chain ?_)
  | (with_reducible refine r_ifE ?_)
  | (with_reducible refine r_test ?_)
  | (with_reducible refine r_B ?_)
  | (with_reducible refine r_and ?_)
  | (with_reducible refine r_or ?_)
  | (with_reducible refine r_not ?_)
  | (with_reducible refine r_yes ?_)
  | (with_reducible refine r_k ?_)
  | (with_reducible refine r_kV ?_)
  | (with_reducible refine r_next ?_)
  | (with_reducible refine r_drop ?_)
  | (with_reducible refine r_ret ?_)
  | (with_reducible refine r_ifS ?_)
  | (with_reducible refine r_par ?_)
  | (with_reducible refine r_par1 ?_)
  | (with_reducible refine r_gname ?_)
  | (with_reducible refine r_gnil ?_)
  | (with_reducible refine r_gcons ?_)
  | ((with_reducible refine' r_unpack2 ?h ?k); (case h => walk_at "up"))
  | ((with_reducible refine' r_unpack3 ?h ?k); (case h => walk_at "up"))
  | (with_reducible refine r_add ?_)
  | (with_reducible refine r_sub ?_)
  | (with_reducible refine r_neg ?_)
  | ((with_reducible refine' r_mod ?h ?k); (case h => walk_at "sd"))
  | ((with_reducible refine' r_div ?h ?k); (case h => walk_at "sd"))
  | ((with_reducible refine' r_mul ?h ?k); (case h => walk_at "sd"))
  | ((with_reducible refine' r_mulW ?h ?k); (case h => walk_at "sd"))
  | ((with_reducible refine' r_pow ?h ?k); (case h => (show (0 : Int) ≤ _ ∧ _ ∧ _; decide)))
  | (with_reducible refine r_lt ?_)
  | (with_reducible refine r_le ?_)
  | (with_reducible refine r_gt ?_)
  | (with_reducible refine r_ge ?_)
  | (with_reducible refine r_eqI ?_)
  | (with_reducible refine r_neI ?_)
  | (with_reducible refine r_eqS ?_)
  | (with_reducible refine r_neS ?_)
  | ((with_reducible refine' r_eqT ?h ?g ?k); (case h => walk_at "up"); (case g => walk_at "up"))
  | ((with_reducible refine' r_neT ?h ?g ?k); (case h => walk_at "up"); (case g => walk_at "up"))
  | ((with_reducible refine' r_ix0 ?h ?k); (case h => walk_at "up"))
  | ((with_reducible refine' r_ix1 ?h ?k); (case h => walk_at "up"))
  | ((with_reducible refine' r_ix2 ?h ?k); (case h => walk_at "up"))
  | (with_reducible refine r_newI2 (fun v H2 S I => ?_))
  | (with_reducible refine r_newI3 (fun v H2 S I => ?_))
  | (with_reducible refine r_newL1 (fun p H2 S hp np => ?_))
  | (with_reducible refine r_newL2 (fun p H2 S hp np => ?_))
  | (with_reducible refine r_newL3 (fun p H2 S hp np => ?_))
  | (with_reducible refine r_T ?_)
  | (with_reducible refine r_F ?_)
  | fail)
local macro_rules | `(tactic| walk_at "go") => `(tactic| repeat (walk_at "r"))
local macro_rules | `(tactic| walk_at "r") => `(tactic| first
  | (with_reducible refine r_call0 ?_)
  | (with_reducible refine r_meth0 ?_)
  | (with_reducible refine r_make0 ?_)
  | (with_reducible refine r_isiII ?_)
  | (with_reducible refine r_isiIB ?_)
  | ((with_reducible refine' r_isiTT ?h ?k); (case h => walk_at "up"))
  | ((with_reducible refine' r_len2 ?h ?k); (case h => walk_at "up"))
  | ((with_reducible refine' r_len3 ?h ?k); (case h => walk_at "up"))
  | ((with_reducible refine' r_lenL ?h ?k); (case h => walk_at "up"))
  | (with_reducible refine r_int1 ?_)
  | (with_reducible refine r_int1B ?_)
  | (with_reducible refine r_nT ?_)
  | (with_reducible refine r_nF ?_)
  | (with_reducible refine r_gcd ?_)
  | (with_reducible refine r_gsub ?_)
  | (with_reducible refine r_fld ?_)
  | (with_reducible refine r_p6 ?_)
  | (with_reducible refine r_p9 ?_)
  | (with_reducible refine r_p10 ?_)
  | (with_reducible refine r_p11 ?_)
  | (with_reducible refine r_p12 ?_)
  | (with_reducible refine r_p18 ?_)
  | (with_reducible refine r_p20 ?_)
  | (with_reducible refine r_p26 ?_)
  | (with_reducible refine r_p27 ?_)
  | (with_reducible refine r_p30 ?_)
  | ((with_reducible refine' r_iF ?h ?k); (case h => walk_at "bT"))
  | ((with_reducible refine' r_iT ?h ?k); (case h => walk_at "bT"))
  | (with_reducible refine r_sfld ?_)
  | (with_reducible refine r_sl ?_)
  | (with_reducible refine r_noPart ?_)
  | (with_reducible refine r_part ?_)
  | (with_reducible refine r_pk ?_)
  | ((with_reducible refine' r_unl2 ?h ?k); (case h => walk_at "up"))
  | ((with_reducible refine' r_ixLi ?h ?h0 ?hn ?k); (case h => walk_at "up"); (case h0 => walk_at "sd"); (case hn => rfl))
  | fail)

local macro_rules | `(tactic| walk_at "r") => `(tactic| first
  | (with_reducible refine r_for ?_)
  | (with_reducible refine r_lc ?_)
  | (with_reducible refine r_iList ?_)
  | (with_reducible refine r_iTup ?_)
  | (with_reducible refine r_iStr ?_)
  | (with_reducible refine it_s ?_)
  | (with_reducible refine r_iRng1 ?_)
  | (with_reducible refine r_iRng2 ?_)
  | (with_reducible refine r_iEnumA ?_)
  | (with_reducible refine r_bm ?_)
  | (with_reducible refine r_inS ?_)
  | (with_reducible refine r_cbAll ?_)
  | (with_reducible refine r_cbIsiT ?_)
  | (with_reducible refine r_cbLenS ?_)
  | (with_reducible refine r_makeK0 ?_)
  | (with_reducible refine r_makeK1 ?_)
  | (with_reducible refine mkk1 ?_)
  | fail)
local macro_rules | `(tactic| walk_at "up") => `(tactic| first
  | (refine' SqL.mvN ?s ?g; (case s => assumption); (case g => walk_at "up"))
  | (refine' SqT.mvS ?s ?g; (case s => assumption); (case g => walk_at "up"))
  | fail)

section
variable {P : Program} {w : World} {K : PySem.W.Frag} {mg : Str → Option Value} {base : Heap} {ad : Ad} {H : Hp} {Q : VK} {E : XK} {i j x y : Int} {v : V}
/-! ### checks of any value -/
def IntIs (K : PySem.W.Frag) (H : Hp) (v : V) : Option Int → Prop
  | some i => v = .int i
  | none => (∃ b, v = .bl b) ∨ ∃ t, TyX K H v t ∧ PySem.W.kitOne K t (.type "int") = some false
def sp_is_integer (K : PySem.W.Frag) : Sp := fun vs H Q _ => ∃ v o, vs = [v] ∧ IntIs K H v o ∧ Q (.bl o.isSome) H
theorem do_is_integer {o : Option Int} (h : IntIs K H v o) (q : Q (.bl o.isSome) H) : sp_is_integer K [v] H Q E := ⟨v, o, rfl, h, q⟩
theorem ok_is_integer (T : Txt K mg ad) : FnG P w K mg base CX0 1 ad.is_integer ad.is_integer_d P_is_integer (sp_is_integer K) := by
  refine Fun.g T.F_is_integer sc_is_integer (fun vs H Q E h => ?_) (fun cdv A outer s H vs Q E hr hg h => ?_)
  · obtain ⟨v, o, rfl, _⟩ := h
    rfl
  · obtain ⟨v, o, rfl, hv, q⟩ := h
    refine ⟨_, (pss_one (ps_ret (pe_and (pe_callB call_isi (by rfl) T.z_isinstance (by decide +kernel) (pa_cons (pv 0) (pa_cons (pe_bltn (v := V.ty "int") (u := Value.type "int") (by rfl) T.z_int (by decide +kernel) rfl) pa_nil))) (pe_one (pe_not (pe_callB call_isi (by rfl) T.z_isinstance (by decide +kernel) (pa_cons (pv 0) (pa_cons (pe_bltn (v := V.ty "bool") (u := Value.type "bool") (by rfl) T.z_bool (by decide +kernel) rfl) pa_nil)))))))), ?_⟩
    walk_at "go"
    cases o with
    | some i =>
      cases (show v = .int i from hv)
      walk_at "go"
      exact q
    | none =>
      rcases hv with ⟨b, rfl⟩ | ⟨t, ty, e⟩
      · refine r_isi (.ty _) (.base (.bl b)) (kit_ty (b := "int") (r := true) (by decide +kernel)) ?_
        walk_at "go"
        refine r_isi (.ty _) (.base (.bl b)) (kit_ty (b := "bool") (r := true) (by decide +kernel)) ?_
        walk_at "go"
        exact q
      · refine r_isi (.ty _) ty e ?_
        walk_at "go"
        exact q
def PlIs (K : PySem.W.Frag) (H : Hp) (v : V) : Option (Int × Int) → Prop
  | some (x, y) => IK K H v [x, y]
  | none => (∃ t, TyX K H v t ∧ PySem.W.kitOne K t (.type "tuple") = some false) ∨ ∃ p xs, v = .ref p ∧ SqT K H p xs ∧ xs.length ≤ 1000 ∧
      (xs.length ≠ 2 ∨ ∃ a b, xs = [a, b] ∧ (IntIs K H a none ∨ ∃ i, a = .int i ∧ IntIs K H b none))
def sp_is_place (K : PySem.W.Frag) : Sp := fun vs H Q _ => ∃ v o, vs = [v] ∧ PlIs K H v o ∧ Q (.bl o.isSome) H
theorem do_is_place {o : Option (Int × Int)} (h : PlIs K H v o) (q : Q (.bl o.isSome) H) : sp_is_place K [v] H Q E := ⟨v, o, rfl, h, q⟩
theorem ok_is_place (T : Txt K mg ad) : FnG P w K mg base CX0 2 ad.is_place ad.is_place_d P_is_place (sp_is_place K) := by
  have G_is_integer := ok_is_integer (P := P) (w := w) (base := base) T
  refine Fun.g T.F_is_place sc_is_place (fun vs H Q E h => ?_) (fun cdv A outer s H vs Q E hr hg h => ?_)
  · obtain ⟨v, o, rfl, _⟩ := h
    rfl
  · obtain ⟨v, o, rfl, hv, q⟩ := h
    refine ⟨_, (pss_cons (ps_if (PW.pt (pw_or (pt_not (pt_val (pe_callB call_isi (by rfl) T.z_isinstance (by decide +kernel) (pa_cons (pv 0) (pa_cons (pe_bltn (v := V.ty "tuple") (u := Value.type "tuple") (by rfl) T.z_tuple (by decide +kernel) rfl) pa_nil))))) (pw_or1 (pt_cmpR op_ne (pe_callB call_len_seq (by rfl) T.z_len (by decide +kernel) (pa_cons (pv 0) pa_nil)) pe_int (nomark _)))))
      (pss_one (ps_ret pe_bl)) pss_nil)
      (pss_one (ps_ret (pe_and (peg_call G_is_integer (hr.mono (by decide)) hg (by rfl) T.g_is_integer T.F_is_integer.kp T.b_is_integer .nil pass0 (pa_cons (pe_ix ix_seq (pv 0) pe_int (fun _ _ => rfl)) pa_nil)) (pe_one (peg_call G_is_integer (hr.mono (by decide)) hg (by rfl) T.g_is_integer T.F_is_integer.kp T.b_is_integer .nil pass0 (pa_cons (pe_ix ix_seq (pv 0) pe_int (fun _ _ => rfl)) pa_nil))))))), ?_⟩
    walk_at "go"
    cases o with
    | some xy =>
      obtain ⟨x, y⟩ := xy
      have hv : IK K H v [x, y] := hv
      walk_at "go"
      refine do_is_integer (o := some x) rfl ?_
      refine ⟨_, rfl, r_iT rfl ?_⟩
      walk_at "go"
      refine do_is_integer (o := some y) rfl ?_
      exact q
    | none =>
      rcases hv with ⟨t, ty, e⟩ | ⟨p, xs, rfl, hp, hl, hc⟩
      · refine r_isi (.ty _) ty e ?_
        walk_at "go"
        exact q
      · refine r_isi (.ty _) (ty_tup hp) (kit_ty (r := true) (by decide +kernel)) ?_
        walk_at "go"
        refine r_lenA (.inr hp) ?_
        walk_at "go"
        rcases hc with hc | ⟨a, b, rfl, hc⟩
        · refine r_nN (by omega) ?_
          walk_at "go"
          exact q
        · refine r_nX rfl ?_
          walk_at "go"
          refine r_ixA (n := 0) (.inr hp) rfl ?_
          walk_at "go"
          rcases hc with hc | ⟨i, rfl, hc⟩
          · refine do_is_integer hc ?_
            exact ⟨_, rfl, r_iF rfl q⟩
          · refine do_is_integer (o := some i) rfl ?_
            refine ⟨_, rfl, r_iT rfl ?_⟩
            walk_at "go"
            refine r_ixA (n := 1) (.inr hp) rfl ?_
            walk_at "go"
            exact do_is_integer hc q
/-- an error that keeps one value -/
abbrev Er (E : XK) (C : Addr) (y : V) (H : Hp) : Prop := ∀ H' d, Stp none H H' → H' d = none → E (.ref C) (some d) (upd H' d (.xd [("value", y)]))
def sp_check_place (K : PySem.W.Frag) (C : Addr) : Sp := fun vs H Q E => ∃ v o, vs = [v] ∧ PlIs K H v o ∧ (o.isSome = true → Q .non H) ∧ (o = none → ∀ d, H d = none → E (.ref C) (some d) (upd H d (.xd [("value", v)])))
theorem ok_check_place (T : Txt K mg ad) : FnG P w K mg base (L2.CX P w) 3 ad.check_place ad.check_place_d P_check_place (sp_check_place K ad.C_InvalidPlace) := by
  have G_is_place := ok_is_place (P := P) (w := w) (base := base) T
  have G_InvalidPlace_init := xinit_ok (P := P) (w := w) (K := K) (mg := mg) (base := base) (k := 0) T.F_InvalidPlace_init sc_InvalidPlace_init rfl (.inl rfl) (.inl rfl) rfl rfl
  refine Fun.g T.F_check_place sc_check_place (fun vs H Q E h => ?_) (fun cdv A outer s H vs Q E hr hg h => ?_)
  · obtain ⟨v, o, rfl, _⟩ := h
    rfl
  · obtain ⟨v, o, rfl, hv, q1, q2⟩ := h
    refine ⟨_, (pss_one (ps_if (pt_not (pt_val (peg_call G_is_place (hr.mono (by decide)) hg (by rfl) T.g_is_place T.F_is_place.kp T.b_is_place .nil pass0 (pa_cons (pv 0) pa_nil))))
      (pss_one (ps_x rfl takes_cx (pmk_x T.x_InvalidPlace G_InvalidPlace_init (hr.mono (by decide)) T.b_InvalidPlace_init (by rfl) T.g_InvalidPlace (pv 0)))) pss_nil)), ?_⟩
    walk_at "go"
    refine do_is_place hv ?_
    cases o with
    | some xy =>
      walk_at "go"
      exact q1 rfl
    | none =>
      refine ⟨_, rfl, ?_⟩
      refine r_iT rfl ?_
      walk_at "go"
      exact q2 rfl
end
end Law

set_option Elab.async false
set_option linter.all false
set_option maxRecDepth 100000
set_option maxHeartbeats 4000000
namespace Law
open PySem PySem.Spec PyProof.Rows L2 MV TL
local macro_rules | `(tactic| walk_at "up") => `(tactic| first
  | assumption
  | (refine' IT.mv ?s ?g; (case s => assumption); (case g => walk_at "up"))
  | (refine' IT.k ?g; (case g => walk_at "up"))
  | (refine' IK.mv ?s ?g; (case s => assumption); (case g => walk_at "up"))
  | (refine' Tape.mvN ?s ?g; (case s => assumption); (case g => walk_at "up"))
  | (refine' Tape.mvS ?s ?g; (case s => assumption); (case g => walk_at "up"))
  | (refine' At.tup ?s ?g; (case s => assumption); (case g => walk_at "up"))
  | (refine' At.ins ?s ?g; (case s => assumption); (case g => walk_at "up"))
  | (refine' At.lst ?s ?g; (case s => assumption); (case g => walk_at "up"))
  | (refine' At.lstS ?s ?n ?g; (case s => assumption); (case n => assumption); (case g => walk_at "up"))
  | fail)
local macro_rules | `(tactic| walk_at "st") => `(tactic| first
  | assumption
  | exact Stp.refl _ _
  | (refine' Stp.w ?s; (case s => assumption))
  | (refine' Stp.trans ?g ?s; (case s => (first | assumption | (refine' Stp.w ?u; (case u => assumption)))); (case g => walk_at "st"))
  | fail)
local macro_rules | `(tactic| walk_at "bT") => `(tactic| first
  | decide
  | (simp only [Bool.not_eq_true', Bool.not_eq_false', decide_eq_true_eq, decide_eq_false_iff_not]; omega)
  | fail)
local macro_rules | `(tactic| walk_at "sd") => `(tactic| first | assumption | decide | omega | fail)
local macro_rules | `(tactic| walk_at "r") => `(tactic| first
  | (with_reducible refine r_seq ?_)
  | (with_reducible refine r_asg ?_)
  | ((with_reducible refine' r_var ?h ?k); (case h => rfl))
  | (with_reducible refine r_c ?_)
  | (with_reducible refine r_op ?_)
  | (with_reducible refine r_un ?_)
  | (with_reducible refine r_nil ?_)
  | (with_reducible refine r_cons ?_)
  | (with_reducible refine r_tup ?_)
  | (with_reducible refine r_lst ?_)
  | (with_reducible refine r_cbLen ?_)
  | (with_reducible refine r_cbInt ?_)
  | (with_reducible refine r_cbRepr ?_)
  | (with_reducible refine r_cbTup ?_)
  | (with_reducible refine r_cbLst ?_)
  | (with_reducible refine r_cb ?_)
  | (with_reducible refine r_prop ?_)
  | (with_reducible refine r_andV ?_)
  | (with_reducible refine r_orV ?_)
  | (with_reducible refine r_notV ?_)
  | (with_reducible refine r_chain ?_)
  | (with_reducible refine r_ifE ?_)
  | (with_reducible refine r_test ?_)
  | (with_reducible refine r_B ?_)
  | (with_reducible refine r_and ?_)
  | (with_reducible refine r_or ?_)
  | (with_reducible refine r_not ?_)
  | (with_reducible refine r_yes ?_)
  | (with_reducible refine r_k ?_)
  | (with_reducible refine r_kV ?_)
  | (with_reducible refine r_next ?_)
  | (with_reducible refine r_drop ?_)
  | (with_reducible refine r_ret ?_)
  | (with_reducible refine r_ifS ?_)
  | (with_reducible refine r_par ?_)
  | (with_reducible refine r_par1 ?_)
  | (with_reducible refine r_gname ?_)
  | (with_reducible refine r_gnil ?_)
  | (with_reducible refine r_gcons ?_)
  | ((with_reducible refine' r_unpack2 ?h ?k); (case h => walk_at "up"))
  | ((with_reducible refine' r_unpack3 ?h ?k); (case h => walk_at "up"))
  | (with_reducible refine r_add ?_)
  | (with_reducible refine r_sub ?_)
  | (with_reducible refine r_neg ?_)
  | ((with_reducible refine' r_mod ?h ?k); (case h => walk_at "sd"))
  | ((with_reducible refine' r_div ?h ?k); (case h => walk_at "sd"))
  | ((with_reducible refine' r_mul ?h ?k); (case h => walk_at "sd"))
  | ((with_reducible refine' r_mulW ?h ?k); (case h => walk_at "sd"))
  | ((with_reducible refine' r_pow ?h ?k); (case h => (show (0 : Int) ≤ _ ∧ _ ∧ _; decide)))
  | (with_reducible refine r_lt ?_)
  | (with_reducible refine r_le ?_)
  | (with_reducible refine r_gt ?_)
  | (with_reducible refine r_ge ?_)
  | (with_reducible refine r_eqI ?_)
  | (with_reducible refine r_neI ?_)
  | (with_reducible refine r_eqS ?_)
  | (with_reducible refine r_neS ?_)
  | ((with_reducible refine' r_eqT ?h ?g ?k); (case h => walk_at "up"); (case g => walk_at "up"))
  | ((with_reducible refine' r_neT ?h ?g ?k); (case h => walk_at "up"); (case g => walk_at "up"))
  | ((with_reducible refine' r_ix0 ?h ?k); (case h => walk_at "up"))
  | ((with_reducible refine' r_ix1 ?h ?k); (case h => walk_at "up"))
  | ((with_reducible refine' r_ix2 ?h ?k); (case h => walk_at "up"))
  | (with_reducible refine r_newI2 (fun v H2 S I => ?_))
  | (with_reducible refine r_newI3 (fun v H2 S I => ?_))
  | (with_reducible refine r_newL1 (fun p H2 S hp np => ?_))
  | (with_reducible refine r_newL2 (fun p H2 S hp np => ?_))
  | (with_reducible refine r_newL3 (fun p H2 S hp np => ?_))
  | (with_reducible refine r_T ?_)
  | (with_reducible refine r_F ?_)
  | fail)
local macro_rules | `(tactic| walk_at "go") => `(tactic| repeat (walk_at "r"))
local macro_rules | `(tactic| walk_at "r") => `(tactic| first
  | (with_reducible refine r_call0 ?_)
  | (with_reducible refine r_meth0 ?_)
  | (with_reducible refine r_make0 ?_)
  | (with_reducible refine r_isiII ?_)
  | (with_reducible refine r_isiIB ?_)
  | ((with_reducible refine' r_isiTT ?h ?k); (case h => walk_at "up"))
  | ((with_reducible refine' r_len2 ?h ?k); (case h => walk_at "up"))
  | ((with_reducible refine' r_len3 ?h ?k); (case h => walk_at "up"))
  | ((with_reducible refine' r_lenL ?h ?k); (case h => walk_at "up"))
  | (with_reducible refine r_int1 ?_)
  | (with_reducible refine r_int1B ?_)
  | (with_reducible refine r_nT ?_)
  | (with_reducible refine r_nF ?_)
  | (with_reducible refine r_gcd ?_)
  | (with_reducible refine r_gsub ?_)
  | (with_reducible refine r_fld ?_)
  | (with_reducible refine r_p6 ?_)
  | (with_reducible refine r_p9 ?_)
  | (with_reducible refine r_p10 ?_)
  | (with_reducible refine r_p11 ?_)
  | (with_reducible refine r_p12 ?_)
  | (with_reducible refine r_p18 ?_)
  | (with_reducible refine r_p20 ?_)
  | (with_reducible refine r_p26 ?_)
  | (with_reducible refine r_p27 ?_)
  | (with_reducible refine r_p30 ?_)
  | ((with_reducible refine' r_iF ?h ?k); (case h => walk_at "bT"))
  | ((with_reducible refine' r_iT ?h ?k); (case h => walk_at "bT"))
  | (with_reducible refine r_sfld ?_)
  | (with_reducible refine r_sl ?_)
  | (with_reducible refine r_noPart ?_)
  | (with_reducible refine r_part ?_)
  | (with_reducible refine r_pk ?_)
  | ((with_reducible refine' r_unl2 ?h ?k); (case h => walk_at "up"))
  | ((with_reducible refine' r_ixLi ?h ?h0 ?hn ?k); (case h => walk_at "up"); (case h0 => walk_at "sd"); (case hn => rfl))
  | fail)

section
variable {P : Program} {w : World} {K : PySem.W.Frag} {mg : Str → Option Value} {base : Heap} {ad : Ad} {H : Hp} {Q : VK} {E : XK} {i j x y : Int} {v : V}
/-! ### draws -/
def sp_law_tape (K : PySem.W.Frag) : Sp := fun vs H Q _ => ∃ (l : Addr) (ns : List Int), vs = [.ref l] ∧ SqL K H l (ns.map V.int) ∧ ∀ t H', Stp none H H' → H t = none → Tape H' t → Q (.ref t) H'
theorem ok_law_tape (T : Txt K mg ad) : FnG P w K mg base CX0 1 ad.law_tape ad.law_tape_d P_law_tape (sp_law_tape K) := by
  refine Fun.g T.F_law_tape sc_law_tape (fun vs H Q E h => ?_) (fun cdv A outer s H vs Q E hr hg h => ?_)
  · obtain ⟨l, ns, rfl, _⟩ := h
    rfl
  · obtain ⟨l, ns, rfl, hl, q⟩ := h
    refine ⟨_, (pss_one (ps_ret (pe_lst (pa_cons (pe_callTy call_list_of (by rfl) T.z_list (by decide +kernel) (pa_cons (pe_slice sl_list (pv 0) po_none (po_some pe_int)) pa_nil)) (pa_cons pe_int (pa_cons pe_int (pa_cons pe_int pa_nil))))))), ?_⟩
    walk_at "go"
    refine r_slL hl fun l1 H1 S1 h1 n1 => ?_
    walk_at "go"
    refine r_lstL (SqL.of h1) fun l2 H2 S2 h2 n2 => ?_
    walk_at "go"
    refine r_newL (sz100 (Nat.le_of_ble_eq_true rfl)) fun t H3 S3 h3 n3 => ?_
    obtain ⟨ms, e⟩ := cutV_map ns none (some 63)
    rw [e] at h2
    have nl : l2 ≠ t := ne_of_none h2 n3
    refine q t H3 (by walk_at "st") ?_ ⟨l2, ms, 0, 0, 17, nl, h3, S3.all _ _ h2, by decide, by decide, by decide⟩
    cases z : H t with
    | none => rfl
    | some o => exact absurd (S2.all _ _ (S1.all _ _ z)) (by rw [n3]; simp)
theorem do_law_tape {l : Addr} {ns : List Int} (h : SqL K H l (ns.map V.int)) (k : ∀ t H', Stp none H H' → H t = none → Tape H' t → Q (.ref t) H') :
    sp_law_tape K [.ref l] H Q E := ⟨l, ns, rfl, h, k⟩

def sp_law_draw : Sp := fun vs H Q _ => ∃ t m, vs = [.ref t, .int m] ∧ Tape H t ∧ 0 < m ∧ m < 10 ^ 30 ∧ ∀ r H', 0 ≤ r → r < m → Stp (some t) H H' → Q (.int r) H'
theorem ok_law_draw (T : Txt K mg ad) : FnG P w K mg base CX0 1 ad.law_draw ad.law_draw_d P_law_draw sp_law_draw := by
  refine Fun.g T.F_law_draw sc_law_draw (fun vs H Q E h => ?_) (fun cdv A outer s H vs Q E hr hg h => ?_)
  · obtain ⟨t, m, rfl, _⟩ := h
    rfl
  · obtain ⟨t, m, rfl, hT, m0, m1, q⟩ := h
    obtain ⟨l, ns, a, b, c, X⟩ := hT.is
    have ht := X.at_
    have hl := X.li
    have a0 := X.a0
    have c0 := X.c0
    have c1 := X.c1
    have dv : ∀ z : Int, CDivW z m := fun z => divW_of m0 (by omega)
    have rm : ∀ z : Int, 0 ≤ z % m ∧ z % m < m := fun z => ⟨Int.emod_nonneg _ (by omega), Int.emod_lt_of_pos _ m0⟩
    refine ⟨_, (pss_cons (ps_if (pt_cmpR op_gt (pe_ix ix_seq (pv 0) pe_int (fun _ _ => rfl)) pe_int (nomark _))
      (pss_cons (ps_set (i := 2) sc_law_draw.nd rfl (Or.inl rfl) (pe_op op_mod (pe_ix ix_seq (pv 0) pe_int (fun _ _ => rfl)) (pv 1)))
      (pss_cons (ps_asg (pe_op op_fdivW (pe_ix ix_seq (pv 0) pe_int (fun _ _ => rfl)) (pv 1)) (pg_sub (pv 0) pe_int set_list))
      (pss_one (ps_ret (pv 2))))) pss_nil)
      (pss_cons (ps_set (i := 3) sc_law_draw.nd rfl (Or.inl rfl) pe_int)
      (pss_cons (ps_if (pt_cmpR op_lt (pe_ix ix_seq (pv 0) pe_int (fun _ _ => rfl)) (pe_callB call_len_seq (by rfl) T.z_len (by decide +kernel) (pa_cons (pe_ix ix_seq (pv 0) pe_int (fun _ _ => rfl)) pa_nil)) (nomark _))
      (pss_one (ps_set (i := 3) sc_law_draw.nd rfl (Or.inl rfl) (pe_ix ix_seq (pe_ix ix_seq (pv 0) pe_int (fun _ _ => rfl)) (pe_ix ix_seq (pv 0) pe_int (fun _ _ => rfl)) (fun _ _ => rfl)))) pss_nil)
      (pss_cons (ps_asg (pe_op op_add (pe_ix ix_seq (pv 0) pe_int (fun _ _ => rfl)) pe_int) (pg_sub (pv 0) pe_int set_list))
      (pss_cons (ps_if (pt_cmpR op_ge (pv 3) (pe_op op_pow pe_int pe_int) (nomark _))
      (pss_cons (ps_asg (pe_op op_fdivW (pv 3) (pv 1)) (pg_sub (pv 0) pe_int set_list))
      (pss_one (ps_ret (pe_op op_mod (pv 3) (pv 1))))) pss_nil)
      (pss_cons (ps_set (i := 4) sc_law_draw.nd rfl (Or.inl rfl) (pe_op op_add (pe_op op_add (pe_op op_mod (pv 3) pe_int) (pe_op op_mul pe_int (pe_ix ix_seq (pv 0) pe_int (fun _ _ => rfl)))) pe_int))
      (pss_cons (ps_asg (pe_op op_mod (pe_op op_add (pe_op op_mul (pe_ix ix_seq (pv 0) pe_int (fun _ _ => rfl)) pe_int) (pv 4)) pe_int) (pg_sub (pv 0) pe_int set_list))
      (pss_one (ps_ret (pe_op op_mod (pe_op op_mod (pe_op op_pow (pe_ix ix_seq (pv 0) pe_int (fun _ _ => rfl)) pe_int) pe_int) (pv 1))))))))))), ?_⟩
    walk_at "go"
    refine r_ite (fun hb => ?_) (fun hb => ?_)
    · walk_at "go"
      refine r_div (dv _) ?_
      walk_at "go"
      obtain ⟨S1, X1⟩ := X.put (a' := a) (b' := b / m) a0 c0 c1
      refine r_set2 ht ?_
      walk_at "go"
      exact q _ _ (rm _).1 (rm _).2 S1
    · walk_at "go"
      refine r_ite (fun ha => ?_) (fun ha => ?_)
      · have hz : ∃ z : Int, (ns.map V.int)[a.toNat]? = some (.int z) := by
          rw [List.length_map] at ha
          have : a.toNat < ns.length := by omega
          exact ⟨ns[a.toNat], by rw [List.getElem?_map, List.getElem?_eq_getElem this]; rfl⟩
        obtain ⟨z, hz⟩ := hz
        walk_at "go"
        refine r_ixLi hl a0 hz ?_
        walk_at "go"
        obtain ⟨S1, X1⟩ := X.put (a' := a + 1) (b' := b) (by omega) c0 c1
        refine r_set1 ht ?_
        generalize upd H t (.lst [.ref l, .int (a + 1), .int b, .int c]) = H1 at S1 X1 ⊢
        have ht1 := X1.at_
        walk_at "go"
        refine r_ite (fun hc => ?_) (fun hc => ?_)
        · walk_at "go"
          refine r_div (dv _) ?_
          walk_at "go"
          obtain ⟨S2, X2⟩ := X1.put (a' := a + 1) (b' := z / m) (by omega) c0 c1
          refine r_set2 ht1 ?_
          walk_at "go"
          exact q _ _ (rm _).1 (rm _).2 (S1.trans S2)
        · walk_at "go"
          refine r_mul (.inl ⟨by decide, by decide⟩) ?_
          walk_at "go"
          refine r_mul (.inl ⟨by omega, by omega⟩) ?_
          walk_at "go"
          have rm2 : ∀ z : Int, 0 ≤ z % 2147483647 ∧ z % 2147483647 < 2147483647 := fun z => ⟨Int.emod_nonneg _ (by omega), Int.emod_lt_of_pos _ (by omega)⟩
          obtain ⟨S2, X2⟩ := X1.put (a' := a + 1) (b' := b) (by omega) (rm2 _).1 (rm2 _).2
          refine r_set3 ht1 ?_
          have ht2 := X2.at_
          walk_at "go"
          refine r_pow ?_ ?_
          · have := rm2 (c * 48271 + (z % 2147483647 + 7919 * (a + 1) + 11))
            exact ⟨by decide, by decide, by omega⟩
          walk_at "go"
          exact q _ _ (rm _).1 (rm _).2 (S1.trans S2)
      · walk_at "go"
        obtain ⟨S1, X1⟩ := X.put (a' := a + 1) (b' := b) (by omega) c0 c1
        refine r_set1 ht ?_
        generalize upd H t (.lst [.ref l, .int (a + 1), .int b, .int c]) = H1 at S1 X1 ⊢
        have ht1 := X1.at_
        walk_at "go"
        refine r_mul (.inl ⟨by decide, by decide⟩) ?_
        walk_at "go"
        refine r_mul (.inl ⟨by omega, by omega⟩) ?_
        walk_at "go"
        have rm2 : ∀ z : Int, 0 ≤ z % 2147483647 ∧ z % 2147483647 < 2147483647 := fun z => ⟨Int.emod_nonneg _ (by omega), Int.emod_lt_of_pos _ (by omega)⟩
        obtain ⟨S2, X2⟩ := X1.put (a' := a + 1) (b' := b) (by omega) (rm2 _).1 (rm2 _).2
        refine r_set3 ht1 ?_
        have ht2 := X2.at_
        walk_at "go"
        refine r_pow ?_ ?_
        · have := rm2 (c * 48271 + (0 % 2147483647 + 7919 * (a + 1) + 11))
          exact ⟨by decide, by decide, by omega⟩
        walk_at "go"
        exact q _ _ (rm _).1 (rm _).2 (S1.trans S2)
theorem do_law_draw {t : Addr} {m : Int} (T : Tape H t) (h0 : 0 < m) (h1 : m < 10 ^ 30) (k : ∀ r H', 0 ≤ r → r < m → Stp (some t) H H' → Q (.int r) H') :
    sp_law_draw [.ref t, .int m] H Q E := ⟨t, m, rfl, T, h0, h1, k⟩
local macro_rules | `(tactic| walk_at "dr") => `(tactic| (refine do_law_draw (by walk_at "up") (by first | decide | omega) (by first | decide | omega) ?_))
def sp_law_great : Sp := fun vs H Q _ => ∃ t m, vs = [.ref t, .int m] ∧ Tape H t ∧ 60 ≤ m ∧ m < 10 ^ 30 ∧ ∀ r H', -m < r → r < m → Stp (some t) H H' → Q (.int r) H'
theorem ok_law_great (T : Txt K mg ad) : FnG P w K mg base CX0 2 ad.law_great ad.law_great_d P_law_great sp_law_great := by
  have G_law_draw := ok_law_draw (P := P) (w := w) (base := base) T
  refine Fun.g T.F_law_great sc_law_great (fun vs H Q E h => ?_) (fun cdv A outer s H vs Q E hr hg h => ?_)
  · obtain ⟨t, m, rfl, _⟩ := h
    rfl
  · obtain ⟨t, m, rfl, hT, m0, m1, q⟩ := h
    refine ⟨_, (pss_cons (ps_set (i := 2) sc_law_great.nd rfl (Or.inl rfl) (pe_op op_add (pe_op op_mulW (peg_call G_law_draw (hr.mono (by decide)) hg (by rfl) T.g_law_draw T.F_law_draw.kp T.b_law_draw .nil pass0 (pa_cons (pv 0) (pa_cons (pe_op op_pow pe_int pe_int) pa_nil))) (pe_op op_pow pe_int pe_int)) (pe_op op_mulW (peg_call G_law_draw (hr.mono (by decide)) hg (by rfl) T.g_law_draw T.F_law_draw.kp T.b_law_draw .nil pass0 (pa_cons (pv 0) (pa_cons (pe_op op_pow pe_int pe_int) pa_nil))) (pe_op op_pow pe_int pe_int))))
      (pss_cons (ps_set (i := 3) sc_law_great.nd rfl (Or.inl rfl) (pe_ix ix_seq (pe_lst (pa_cons (peg_call G_law_draw (hr.mono (by decide)) hg (by rfl) T.g_law_draw T.F_law_draw.kp T.b_law_draw .nil pass0 (pa_cons (pv 0) (pa_cons pe_int pa_nil))) (pa_cons (peg_call G_law_draw (hr.mono (by decide)) hg (by rfl) T.g_law_draw T.F_law_draw.kp T.b_law_draw .nil pass0 (pa_cons (pv 0) (pa_cons pe_int pa_nil))) (pa_cons (pe_op op_mod (pe_op op_add (pv 2) (peg_call G_law_draw (hr.mono (by decide)) hg (by rfl) T.g_law_draw T.F_law_draw.kp T.b_law_draw .nil pass0 (pa_cons (pv 0) (pa_cons (pe_op op_pow pe_int pe_int) pa_nil)))) (pv 1)) pa_nil)))) (peg_call G_law_draw (hr.mono (by decide)) hg (by rfl) T.g_law_draw T.F_law_draw.kp T.b_law_draw .nil pass0 (pa_cons (pv 0) (pa_cons pe_int pa_nil))) (fun _ _ => rfl)))
      (pss_one (ps_ret (pe_op op_mulW (pv 3) (pe_ix ix_seq (pe_lst (pa_cons pe_int (pa_cons (pe_un un_neg pe_int) pa_nil))) (peg_call G_law_draw (hr.mono (by decide)) hg (by rfl) T.g_law_draw T.F_law_draw.kp T.b_law_draw .nil pass0 (pa_cons (pv 0) (pa_cons pe_int pa_nil))) (fun _ _ => rfl))))))), ?_⟩
    walk_at "go"
    walk_at "dr"
    intro r1 H1 a1 b1 S1
    walk_at "go"
    refine r_mulW (mulW_of (by omega) (by decide)) ?_
    walk_at "go"
    walk_at "dr"
    intro r2 H2 a2 b2 S2
    walk_at "go"
    refine r_mulW (mulW_of (by omega) (by decide)) ?_
    walk_at "go"
    walk_at "dr"
    intro r3 H3 a3 b3 S3
    walk_at "go"
    walk_at "dr"
    intro r4 H4 a4 b4 S4
    walk_at "go"
    walk_at "dr"
    intro r5 H5 a5 b5 S5
    walk_at "go"
    have e1 : 0 ≤ (r1 * 1000000000000000000 + r2 * 1000000000 + r5) % m := Int.emod_nonneg _ (by omega)
    have e2 : (r1 * 1000000000000000000 + r2 * 1000000000 + r5) % m < m := Int.emod_lt_of_pos _ (by omega)
    rename_i p1 H6 S6 hp1 np1
    generalize (r1 * 1000000000000000000 + r2 * 1000000000 + r5) % m = z at e1 e2 hp1
    have T6 : Tape H6 t := by walk_at "up"
    have nt1 : p1 ≠ t := by
      intro e
      have T5 : Tape H5 t := by walk_at "up"
      obtain ⟨_, _, _, _, _, _, h, _⟩ := T5
      rw [← e, np1] at h
      cases h
    walk_at "dr"
    intro r6 H7 a6 b6 S7
    have hz : ∃ u, [V.int r3, V.int r4, V.int z][r6.toNat]? = some (V.int u) ∧ 0 ≤ u ∧ u < m := by
      have : r6 = 0 ∨ r6 = 1 ∨ r6 = 2 := by omega
      rcases this with rfl | rfl | rfl
      · exact ⟨r3, rfl, by omega, by omega⟩
      · exact ⟨r4, rfl, by omega, by omega⟩
      · exact ⟨z, rfl, by omega, by omega⟩
    obtain ⟨u, hu, u0, u1⟩ := hz
    have hp7 : H7 p1 = some (.lst [V.int r3, V.int r4, V.int z]) := At.lstS S7 nt1 hp1
    refine r_ixLi hp7 a6 hu ?_
    walk_at "go"
    rename_i p2 H8 S8 hp2 np2
    have nt2 : p2 ≠ t := by
      intro e
      have T5 : Tape H7 t := by walk_at "up"
      obtain ⟨_, _, _, _, _, _, h, _⟩ := T5
      rw [← e, np2] at h
      cases h
    walk_at "dr"
    intro r7 H9 a7 b7 S9
    have hp9 : H9 p2 = some (.lst [V.int 1, V.int (-1)]) := At.lstS S9 nt2 hp2
    have : r7 = 0 ∨ r7 = 1 := by omega
    rcases this with rfl | rfl
    · walk_at "go"
      refine r_mulW (mulW_of (by omega) (by decide)) ?_
      exact q _ _ (by omega) (by omega) (by walk_at "st")
    · walk_at "go"
      refine r_mulW (mulW_of (by omega) (by decide)) ?_
      exact q _ _ (by omega) (by omega) (by walk_at "st")
theorem do_law_great {t : Addr} {m : Int} (T : Tape H t) (h0 : 60 ≤ m) (h1 : m < 10 ^ 30) (k : ∀ r H', -m < r → r < m → Stp (some t) H H' → Q (.int r) H') :
    sp_law_great [.ref t, .int m] H Q E := ⟨t, m, rfl, T, h0, h1, k⟩

def sp_law_place : Sp := fun vs H Q _ => ∃ t, vs = [.ref t] ∧ Tape H t ∧ ∀ v x y H', -10 ^ 26 < x → x < 10 ^ 26 → -10 ^ 26 < y → y < 10 ^ 26 → Stp (some t) H H' → IT H' v [x, y] → Q v H'
theorem ok_law_place (T : Txt K mg ad) : FnG P w K mg base CX0 3 ad.law_place ad.law_place_d P_law_place sp_law_place := by
  have G_law_great := ok_law_great (P := P) (w := w) (base := base) T
  refine Fun.g T.F_law_place sc_law_place (fun vs H Q E h => ?_) (fun cdv A outer s H vs Q E hr hg h => ?_)
  · obtain ⟨t, rfl, _⟩ := h
    rfl
  · obtain ⟨t, rfl, hT, q⟩ := h
    refine ⟨_, (pss_one (ps_ret (pe_tup (pa_cons (peg_call G_law_great (hr.mono (by decide)) hg (by rfl) T.g_law_great T.F_law_great.kp T.b_law_great .nil pass0 (pa_cons (pv 0) (pa_cons (pe_op op_pow pe_int pe_int) pa_nil))) (pa_cons (peg_call G_law_great (hr.mono (by decide)) hg (by rfl) T.g_law_great T.F_law_great.kp T.b_law_great .nil pass0 (pa_cons (pv 0) (pa_cons (pe_op op_pow pe_int pe_int) pa_nil))) pa_nil))))), ?_⟩
    walk_at "go"
    refine do_law_great (by walk_at "up") (by decide) (by decide) fun x H1 x0 x1 S1 => ?_
    walk_at "go"
    refine do_law_great (by walk_at "up") (by decide) (by decide) fun y H2 y0 y1 S2 => ?_
    walk_at "go"
    exact q _ x y _ (by omega) (by omega) (by omega) (by omega) (by walk_at "st") (by walk_at "up")
theorem do_law_place {t : Addr} (T : Tape H t) (k : ∀ v x y H', -10 ^ 26 < x → x < 10 ^ 26 → -10 ^ 26 < y → y < 10 ^ 26 → Stp (some t) H H' → IT H' v [x, y] → Q v H') :
    sp_law_place [.ref t] H Q E := ⟨t, rfl, T, k⟩

end
end Law

set_option Elab.async false
set_option linter.all false
set_option maxRecDepth 100000
set_option maxHeartbeats 4000000
namespace Law
open PySem PySem.Spec PyProof.Rows L2 MV TL LamX
local macro_rules | `(tactic| walk_at "up") => `(tactic| first
  | assumption
  | (refine' IT.mv ?s ?g; (case s => assumption); (case g => walk_at "up"))
  | (refine' IT.k ?g; (case g => walk_at "up"))
  | (refine' IK.mv ?s ?g; (case s => assumption); (case g => walk_at "up"))
  | (refine' Tape.mvN ?s ?g; (case s => assumption); (case g => walk_at "up"))
  | (refine' Tape.mvS ?s ?g; (case s => assumption); (case g => walk_at "up"))
  | (refine' At.tup ?s ?g; (case s => assumption); (case g => walk_at "up"))
  | (refine' At.ins ?s ?g; (case s => assumption); (case g => walk_at "up"))
  | (refine' At.lst ?s ?g; (case s => assumption); (case g => walk_at "up"))
  | (refine' At.lstS ?s ?n ?g; (case s => assumption); (case n => assumption); (case g => walk_at "up"))
  | fail)
local macro_rules | `(tactic| walk_at "st") => `(tactic| first
  | assumption
  | exact Stp.refl _ _
  | (refine' Stp.w ?s; (case s => assumption))
  | (refine' Stp.trans ?g ?s; (case s => (first | assumption | (refine' Stp.w ?u; (case u => assumption)))); (case g => walk_at "st"))
  | fail)
local macro_rules | `(tactic| walk_at "bT") => `(tactic| first
  | decide
  | (simp only [Bool.not_eq_true', Bool.not_eq_false', decide_eq_true_eq, decide_eq_false_iff_not]; omega)
  | fail)
local macro_rules | `(tactic| walk_at "sd") => `(tactic| first | assumption | decide | omega | fail)
local macro_rules | `(tactic| walk_at "r") => `(tactic| first
  | (with_reducible refine r_seq ?_)
  | (with_reducible refine r_asg ?_)
  | ((with_reducible refine' r_var ?h ?k); (case h => rfl))
  | (with_reducible refine r_c ?_)
  | (with_reducible refine r_op ?_)
  | (with_reducible refine r_un ?_)
  | (with_reducible refine r_nil ?_)
  | (with_reducible refine r_cons ?_)
  | (with_reducible refine r_tup ?_)
  | (with_reducible refine r_lst ?_)
  | (with_reducible refine r_cbLen ?_)
  | (with_reducible refine r_cbInt ?_)
  | (with_reducible refine r_cbRepr ?_)
  | (with_reducible refine r_cbTup ?_)
  | (with_reducible refine r_cbLst ?_)
  | (with_reducible refine r_cb ?_)
  | (with_reducible refine r_prop ?_)
  | (with_reducible refine r_andV ?_)
  | (with_reducible refine r_orV ?_)
  | (with_reducible refine r_notV ?_)
  | (with_reducible refine r_chain ?_)
  | (with_reducible refine r_ifE ?_)
  | (with_reducible refine r_test ?_)
  | (with_reducible refine r_B ?_)
  | (with_reducible refine r_and ?_)
  | (with_reducible refine r_or ?_)
  | (with_reducible refine r_not ?_)
  | (with_reducible refine r_yes ?_)
  | (with_reducible refine r_k ?_)
  | (with_reducible refine r_kV ?_)
  | (with_reducible refine r_next ?_)
  | (with_reducible refine r_drop ?_)
  | (with_reducible refine r_ret ?_)
  | (with_reducible refine r_ifS ?_)
  | (with_reducible refine r_par ?_)
  | (with_reducible refine r_par1 ?_)
  | (with_reducible refine r_gname ?_)
  | (with_reducible refine r_gnil ?_)
  | (with_reducible refine r_gcons ?_)
  | ((with_reducible refine' r_unpack2 ?h ?k); (case h => walk_at "up"))
  | ((with_reducible refine' r_unpack3 ?h ?k); (case h => walk_at "up"))
  | (with_reducible refine r_add ?_)
  | (with_reducible refine r_sub ?_)
  | (with_reducible refine r_neg ?_)
  | ((with_reducible refine' r_mod ?h ?k); (case h => walk_at "sd"))
  | ((with_reducible refine' r_div ?h ?k); (case h => walk_at "sd"))
  | ((with_reducible refine' r_mul ?h ?k); (case h => walk_at "sd"))
  | ((with_reducible refine' r_mulW ?h ?k); (case h => walk_at "sd"))
  | ((with_reducible refine' r_pow ?h ?k); (case h => (show (0 : Int) ≤ _ ∧ _ ∧ _; decide)))
  | (with_reducible refine r_lt ?_)
  | (with_reducible refine r_le ?_)
  | (with_reducible refine r_gt ?_)
  | (with_reducible refine r_ge ?_)
  | (with_reducible refine r_eqI ?_)
  | (with_reducible refine r_neI ?_)
  | (with_reducible refine r_eqS ?_)
  | (with_reducible refine r_neS ?_)
  | ((with_reducible refine' r_eqT ?h ?g ?k); (case h => walk_at "up"); (case g => walk_at "up"))
  | ((with_reducible refine' r_neT ?h ?g ?k); (case h => walk_at "up"); (case g => walk_at "up"))
  | ((with_reducible refine' r_ix0 ?h ?k); (case h => walk_at "up"))
  | ((with_reducible refine' r_ix1 ?h ?k); (case h => walk_at "up"))
  | ((with_reducible refine' r_ix2 ?h ?k); (case h => walk_at "up"))
  | (with_reducible refine r_newI2 (fun v H2 S I => ?_))
  | (with_reducible refine r_newI3 (fun v H2 S I => ?_))
  | (with_reducible refine r_newL1 (fun p H2 S hp np => ?_))
  | (with_reducible refine r_newL2 (fun p H2 S hp np => ?_))
  | (with_reducible refine r_newL3 (fun p H2 S hp np => ?_))
  | (with_reducible refine r_T ?_)
  | (with_reducible refine r_F ?_)
  | fail)
local macro_rules | `(tactic| walk_at "go") => `(tactic| repeat (walk_at "r"))
local macro_rules | `(tactic| walk_at "r") => `(tactic| first
  | (with_reducible refine r_call0 ?_)
  | (with_reducible refine r_meth0 ?_)
  | (with_reducible refine r_make0 ?_)
  | (with_reducible refine r_isiII ?_)
  | (with_reducible refine r_isiIB ?_)
  | ((with_reducible refine' r_isiTT ?h ?k); (case h => walk_at "up"))
  | ((with_reducible refine' r_len2 ?h ?k); (case h => walk_at "up"))
  | ((with_reducible refine' r_len3 ?h ?k); (case h => walk_at "up"))
  | ((with_reducible refine' r_lenL ?h ?k); (case h => walk_at "up"))
  | (with_reducible refine r_int1 ?_)
  | (with_reducible refine r_int1B ?_)
  | (with_reducible refine r_nT ?_)
  | (with_reducible refine r_nF ?_)
  | (with_reducible refine r_gcd ?_)
  | (with_reducible refine r_gsub ?_)
  | (with_reducible refine r_fld ?_)
  | (with_reducible refine r_p6 ?_)
  | (with_reducible refine r_p9 ?_)
  | (with_reducible refine r_p10 ?_)
  | (with_reducible refine r_p11 ?_)
  | (with_reducible refine r_p12 ?_)
  | (with_reducible refine r_p18 ?_)
  | (with_reducible refine r_p20 ?_)
  | (with_reducible refine r_p26 ?_)
  | (with_reducible refine r_p27 ?_)
  | (with_reducible refine r_p30 ?_)
  | ((with_reducible refine' r_iF ?h ?k); (case h => walk_at "bT"))
  | ((with_reducible refine' r_iT ?h ?k); (case h => walk_at "bT"))
  | (with_reducible refine r_sfld ?_)
  | (with_reducible refine r_sl ?_)
  | (with_reducible refine r_noPart ?_)
  | (with_reducible refine r_part ?_)
  | (with_reducible refine r_pk ?_)
  | ((with_reducible refine' r_unl2 ?h ?k); (case h => walk_at "up"))
  | ((with_reducible refine' r_ixLi ?h ?h0 ?hn ?k); (case h => walk_at "up"); (case h0 => walk_at "sd"); (case hn => rfl))
  | fail)

local macro_rules | `(tactic| walk_at "r") => `(tactic| first
  | (with_reducible refine r_for ?_)
  | (with_reducible refine r_lc ?_)
  | (with_reducible refine r_iList ?_)
  | (with_reducible refine r_iTup ?_)
  | (with_reducible refine r_iStr ?_)
  | (with_reducible refine it_s ?_)
  | (with_reducible refine r_iRng1 ?_)
  | (with_reducible refine r_iRng2 ?_)
  | (with_reducible refine r_iEnumA ?_)
  | (with_reducible refine r_bm ?_)
  | (with_reducible refine r_inS ?_)
  | (with_reducible refine r_cbAll ?_)
  | (with_reducible refine r_cbIsiT ?_)
  | (with_reducible refine r_cbLenS ?_)
  | (with_reducible refine r_makeK0 ?_)
  | (with_reducible refine r_makeK1 ?_)
  | (with_reducible refine mkk1 ?_)
  | fail)
local macro_rules | `(tactic| walk_at "up") => `(tactic| first
  | (refine' SqL.mvN ?s ?g; (case s => assumption); (case g => walk_at "up"))
  | (refine' SqT.mvS ?s ?g; (case s => assumption); (case g => walk_at "up"))
  | fail)

section
variable {P : Program} {w : World} {K : PySem.W.Frag} {mg : Str → Option Value} {base : Heap} {ad : Ad} {H : Hp} {Q : VK} {E : XK} {i j x y : Int} {v : V}
abbrev kindsL : List Str := ["none", "left", "half", "right", "flip", "mirror", "swap", "cross"]
def KdIs (K : PySem.W.Frag) (H : Hp) (k : V) : Option Str → Prop
  | some z => k = .str z ∧ z ∈ kindsL
  | none => (∃ t, TyX K H k t ∧ PySem.W.kitOne K t (.type "str") = some false) ∨ ∃ z, k = .str z ∧ z ∉ kindsL
/-- v is a Motion -/
def MA (C : Addr) (H : Hp) (v : V) (k : Str) (x y : Int) : Prop := ∃ p dx u, v = .ref p ∧ H p = some (.ins C dx (putF "_shift" u (putF "_kind" (.str k) []))) ∧ IT H u [x, y]
theorem MA.mv {C : Addr} {t : Option Addr} {H H' : Hp} {v : V} {k : Str} (s : Stp t H H') (h : MA C H v k x y) : MA C H' v k x y := by
  obtain ⟨p, dx, u, e, h1, h2⟩ := h
  exact ⟨p, dx, u, e, At.ins s h1, h2.mv s⟩
theorem MA.sn {T : List (Addr × Str)} {C : Addr} {t : Option Addr} {H H' : Hp} {v : V} {k : Str} (s : Sn T t H H') (h : MA C H v k x y) : MA C H' v k x y := by
  obtain ⟨p, dx, u, e, h1, h2⟩ := h
  exact ⟨p, dx, u, e, s.ins h1, s.it h2⟩
theorem inV_strs (z : Str) : ∀ ks : List Str, inV (.str z) (ks.map V.str) = decide (z ∈ ks)
  | [] => rfl
  | k :: r => by
    have ih := inV_strs z r
    unfold inV at ih ⊢
    rw [List.map_cons, List.any_cons, ih]
    have e : eqV (.str k) (.str z) = decide (k = z) := rfl
    rw [e]
    by_cases h : z = k
    · subst h; simp
    · have h2 : ¬ k = z := fun e => h e.symm
      simp [h, h2]
theorem inK (z : Str) : inV (.str z) [V.str "none", V.str "left", V.str "half", V.str "right", V.str "flip", V.str "mirror", V.str "swap", V.str "cross"] = decide (z ∈ kindsL) := inV_strs z kindsL
abbrev Ev (E : XK) (C : Addr) (y : V) (H : Hp) : Prop := ∀ d, H d = none → E (.ref C) (some d) (upd H d (.xd [("value", y)]))
def sp_Motion_init (K : PySem.W.Frag) (C CM CP : Addr) : Sp := fun vs H Q E => ∃ p dx k s, vs = [.ref p, k, s] ∧ H p = some (.ins C dx []) ∧
  ((KdIs K H k none ∧ Ev E CM k H) ∨ ∃ z, k = .str z ∧ z ∈ kindsL ∧ ((PlIs K H s none ∧ Ev E CP s H) ∨
    ∃ x y, IK K H s [x, y] ∧ ∀ H', (∀ b o, b ≠ p → H b = some o → H' b = some o) → MA C H' (.ref p) z x y → Q .non H'))
theorem do_check_place {C : Addr} {o : Option (Int × Int)} (h : PlIs K H v o) (q1 : o.isSome = true → Q .non H) (q2 : o = none → Ev E C v H) : sp_check_place K C [v] H Q E := ⟨v, o, rfl, h, q1, q2⟩
theorem ok_Motion_init (T : Txt K mg ad) : FnG P w K mg base (L2.CX P w) 4 ad.Motion_init ad.Motion_init_d P_Motion_init (sp_Motion_init K ad.C_Motion ad.C_InvalidMotion ad.C_InvalidPlace) := by
  have G_check_place := ok_check_place (P := P) (w := w) (base := base) T
  have G_InvalidMotion_init := xinit_ok (P := P) (w := w) (K := K) (mg := mg) (base := base) (k := 0) T.F_InvalidMotion_init sc_InvalidMotion_init rfl (.inl rfl) (.inl rfl) rfl rfl
  refine MV.FunD.g T.F_Motion_init sc_Motion_init (fun vs H Q E h => ?_) (fun cdv A outer s H vs Q E hr hg h => ?_)
  · obtain ⟨p, dx, k, m, rfl, _⟩ := h
    rfl
  · obtain ⟨p, dx, k, s', rfl, hp, h⟩ := h
    refine ⟨_, (pss_cons (ps_if (PW.pt (pw_or (pt_not (pt_val (pe_callB call_isi (by rfl) T.z_isinstance (by decide +kernel) (pa_cons (pv 1) (pa_cons (pe_bltn (v := V.ty "str") (u := Value.type "str") (by rfl) T.z_str (by decide +kernel) rfl) pa_nil))))) (pw_or1 (pt_cmpR op_notIn_seq (pv 1) (ClX.pe_cval (pe_glob (v := V.ref ad.C_Motion) rfl T.g_Motion rfl)) (by rfl)))))
      (pss_one (ps_x rfl takes_cx (pmk_x T.x_InvalidMotion G_InvalidMotion_init (hr.mono (by decide)) T.b_InvalidMotion_init (by rfl) T.g_InvalidMotion (pv 1)))) pss_nil)
      (pss_cons (ps_expr (peg_call G_check_place (hr.mono (by decide)) hg (by rfl) T.g_check_place T.F_check_place.kp T.b_check_place .nil passX (pa_cons (pv 2) pa_nil)))
      (pss_cons (ps_asg (pv 2) (pg_tup (n := 2) rfl (pgs_cons (pg_name (i := 3) sc_Motion_init.nd rfl (Or.inl rfl)) (pgs_cons (pg_name (i := 4) sc_Motion_init.nd rfl (Or.inl rfl)) pgs_nil))))
      (pss_cons (ps_fld (pv 0) (pv 1) rfl)
      (pss_one (ps_fld (pv 0) (pe_tup (pa_cons (pe_callTy call_int1 (by rfl) T.z_int (by decide +kernel) (pa_cons (pv 3) pa_nil)) (pa_cons (pe_callTy call_int1 (by rfl) T.z_int (by decide +kernel) (pa_cons (pv 4) pa_nil)) pa_nil))) rfl)))))), ?_⟩
    walk_at "go"
    rcases h with ⟨hk, e⟩ | ⟨z, rfl, hz, h⟩
    · rcases hk with ⟨t, ty, ek⟩ | ⟨z, rfl, hz⟩
      · refine r_isi (.ty _) ty ek ?_
        walk_at "go"
        exact e
      · refine r_isiSS ?_
        walk_at "go"
        refine r_cval ?_
        walk_at "go"
        refine ⟨_, _, _, _, rfl, T.cr_Motion, T.c_KINDS, ⟨_, _, rfl, .inr T.t_KINDS.t, rfl, rfl, ?_⟩⟩
        rw [inK]
        refine r_kV ?_
        refine r_nN hz ?_
        walk_at "go"
        exact e
    · refine r_isiSS ?_
      walk_at "go"
      refine r_cval ?_
      walk_at "go"
      refine ⟨_, _, _, _, rfl, T.cr_Motion, T.c_KINDS, ⟨_, _, rfl, .inr T.t_KINDS.t, rfl, rfl, ?_⟩⟩
      rw [inK]
      refine r_kV ?_
      refine r_nX hz ?_
      walk_at "go"
      rcases h with ⟨hs, e⟩ | ⟨x, y, hv, q⟩
      · exact do_check_place hs (fun e => nomatch e) fun _ => e
      · refine do_check_place (o := some (x, y)) hv (fun _ => ?_) (fun e => nomatch e)
        walk_at "go"
        refine ⟨p, ad.C_Motion, dx, [], rfl, hp, T.cl_Motion, T.n_kind, Nat.zero_lt_succ _, ?_⟩
        walk_at "go"
        refine ⟨p, ad.C_Motion, dx, _, rfl, At.ins (by assumption) upd_same, T.cl_Motion, T.n_shift, Nat.le_of_ble_eq_true rfl, ?_⟩
        rename_i u H2 S hI
        have ne : ∀ b o, b ≠ p → H b = some o → upd H p (.ins ad.C_Motion dx (putF "_kind" (.str z) [])) b = some o := fun b o nb e => by
          rw [upd_ne nb]
          exact e
        refine q _ (fun b o nb e => ?_) ⟨p, dx, u, rfl, upd_same, ?_⟩
        · rw [upd_ne nb]
          exact S.all _ _ (ne _ _ nb e)
        · obtain ⟨t, rfl, ht⟩ := hI
          exact ⟨t, rfl, by rw [upd_ne (ne_of ht (S.all _ _ upd_same) (by intro z; cases z))]; exact ht⟩
theorem intIs_mv {H H' : Hp} {o : Option Int} (s : Stp none H H') (h : IntIs K H v o) : IntIs K H' v o := by
  cases o with
  | some i => exact h
  | none =>
    rcases h with h | ⟨t, ty, e⟩
    · exact .inl h
    · exact .inr ⟨t, ty_mv s ty, e⟩
theorem plIs_mv {H H' : Hp} {o : Option (Int × Int)} (s : Stp none H H') (h : PlIs K H v o) : PlIs K H' v o := by
  cases o with
  | some xy => exact IK.mv s h
  | none =>
    rcases h with ⟨t, ty, e⟩ | ⟨p, xs, ev, hp, hl, hc⟩
    · exact .inl ⟨t, ty_mv s ty, e⟩
    · refine .inr ⟨p, xs, ev, SqT.mvS s hp, hl, ?_⟩
      rcases hc with hc | ⟨a, b, e, hc | ⟨i, ei, hc⟩⟩
      · exact .inl hc
      · exact .inr ⟨a, b, e, .inl (intIs_mv s hc)⟩
      · exact .inr ⟨a, b, e, .inr ⟨i, ei, intIs_mv s hc⟩⟩
theorem kdIs_mv {H H' : Hp} {o : Option Str} (s : Stp none H H') (h : KdIs K H v o) : KdIs K H' v o := by
  cases o with
  | some z => exact h
  | none =>
    rcases h with ⟨t, ty, e⟩ | h
    · exact .inl ⟨t, ty_mv s ty, e⟩
    · exact .inr h
/-- Motion(k, s) that is refused, and one that is made -/
theorem do_MotionBad {C CM CP : Addr} {k s : V} (h : KdIs K H k none) (q : ∀ H' d, Stp none H H' → H' d = none → E (.ref CM) (some d) (upd H' d (.xd [("value", k)]))) : MkR C (sp_Motion_init K C CM CP) [k, s] H Q E := by
  intro p dx hx hd ne
  have S0 : Stp none H (upd (upd H dx (.own p)) p (.ins C dx [])) := Stp.of (fun b o e => by
    rw [upd_ne (ne_of_none e hx), upd_ne (ne_of_none e hd)]
    exact e) none
  exact ⟨p, dx, k, s, rfl, upd_same, .inl ⟨kdIs_mv S0 h, fun d hd => q _ d S0 hd⟩⟩
theorem do_MotionPl {C CM CP : Addr} {z : Str} {s : V} (hz : z ∈ kindsL) (h : PlIs K H s none) (q : ∀ H' d, Stp none H H' → H' d = none → E (.ref CP) (some d) (upd H' d (.xd [("value", s)]))) : MkR C (sp_Motion_init K C CM CP) [.str z, s] H Q E := by
  intro p dx hx hd ne
  have S0 : Stp none H (upd (upd H dx (.own p)) p (.ins C dx [])) := Stp.of (fun b o e => by
    rw [upd_ne (ne_of_none e hx), upd_ne (ne_of_none e hd)]
    exact e) none
  exact ⟨p, dx, _, s, rfl, upd_same, .inr ⟨z, rfl, hz, .inl ⟨plIs_mv S0 h, fun d hd => q _ d S0 hd⟩⟩⟩
theorem do_Motion {C CM CP : Addr} {z : Str} (hz : z ∈ kindsL) (hv : IK K H v [x, y]) (q : ∀ u H', Stp none H H' → MA C H' u z x y → Q u H') : MkR C (sp_Motion_init K C CM CP) [.str z, v] H Q E := by
  intro p dx hx hd ne
  have S0 : ∀ b o, H b = some o → upd (upd H dx (.own p)) p (.ins C dx []) b = some o := fun b o e => by
    rw [upd_ne (ne_of_none e hx), upd_ne (ne_of_none e hd)]
    exact e
  exact ⟨p, dx, _, v, rfl, upd_same, .inr ⟨z, rfl, hz, .inr ⟨x, y, hv.mv (Stp.of S0 none), fun H' s h => ⟨rfl, q _ _ (Stp.of (fun b o e => s b o (ne_of_none e hx) (S0 b o e)) none) h⟩⟩⟩⟩
def sp_Motion_by (K : PySem.W.Frag) (CP : Addr) : Sp := fun vs H Q E => ∃ s, vs = [s] ∧ PlIs K H s none ∧ ∀ H' d, Stp none H H' → H' d = none → E (.ref CP) (some d) (upd H' d (.xd [("value", s)]))
theorem ok_Motion_by (T : Txt K mg ad) : FnG P w K mg base (L2.CX P w) 6 ad.Motion_by ad.Motion_by_d P_Motion_by (sp_Motion_by K ad.C_InvalidPlace) := by
  have G_Motion_init := ok_Motion_init (P := P) (w := w) (base := base) T
  refine Fun.g T.F_Motion_by sc_Motion_by (fun vs H Q E h => ?_) (fun cdv A outer s H vs Q E hr hg h => ?_)
  · obtain ⟨s, rfl, _⟩ := h
    rfl
  · obtain ⟨s', rfl, hs, q⟩ := h
    refine ⟨_, (pss_one (ps_ret (peg_make T.k_Motion G_Motion_init (hr.mono (by decide)) hg (by rfl) T.g_Motion T.b_Motion_init .nil passX (pa_cons pe_str (pa_cons (pv 0) pa_nil))))), ?_⟩
    walk_at "go"
    exact do_MotionPl (by decide) hs q
theorem put2_shift (u z : V) : (putF "_shift" u (putF "_kind" z [])).lookup ("_shift" : Str) = some u := by rw [lookup_putF, if_pos rfl]
theorem put2_kind (u z : V) : (putF "_shift" u (putF "_kind" z [])).lookup ("_kind" : Str) = some z := by rw [lookup_putF, if_neg (by decide), lookup_putF, if_pos rfl]
theorem put2_other (u z : V) {m : Str} (h : m ≠ "_shift") (h2 : m ≠ "_kind") : (putF "_shift" u (putF "_kind" z [])).lookup m = none := by rw [lookup_putF, if_neg h, lookup_putF, if_neg h2]; rfl
def sp_Motion_kind (C : Addr) : Sp := fun vs H Q _ => ∃ p k x y, vs = [.ref p] ∧ MA C H (.ref p) k x y ∧ Q (.str k) H
theorem ok_Motion_kind (T : Txt K mg ad) : FnG P w K mg base CX0 1 ad.Motion_kind ad.Motion_kind_d P_Motion_kind (sp_Motion_kind ad.C_Motion) := by
  refine Fun.g T.F_Motion_kind sc_Motion_kind (fun vs H Q E h => ?_) (fun cdv A outer s H vs Q E hr hg h => ?_)
  · obtain ⟨p, k, x, y, rfl, _⟩ := h
    rfl
  · obtain ⟨p, k, x, y, rfl, ⟨p', dx, u, e, h1, h2⟩, q⟩ := h
    cases e
    refine ⟨_, (pss_one (ps_ret (pe_fld (pv 0) rfl))), ?_⟩
    walk_at "go"
    exact ⟨p, _, dx, _, _, rfl, h1, T.cl_Motion, T.n_kind, put2_kind _ _, q⟩
def sp_Motion_shift (C : Addr) : Sp := fun vs H Q _ => ∃ p k x y, vs = [.ref p] ∧ MA C H (.ref p) k x y ∧ ∀ u, IT H u [x, y] → Q u H
theorem ok_Motion_shift (T : Txt K mg ad) : FnG P w K mg base CX0 1 ad.Motion_shift ad.Motion_shift_d P_Motion_shift (sp_Motion_shift ad.C_Motion) := by
  refine Fun.g T.F_Motion_shift sc_Motion_shift (fun vs H Q E h => ?_) (fun cdv A outer s H vs Q E hr hg h => ?_)
  · obtain ⟨p, k, x, y, rfl, _⟩ := h
    rfl
  · obtain ⟨p, k, x, y, rfl, ⟨p', dx, u, e, h1, h2⟩, q⟩ := h
    cases e
    refine ⟨_, (pss_one (ps_ret (pe_fld (pv 0) rfl))), ?_⟩
    walk_at "go"
    exact ⟨p, _, dx, _, _, rfl, h1, T.cl_Motion, T.n_shift, put2_shift _ _, q u h2⟩
def sp_Motion_call (K : PySem.W.Frag) (CP : Addr) : Sp := fun vs H Q E => ∃ v s, vs = [v, s] ∧ PlIs K H s none ∧ Ev E CP s H
theorem ok_Motion_call (T : Txt K mg ad) : FnG P w K mg base (L2.CX P w) 4 ad.Motion_call ad.Motion_call_d P_Motion_call (sp_Motion_call K ad.C_InvalidPlace) := by
  have G_check_place := ok_check_place (P := P) (w := w) (base := base) T
  refine Fun.g T.F_Motion_call sc_Motion_call (fun vs H Q E h => ?_) (fun cdv A outer s H vs Q E hr hg h => ?_)
  · obtain ⟨v, s, rfl, _⟩ := h
    rfl
  · obtain ⟨v, s', rfl, hs, e⟩ := h
    refine ⟨_, (pss_cons (ps_expr (peg_call G_check_place (hr.mono (by decide)) hg (by rfl) T.g_check_place T.F_check_place.kp T.b_check_place .nil passX (pa_cons (pv 1) pa_nil)))
      pss_never), ?_⟩
    walk_at "go"
    exact do_check_place hs (fun e => nomatch e) fun _ => e
def sp_Motion_repeated (K : PySem.W.Frag) (CN : Addr) : Sp := fun vs H Q E => ∃ v s, vs = [v, s] ∧ IntIs K H s none ∧ Ev E CN s H
theorem ok_Motion_repeated (T : Txt K mg ad) : FnG P w K mg base (L2.CX P w) 3 ad.Motion_repeated ad.Motion_repeated_d P_Motion_repeated (sp_Motion_repeated K ad.C_InvalidNumber) := by
  have G_is_integer := ok_is_integer (P := P) (w := w) (base := base) T
  have G_InvalidNumber_init := xinit_ok (P := P) (w := w) (K := K) (mg := mg) (base := base) (k := 0) T.F_InvalidNumber_init sc_InvalidNumber_init rfl (.inl rfl) (.inl rfl) rfl rfl
  refine Fun.g T.F_Motion_repeated sc_Motion_repeated (fun vs H Q E h => ?_) (fun cdv A outer s H vs Q E hr hg h => ?_)
  · obtain ⟨v, s, rfl, _⟩ := h
    rfl
  · obtain ⟨v, s', rfl, hs, e⟩ := h
    refine ⟨_, (pss_cons (ps_if (pt_not (pt_val (peg_call G_is_integer (hr.mono (by decide)) hg (by rfl) T.g_is_integer T.F_is_integer.kp T.b_is_integer .nil pass0 (pa_cons (pv 1) pa_nil))))
      (pss_one (ps_x rfl takes_cx (pmk_x T.x_InvalidNumber G_InvalidNumber_init (hr.mono (by decide)) T.b_InvalidNumber_init (by rfl) T.g_InvalidNumber (pv 1)))) pss_nil)
      pss_never), ?_⟩
    walk_at "go"
    refine do_is_integer hs ?_
    refine ⟨_, rfl, ?_⟩
    refine r_iT rfl ?_
    walk_at "go"
    exact e
end
end Law

set_option Elab.async false
set_option linter.all false
set_option maxRecDepth 100000
set_option maxHeartbeats 400000
namespace Law
open PySem PySem.Spec PyProof.Rows L2 MV TL LamX
local macro_rules | `(tactic| walk_at "up") => `(tactic| first
  | assumption
  | (refine' IT.mv ?s ?g; (case s => assumption); (case g => walk_at "up"))
  | (refine' IT.k ?g; (case g => walk_at "up"))
  | (refine' IK.mv ?s ?g; (case s => assumption); (case g => walk_at "up"))
  | (refine' Tape.mvN ?s ?g; (case s => assumption); (case g => walk_at "up"))
  | (refine' Tape.mvS ?s ?g; (case s => assumption); (case g => walk_at "up"))
  | (refine' At.tup ?s ?g; (case s => assumption); (case g => walk_at "up"))
  | (refine' At.ins ?s ?g; (case s => assumption); (case g => walk_at "up"))
  | (refine' At.lst ?s ?g; (case s => assumption); (case g => walk_at "up"))
  | (refine' At.lstS ?s ?n ?g; (case s => assumption); (case n => assumption); (case g => walk_at "up"))
  | fail)
local macro_rules | `(tactic| walk_at "st") => `(tactic| first
  | assumption
  | exact Stp.refl _ _
  | (refine' Stp.w ?s; (case s => assumption))
  | (refine' Stp.trans ?g ?s; (case s => (first | assumption | (refine' Stp.w ?u; (case u => assumption)))); (case g => walk_at "st"))
  | fail)
local macro_rules | `(tactic| walk_at "bT") => `(tactic| first
  | decide
  | (simp only [Bool.not_eq_true', Bool.not_eq_false', decide_eq_true_eq, decide_eq_false_iff_not]; omega)
  | fail)
local macro_rules | `(tactic| walk_at "sd") => `(tactic| first | assumption | decide | omega | fail)
local macro_rules | `(tactic| walk_at "r") => `(tactic| first
  | (with_reducible refine r_seq ?_)
  | (with_reducible refine r_asg ?_)
  | ((with_reducible refine' r_var ?h ?k); (case h => rfl))
  | (with_reducible refine r_c ?_)
  | (with_reducible refine r_op ?_)
  | (with_reducible refine r_un ?_)
  | (with_reducible refine r_nil ?_)
  | (with_reducible refine r_cons ?_)
  | (with_reducible refine r_tup ?_)
  | (with_reducible refine r_lst ?_)
  | (with_reducible refine r_cbLen ?_)
  | (with_reducible refine r_cbInt ?_)
  | (with_reducible refine r_cbRepr ?_)
  | (with_reducible refine r_cbTup ?_)
  | (with_reducible refine r_cbLst ?_)
  | (with_reducible refine r_cb ?_)
  | (with_reducible refine r_prop ?_)
  | (with_reducible refine r_andV ?_)
  | (with_reducible refine r_orV ?_)
  | (with_reducible refine r_notV ?_)
  | (with_reducible refine r_chain ?_)
  | (with_reducible refine r_ifE ?_)
  | (with_reducible refine r_test ?_)
  | (with_reducible refine r_B ?_)
  | (with_reducible refine r_and ?_)
  | (with_reducible refine r_or ?_)
  | (with_reducible refine r_not ?_)
  | (with_reducible refine r_yes ?_)
  | (with_reducible refine r_k ?_)
  | (with_reducible refine r_kV ?_)
  | (with_reducible refine r_next ?_)
  | (with_reducible refine r_drop ?_)
  | (with_reducible refine r_ret ?_)
  | (with_reducible refine r_ifS ?_)
  | (with_reducible refine r_par ?_)
  | (with_reducible refine r_par1 ?_)
  | (with_reducible refine r_gname ?_)
  | (with_reducible refine r_gnil ?_)
  | (with_reducible refine r_gcons ?_)
  | ((with_reducible refine' r_unpack2 ?h ?k); (case h => walk_at "up"))
  | ((with_reducible refine' r_unpack3 ?h ?k); (case h => walk_at "up"))
  | (with_reducible refine r_add ?_)
  | (with_reducible refine r_sub ?_)
  | (with_reducible refine r_neg ?_)
  | ((with_reducible refine' r_mod ?h ?k); (case h => walk_at "sd"))
  | ((with_reducible refine' r_div ?h ?k); (case h => walk_at "sd"))
  | ((with_reducible refine' r_mul ?h ?k); (case h => walk_at "sd"))
  | ((with_reducible refine' r_mulW ?h ?k); (case h => walk_at "sd"))
  | ((with_reducible refine' r_pow ?h ?k); (case h => (show (0 : Int) ≤ _ ∧ _ ∧ _; decide)))
  | (with_reducible refine r_lt ?_)
  | (with_reducible refine r_le ?_)
  | (with_reducible refine r_gt ?_)
  | (with_reducible refine r_ge ?_)
  | (with_reducible refine r_eqI ?_)
  | (with_reducible refine r_neI ?_)
  | (with_reducible refine r_eqS ?_)
  | (with_reducible refine r_neS ?_)
  | ((with_reducible refine' r_eqT ?h ?g ?k); (case h => walk_at "up"); (case g => walk_at "up"))
  | ((with_reducible refine' r_neT ?h ?g ?k); (case h => walk_at "up"); (case g => walk_at "up"))
  | ((with_reducible refine' r_ix0 ?h ?k); (case h => walk_at "up"))
  | ((with_reducible refine' r_ix1 ?h ?k); (case h => walk_at "up"))
  | ((with_reducible refine' r_ix2 ?h ?k); (case h => walk_at "up"))
  | (with_reducible refine r_newI2 (fun v H2 S I => ?_))
  | (with_reducible refine r_newI3 (fun v H2 S I => ?_))
  | (with_reducible refine r_newL1 (fun p H2 S hp np => ?_))
  | (with_reducible refine r_newL2 (fun p H2 S hp np => ?_))
  | (with_reducible refine r_newL3 (fun p H2 S hp np => ?_))
  | (with_reducible refine r_T ?_)
  | (with_reducible refine r_F ?_)
  | fail)
local macro_rules | `(tactic| walk_at "go") => `(tactic| repeat (walk_at "r"))
local macro_rules | `(tactic| walk_at "r") => `(tactic| first
  | (with_reducible refine r_call0 ?_)
  | (with_reducible refine r_meth0 ?_)
  | (with_reducible refine r_make0 ?_)
  | (with_reducible refine r_isiII ?_)
  | (with_reducible refine r_isiIB ?_)
  | ((with_reducible refine' r_isiTT ?h ?k); (case h => walk_at "up"))
  | ((with_reducible refine' r_len2 ?h ?k); (case h => walk_at "up"))
  | ((with_reducible refine' r_len3 ?h ?k); (case h => walk_at "up"))
  | ((with_reducible refine' r_lenL ?h ?k); (case h => walk_at "up"))
  | (with_reducible refine r_int1 ?_)
  | (with_reducible refine r_int1B ?_)
  | (with_reducible refine r_nT ?_)
  | (with_reducible refine r_nF ?_)
  | (with_reducible refine r_gcd ?_)
  | (with_reducible refine r_gsub ?_)
  | (with_reducible refine r_fld ?_)
  | (with_reducible refine r_p6 ?_)
  | (with_reducible refine r_p9 ?_)
  | (with_reducible refine r_p10 ?_)
  | (with_reducible refine r_p11 ?_)
  | (with_reducible refine r_p12 ?_)
  | (with_reducible refine r_p18 ?_)
  | (with_reducible refine r_p20 ?_)
  | (with_reducible refine r_p26 ?_)
  | (with_reducible refine r_p27 ?_)
  | (with_reducible refine r_p30 ?_)
  | ((with_reducible refine' r_iF ?h ?k); (case h => walk_at "bT"))
  | ((with_reducible refine' r_iT ?h ?k); (case h => walk_at "bT"))
  | (with_reducible refine r_sfld ?_)
  | (with_reducible refine r_sl ?_)
  | (with_reducible refine r_noPart ?_)
  | (with_reducible refine r_part ?_)
  | (with_reducible refine r_pk ?_)
  | ((with_reducible refine' r_unl2 ?h ?k); (case h => walk_at "up"))
  | ((with_reducible refine' r_ixLi ?h ?h0 ?hn ?k); (case h => walk_at "up"); (case h0 => walk_at "sd"); (case hn => rfl))
  | fail)

local macro_rules | `(tactic| walk_at "r") => `(tactic| first
  | (with_reducible refine r_for ?_)
  | (with_reducible refine r_lc ?_)
  | (with_reducible refine r_iList ?_)
  | (with_reducible refine r_iTup ?_)
  | (with_reducible refine r_iStr ?_)
  | (with_reducible refine it_s ?_)
  | (with_reducible refine r_iRng1 ?_)
  | (with_reducible refine r_iRng2 ?_)
  | (with_reducible refine r_iEnumA ?_)
  | (with_reducible refine r_bm ?_)
  | (with_reducible refine r_inS ?_)
  | (with_reducible refine r_cbAll ?_)
  | (with_reducible refine r_cbIsiT ?_)
  | (with_reducible refine r_cbLenS ?_)
  | (with_reducible refine r_makeK0 ?_)
  | (with_reducible refine r_makeK1 ?_)
  | (with_reducible refine mkk1 ?_)
  | fail)
local macro_rules | `(tactic| walk_at "up") => `(tactic| first
  | (refine' SqL.mvN ?s ?g; (case s => assumption); (case g => walk_at "up"))
  | (refine' SqT.mvS ?s ?g; (case s => assumption); (case g => walk_at "up"))
  | fail)

local macro_rules | `(tactic| walk_at "up") => `(tactic| first | (refine' MA.mv ?s ?g; (case s => assumption); (case g => walk_at "up")) | fail)
local macro_rules | `(tactic| walk_at "dr") => `(tactic| (refine do_law_draw (by walk_at "up") (by first | decide | omega) (by first | decide | omega) ?_))
section
variable {P : Program} {w : World} {K : PySem.W.Frag} {mg : Str → Option Value} {base : Heap} {ad : Ad} {H : Hp} {Q : VK} {E : XK} {i j x y : Int} {v : V}
theorem ne_tape {t l : Addr} {ss : List Str} (T : Tape H t) (h : H l = some (.lst (ss.map V.str))) : l ≠ t := by
  rintro rfl
  obtain ⟨l', ns, a, b, c, _, e, _⟩ := T
  rw [h] at e
  cases ss with
  | nil => cases e
  | cons z r => cases e
theorem ne_tape' {t l : Addr} {xs : List V} (T : Tape H t) (h : H l = some (.lst xs)) (z : ∀ a, xs[0]? ≠ some (.ref a) := by intro a e; cases e) : l ≠ t := by
  rintro rfl
  obtain ⟨l', ns, a, b, c, _, e, _⟩ := T
  rw [h] at e
  cases e
  exact z _ rfl
theorem fresh_ne {t l : Addr} (T : Tape H t) (h : H l = none) : l ≠ t := by
  rintro rfl
  obtain ⟨l', ns, a, b, c, _, e, _⟩ := T
  rw [h] at e
  cases e
def sp_law_kinds : Sp := fun vs H Q _ => vs = [] ∧ ∀ p H', Stp none H H' → H' p = some (.lst (kindsL.map V.str)) → H p = none → Q (.ref p) H'
theorem ok_law_kinds (T : Txt K mg ad) : FnG P w K mg base CX0 1 ad.law_kinds ad.law_kinds_d P_law_kinds sp_law_kinds := by
  refine Fun.g T.F_law_kinds sc_law_kinds (fun vs H Q E h => ?_) (fun cdv A outer s H vs Q E hr hg h => ?_)
  · obtain ⟨rfl, _⟩ := h
    rfl
  · obtain ⟨rfl, q⟩ := h
    refine ⟨_, (pss_one (ps_ret (pe_lst (pa_cons pe_str (pa_cons pe_str (pa_cons pe_str (pa_cons pe_str (pa_cons pe_str (pa_cons pe_str (pa_cons pe_str (pa_cons pe_str pa_nil))))))))))), ?_⟩
    walk_at "go"
    exact r_newL (sz100 (Nat.le_of_ble_eq_true rfl)) fun p H2 S2 hp np => q p H2 S2 hp np
theorem do_law_kinds (k : ∀ p H', Stp none H H' → H' p = some (.lst (kindsL.map V.str)) → H p = none → Q (.ref p) H') : sp_law_kinds [] H Q E := ⟨rfl, k⟩
/-- the clauses of what hears -/
abbrev hcl (K : PySem.W.Frag) (C CE : Addr) (z : Str) : Cl := (.ref C, fun a cls d => tRet (tLst (tCons (tC (V.str z)) (tCons (tCB (rReprX K) (tCons (tXf a cls d C "value" (tVar 1)) tNil)) (tCons (tCB (rIsY K C a cls d) (tCons (tVar 1) (tCons (tC (V.ref CE)) tNil))) tNil)))))
abbrev hl (K : PySem.W.Frag) (ad : Ad) : List Cl := [hcl K ad.C_InvalidMotion ad.C_CarpetError "motion", hcl K ad.C_InvalidPlace ad.C_CarpetError "place", hcl K ad.C_InvalidNumber ad.C_CarpetError "number"]
theorem gv_law_heard {X : Cx} (T : Txt X.K X.mg ad) (hG : X.A.guards = some []) (hr : Room 2 X.A) (q : Str) (cdv : Value) :
    GivesTo X N_law_heard "_law_heard" (defScope s_law_heard) ad.law_heard cdv (defBody s_law_heard) "_law_call" q (TTas X.K N_law_heard 1 (hl X.K ad) (tRet (tC (V.str "none")))) :=
  gives_as (n := "e") (i := 1) sc_law_heard.nd rfl rfl (fun _ => rfl) (fun s H => (HdsAs.cons ⟨rfl, by decide, .inl T.g_InvalidMotion⟩ (fun a oe cls d pn hz hf => (pss_one (ps_ret (pe_lst (pa_cons pe_str (pa_cons (pe_callB (callg_reprH hG hr) (by rfl) T.z_repr (by decide +kernel) (pa_cons (pe_xf T.xf_InvalidMotion T.x_InvalidMotion.n hz hf (pv 1)) pa_nil)) (pa_cons (pe_callB (call_isY T.xi_InvalidMotion hz hf) (by rfl) T.z_isinstance (by decide +kernel) (pa_cons (pv 1) (pa_cons (pe_glob (v := V.ref ad.C_CarpetError) rfl T.g_CarpetError rfl) pa_nil))) pa_nil))))))) (HdsAs.cons ⟨rfl, by decide, .inl T.g_InvalidPlace⟩ (fun a oe cls d pn hz hf => (pss_one (ps_ret (pe_lst (pa_cons pe_str (pa_cons (pe_callB (callg_reprH hG hr) (by rfl) T.z_repr (by decide +kernel) (pa_cons (pe_xf T.xf_InvalidPlace T.x_InvalidPlace.n hz hf (pv 1)) pa_nil)) (pa_cons (pe_callB (call_isY T.xi_InvalidPlace hz hf) (by rfl) T.z_isinstance (by decide +kernel) (pa_cons (pv 1) (pa_cons (pe_glob (v := V.ref ad.C_CarpetError) rfl T.g_CarpetError rfl) pa_nil))) pa_nil))))))) (HdsAs.cons ⟨rfl, by decide, .inl T.g_InvalidNumber⟩ (fun a oe cls d pn hz hf => (pss_one (ps_ret (pe_lst (pa_cons pe_str (pa_cons (pe_callB (callg_reprH hG hr) (by rfl) T.z_repr (by decide +kernel) (pa_cons (pe_xf T.xf_InvalidNumber T.x_InvalidNumber.n hz hf (pv 1)) pa_nil)) (pa_cons (pe_callB (call_isY T.xi_InvalidNumber hz hf) (by rfl) T.z_isinstance (by decide +kernel) (pa_cons (pv 1) (pa_cons (pe_glob (v := V.ref ad.C_CarpetError) rfl T.g_CarpetError rfl) pa_nil))) pa_nil))))))) HdsAs.nil)))) (fun s H => (pss_one (ps_ret pe_str)))
/-- the law's own table -/
abbrev LT (pt : Addr) : List (Addr × Str) := [(pt, (("law" : Str) ++ (".<locals>." : Str)) ++ ("<lambda>" : Str))]
/-- z is what repr tells of v -/
def RpIs (K : PySem.W.Frag) (H : Hp) (v : V) (z : Str) : Prop := Cd [z] ∧ ((∃ d, Dp K H v d ∧ Shw d ∧ z = d.shown) ∨ ∃ a, v = .ref a ∧ H a = some (.dK []) ∧ z = "{}")
theorem r_reprX {z : Str} (h : RpIs K H v z) (q : Q (.str z) H) : rReprX K [v] H Q := by
  rcases h.2 with ⟨d, hd, S, rfl⟩ | ⟨a, rfl, ha, rfl⟩
  · exact .inl ⟨v, d, rfl, hd, S, q⟩
  · exact .inr ⟨a, rfl, ha, q⟩
theorem rp_d {d : PyData} (h : Dp K H v d) (S : Shw d) (c : Cd [d.shown] := by unfold Cd; decide +kernel) : RpIs K H v d.shown := ⟨c, .inl ⟨d, h, S, rfl⟩⟩
theorem rp_e {a : Addr} (h : H a = some (.dK [])) : RpIs K H (.ref a) "{}" := ⟨by unfold Cd; decide +kernel, .inr ⟨a, rfl, h, rfl⟩⟩
/-- the spots of the law -/
structure FS (a1 a2 a3 a4 a5 a6 a7 t : Addr) (H : Hp) : Prop where
  h1 : H a1 = some (.tup [.int 1])
  h2 : H a2 = some (.tup [.int 1, .int 2, .int 3])
  h3 : H a3 = some (.lst [.int 1, .int 2])
  n3 : a3 ≠ t
  h4 : H a4 = some (.tup [.bl true, .int 0])
  h5 : H a5 = some (.tup [.int 0, .str "1"])
  h6 : H a6 = some (.dK [])
  h7 : H a7 = some (.tup [.int 0, .non])
theorem ne_some {a t : Addr} (n : a ≠ t) : some t = some a → False := fun e => n (Option.some.inj e).symm
theorem FS.sn {a1 a2 a3 a4 a5 a6 a7 t : Addr} {T : List (Addr × Str)} {H H' : Hp} (s : Sn T (some t) H H') (h : FS a1 a2 a3 a4 a5 a6 a7 t H) : FS a1 a2 a3 a4 a5 a6 a7 t H' :=
  ⟨s.tup h.h1, s.tup h.h2, s.lst (ne_some h.n3) h.h3, h.n3, s.tup h.h4, s.tup h.h5, s.dK h.h6, s.tup h.h7⟩
def spotsL (a1 a2 a3 a4 a5 a6 a7 : Addr) : List V := [.non, .int 5, .ref a1, .ref a2, .ref a3, .ref a4, .ref a5, .str "ab", .ref a6, .ref a7]
theorem shw_b (d : PyData) (h1 : d.showable = true) (h2 : d.hasDict = false) (h3 : d.depth ≤ 50) (h4 : bnd d ≤ 100000) : Shw d := ⟨h1, h2, h3, Nat.le_trans h4 (by decide)⟩
theorem spot_ok {a1 a2 a3 a4 a5 a6 a7 t : Addr} (h : FS a1 a2 a3 a4 a5 a6 a7 t H) : ∀ x ∈ spotsL a1 a2 a3 a4 a5 a6 a7, PlIs K H x none ∧ ∃ z, ∀ H', FS a1 a2 a3 a4 a5 a6 a7 t H' → RpIs K H' x z := by
  intro x hx
  unfold spotsL at hx
  simp only [List.mem_cons, List.not_mem_nil, or_false] at hx
  rcases hx with rfl | rfl | rfl | rfl | rfl | rfl | rfl | rfl | rfl | rfl
  · exact ⟨.inl ⟨_, .base .non, kit_ty (by decide +kernel)⟩, _, fun H' _ => rp_d .non (shw_b _ (by decide +kernel) (by decide +kernel) (by decide +kernel) (by decide +kernel))⟩
  · exact ⟨.inl ⟨_, .base (.int 5), kit_ty (by decide +kernel)⟩, _, fun H' _ => rp_d (.int 5) (shw_b _ (by decide +kernel) (by decide +kernel) (by decide +kernel) (by decide +kernel))⟩
  · exact ⟨.inr ⟨_, _, rfl, SqT.of h.h1, by decide, .inl (by decide)⟩, _, fun H' h => rp_d (.tup (SqT.of h.h1) (.cons (.int 1) .nil)) (shw_b _ (by decide +kernel) (by decide +kernel) (by decide +kernel) (by decide +kernel))⟩
  · exact ⟨.inr ⟨_, _, rfl, SqT.of h.h2, by decide, .inl (by decide)⟩, _, fun H' h => rp_d (.tup (SqT.of h.h2) (.cons (.int 1) (.cons (.int 2) (.cons (.int 3) .nil)))) (shw_b _ (by decide +kernel) (by decide +kernel) (by decide +kernel) (by decide +kernel))⟩
  · exact ⟨.inl ⟨_, .base (.lst h.h3), kit_ty (by decide +kernel)⟩, _, fun H' h => rp_d (.lst (SqL.of h.h3) (.cons (.int 1) (.cons (.int 2) .nil))) (shw_b _ (by decide +kernel) (by decide +kernel) (by decide +kernel) (by decide +kernel))⟩
  · exact ⟨.inr ⟨_, _, rfl, SqT.of h.h4, by decide, .inr ⟨_, _, rfl, .inl (.inl ⟨true, rfl⟩)⟩⟩, _, fun H' h => rp_d (.tup (SqT.of h.h4) (.cons (.bl true) (.cons (.int 0) .nil))) (shw_b _ (by decide +kernel) (by decide +kernel) (by decide +kernel) (by decide +kernel))⟩
  · exact ⟨.inr ⟨_, _, rfl, SqT.of h.h5, by decide, .inr ⟨_, _, rfl, .inr ⟨0, rfl, .inr ⟨_, .base (.str _), kit_ty (by decide +kernel)⟩⟩⟩⟩, _, fun H' h => rp_d (.tup (SqT.of h.h5) (.cons (.int 0) (.cons (.str "1") .nil))) (shw_b _ (by decide +kernel) (by decide +kernel) (by decide +kernel) (by decide +kernel))⟩
  · exact ⟨.inl ⟨_, .base (.str "ab"), kit_ty (by decide +kernel)⟩, _, fun H' _ => rp_d (.str "ab") (shw_b _ (by decide +kernel) (by decide +kernel) (by decide +kernel) (by decide +kernel))⟩
  · exact ⟨.inl ⟨_, .base (.dK h.h6), kit_ty (by decide +kernel)⟩, _, fun H' h => rp_e h.h6⟩
  · exact ⟨.inr ⟨_, _, rfl, SqT.of h.h7, by decide, .inr ⟨_, _, rfl, .inr ⟨0, rfl, .inr ⟨_, .base .non, kit_ty (by decide +kernel)⟩⟩⟩⟩, _, fun H' h => rp_d (.tup (SqT.of h.h7) (.cons (.int 0) (.cons .non .nil))) (shw_b _ (by decide +kernel) (by decide +kernel) (by decide +kernel) (by decide +kernel))⟩
/-- the odd kinds -/
structure FK (b1 b2 b3 t : Addr) (H : Hp) : Prop where
  h1 : H b1 = some (.tup [.str "left"])
  h2 : H b2 = some (.lst [.str "flip"])
  n2 : b2 ≠ t
  h3 : H b3 = some (.dK [])
theorem FK.sn {b1 b2 b3 t : Addr} {T : List (Addr × Str)} {H H' : Hp} (s : Sn T (some t) H H') (h : FK b1 b2 b3 t H) : FK b1 b2 b3 t H' := ⟨s.tup h.h1, s.lst (ne_some h.n2) h.h2, h.n2, s.dK h.h3⟩
def oddL (g : Str) (b1 b2 b3 : Addr) : List V := [.non, .str "", .str "Left", .str "turn", .str (g ++ (" " : Str)), .str (Txt.upper g), .int 3, .ref b1, .ref b2, .bl true, .ref b3]
theorem r_up0 {σ : L2.St} {n : Nat} {z : Str} (hv : σ[n]? = some (some (.str z))) (hl : z.length ≤ 100000) (q : Q (.str (Txt.upper z)) H) : tM0 (fun x xs H Q => ∃ a, x = V.str a ∧ xs = [] ∧ a.length ≤ 5592405 ∧ Q (V.str (Txt.upper a)) H) (tVar n) σ H Q :=
  r_var hv ⟨⟨_, rfl⟩, _, rfl, rfl, by omega, q⟩
theorem good_sp {g : Str} (h : g ∈ kindsL) : g ++ (" " : Str) ∉ kindsL ∧ Txt.upper g ∉ kindsL ∧ bnd (.str (g ++ (" " : Str))) ≤ 100 ∧ bnd (.str (Txt.upper g)) ≤ 100 ∧ (∀ z ∈ [(PyData.str (g ++ (" " : Str))).shown], ∀ c ∈ tl z, c < 0x110000) ∧ (∀ z ∈ [(PyData.str (Txt.upper g)).shown], ∀ c ∈ tl z, c < 0x110000) := by
  have : ∀ g ∈ kindsL, g ++ (" " : Str) ∉ kindsL ∧ Txt.upper g ∉ kindsL ∧ bnd (.str (g ++ (" " : Str))) ≤ 100 ∧ bnd (.str (Txt.upper g)) ≤ 100 ∧ (∀ z ∈ [(PyData.str (g ++ (" " : Str))).shown], ∀ c ∈ tl z, c < 0x110000) ∧ (∀ z ∈ [(PyData.str (Txt.upper g)).shown], ∀ c ∈ tl z, c < 0x110000) := by decide +kernel
  exact this g h
theorem shw_s {z : Str} (h : bnd (.str z) ≤ 100) : Shw (.str z) := shw_b _ (by rw [PyData.showable]) (by rw [PyData.hasDict]) (by rw [PyData.depth]; decide) (by omega)
theorem odd_ok {b1 b2 b3 t : Addr} {g : Str} (hg : g ∈ kindsL) (h : FK b1 b2 b3 t H) : ∀ x ∈ oddL g b1 b2 b3, KdIs K H x none ∧ ∃ z, ∀ H', FK b1 b2 b3 t H' → RpIs K H' x z := by
  intro x hx
  unfold oddL at hx
  obtain ⟨g1, g2, g3, g4, g5, g6⟩ := good_sp hg
  simp only [List.mem_cons, List.not_mem_nil, or_false] at hx
  rcases hx with rfl | rfl | rfl | rfl | rfl | rfl | rfl | rfl | rfl | rfl | rfl
  · exact ⟨.inl ⟨_, .base .non, kit_ty (by decide +kernel)⟩, _, fun H' _ => rp_d .non (shw_b _ (by decide +kernel) (by decide +kernel) (by decide +kernel) (by decide +kernel))⟩
  · exact ⟨.inr ⟨_, rfl, by decide +kernel⟩, _, fun H' _ => rp_d (.str "") (shw_s (by decide +kernel))⟩
  · exact ⟨.inr ⟨_, rfl, by decide +kernel⟩, _, fun H' _ => rp_d (.str "Left") (shw_s (by decide +kernel))⟩
  · exact ⟨.inr ⟨_, rfl, by decide +kernel⟩, _, fun H' _ => rp_d (.str "turn") (shw_s (by decide +kernel))⟩
  · exact ⟨.inr ⟨_, rfl, g1⟩, _, fun H' _ => rp_d (.str _) (shw_s g3) g5⟩
  · exact ⟨.inr ⟨_, rfl, g2⟩, _, fun H' _ => rp_d (.str _) (shw_s g4) g6⟩
  · exact ⟨.inl ⟨_, .base (.int 3), kit_ty (by decide +kernel)⟩, _, fun H' _ => rp_d (.int 3) (shw_b _ (by decide +kernel) (by decide +kernel) (by decide +kernel) (by decide +kernel))⟩
  · exact ⟨.inl ⟨_, .base (.tup h.h1), kit_ty (by decide +kernel)⟩, _, fun H' h => rp_d (.tup (SqT.of h.h1) (.cons (.str "left") .nil)) (shw_b _ (by decide +kernel) (by decide +kernel) (by decide +kernel) (by decide +kernel))⟩
  · exact ⟨.inl ⟨_, .base (.lst h.h2), kit_ty (by decide +kernel)⟩, _, fun H' h => rp_d (.lst (SqL.of h.h2) (.cons (.str "flip") .nil)) (shw_b _ (by decide +kernel) (by decide +kernel) (by decide +kernel) (by decide +kernel))⟩
  · exact ⟨.inl ⟨_, .base (.bl true), kit_ty (by decide +kernel)⟩, _, fun H' _ => rp_d (.bl true) (shw_b _ (by decide +kernel) (by decide +kernel) (by decide +kernel) (by decide +kernel))⟩
  · exact ⟨.inl ⟨_, .base (.dK h.h3), kit_ty (by decide +kernel)⟩, _, fun H' h => rp_e h.h3⟩
/-- the odd numbers -/
structure FN (c1 c2 c3 t : Addr) (H : Hp) : Prop where
  h1 : H c1 = some (.tup [.int 1])
  h2 : H c2 = some (.lst [.int 3])
  n2 : c2 ≠ t
  h3 : H c3 = some (.dK [])
theorem FN.sn {b1 b2 b3 t : Addr} {T : List (Addr × Str)} {H H' : Hp} (s : Sn T (some t) H H') (h : FN b1 b2 b3 t H) : FN b1 b2 b3 t H' := ⟨s.tup h.h1, s.lst (ne_some h.n2) h.h2, h.n2, s.dK h.h3⟩
def numL (b1 b2 b3 : Addr) : List V := [.non, .bl true, .bl false, .str "2", .ref b1, .ref b2, .ref b3]
theorem num_ok {b1 b2 b3 t : Addr} (h : FN b1 b2 b3 t H) : ∀ x ∈ numL b1 b2 b3, IntIs K H x none ∧ ∃ z, ∀ H', FN b1 b2 b3 t H' → RpIs K H' x z := by
  intro x hx
  unfold numL at hx
  simp only [List.mem_cons, List.not_mem_nil, or_false] at hx
  rcases hx with rfl | rfl | rfl | rfl | rfl | rfl | rfl
  · exact ⟨.inr ⟨_, .base .non, kit_ty (by decide +kernel)⟩, _, fun H' _ => rp_d .non (shw_b _ (by decide +kernel) (by decide +kernel) (by decide +kernel) (by decide +kernel))⟩
  · exact ⟨.inl ⟨true, rfl⟩, _, fun H' _ => rp_d (.bl true) (shw_b _ (by decide +kernel) (by decide +kernel) (by decide +kernel) (by decide +kernel))⟩
  · exact ⟨.inl ⟨false, rfl⟩, _, fun H' _ => rp_d (.bl false) (shw_b _ (by decide +kernel) (by decide +kernel) (by decide +kernel) (by decide +kernel))⟩
  · exact ⟨.inr ⟨_, .base (.str "2"), kit_ty (by decide +kernel)⟩, _, fun H' _ => rp_d (.str "2") (shw_s (by decide +kernel))⟩
  · exact ⟨.inr ⟨_, .base (.tup h.h1), kit_ty (by decide +kernel)⟩, _, fun H' h => rp_d (.tup (SqT.of h.h1) (.cons (.int 1) .nil)) (shw_b _ (by decide +kernel) (by decide +kernel) (by decide +kernel) (by decide +kernel))⟩
  · exact ⟨.inr ⟨_, .base (.lst h.h2), kit_ty (by decide +kernel)⟩, _, fun H' h => rp_d (.lst (SqL.of h.h2) (.cons (.int 3) .nil)) (shw_b _ (by decide +kernel) (by decide +kernel) (by decide +kernel) (by decide +kernel))⟩
  · exact ⟨.inr ⟨_, .base (.dK h.h3), kit_ty (by decide +kernel)⟩, _, fun H' h => rp_e h.h3⟩
theorem r_ne3 {a b : Addr} {tag z : Str} (ct : Cd [tag]) (cz : Cd [z]) (h : H a = some (.lst [.str tag, .str z, .bl true])) (g : H b = some (.lst [.str tag, .str z, .bl true])) (q : Q (.bl false) H) : rNeD K (.ref a) (.ref b) H Q := by
  have e1 := strOk_of (ct tag List.mem_cons_self)
  have e2 := strOk_of (cz z List.mem_cons_self)
  have sh : SeqAt.shaped (.list [.str tag, .str z, .bool true]) = true := by
    unfold SeqAt.shaped
    rw [PyData.canLay0, PyData.canLayAll0, PyData.canLayAll0, PyData.canLayAll0, PyData.canLayAll0, PyData.canLay0, PyData.canLay0, PyData.canLay0, e1, e2, PyData.depth, PyData.depthAll, PyData.depthAll, PyData.depthAll, PyData.depthAll, PyData.depth, PyData.depth, PyData.depth]
    rfl
  refine ⟨.list [.str tag, .str z, .bool true], .list [.str tag, .str z, .bool true], .lst (SqL.of h) (.cons (.str _) (.cons (.str _) (.cons (.bl _) .nil))), .lst (SqL.of g) (.cons (.str _) (.cons (.str _) (.cons (.bl _) .nil))), sh, sh, ?_⟩
  have e : PyData.eqv (.list [.str tag, .str z, .bool true]) (.list [.str tag, .str z, .bool true]) = true := by
    simp [PyData.eqv, PyData.eqvAll]
  rw [e]
  exact q
theorem r_eqKP {a b : Addr} {z : Str} {u v : V} {x y : Int} (cz : Cd [z]) (h : H a = some (.tup [.str z, u])) (hu : IT H u [x, y]) (g : H b = some (.tup [.str z, v])) (hv : IT H v [x, y]) (q : Q (.bl true) H) : rEqD K (.ref a) (.ref b) H Q := by
  have e2 := strOk_of (cz z List.mem_cons_self)
  have sh : SeqAt.shaped (.tuple [.str z, .tuple [.int x, .int y]]) = true := by
    unfold SeqAt.shaped
    rw [PyData.canLay0, PyData.canLayAll0, PyData.canLayAll0, PyData.canLayAll0, PyData.canLay0, PyData.canLay0, PyData.canLayAll0, PyData.canLayAll0, PyData.canLayAll0, PyData.canLay0, PyData.canLay0, e2]
    simp only [PyData.depth, PyData.depthAll]
    rfl
  refine ⟨.tuple [.str z, .tuple [.int x, .int y]], .tuple [.str z, .tuple [.int x, .int y]], .tup (SqT.of h) (.cons (.str _) (.cons (hu.k (K := K)).dp .nil)), .tup (SqT.of g) (.cons (.str _) (.cons (hv.k (K := K)).dp .nil)), sh, sh, ?_⟩
  have e : PyData.eqv (.tuple [.str z, .tuple [.int x, .int y]]) (.tuple [.str z, .tuple [.int x, .int y]]) = true := by
    simp [PyData.eqv, PyData.eqvAll]
  rw [e]
  exact q
/-- what the clause of a class hands back -/
theorem hear_ts {C CE a dd : Addr} {tag z : Str} {D : Ends} {σ : L2.St} {y : V} (hk : PySem.W.kitOne K (.ref C) (.ref CE) = some true) (hd : H dd = some (.xd [("value", y)])) (hs : σ[1]? = some (some (.ref a))) (hr : RpIs K H y z)
    (q : ∀ p H2, Stp none H H2 → H2 p = some (.lst [.str tag, .str z, .bl true]) → D.rt (.ref p) H2) : (hcl K C CE tag).2 a (.ref C) (some dd) D σ H := by
  show tRet (tLst (tCons (tC (V.str tag)) (tCons (tCB (rReprX K) (tCons (tXf a (.ref C) (some dd) C "value" (tVar 1)) tNil)) (tCons (tCB (rIsY K C a (.ref C) (some dd)) (tCons (tVar 1) (tCons (tC (V.ref CE)) tNil))) tNil)))) D σ H
  walk_at "go"
  refine r_xf rfl rfl hd rfl hs ?_
  walk_at "go"
  refine r_reprX hr ?_
  walk_at "go"
  refine r_var hs ?_
  walk_at "go"
  refine ⟨dd, rfl, rfl, _, _, true, _, rfl, fun u h => h, hk, hd, ?_⟩
  walk_at "go"
  rename_i p H2 S2 hp np
  exact q p H2 S2 hp
/-- a call that is heard to be refused -/
theorem heard_ok (T : Txt K mg ad) {C : Addr} {tag z : Str} {y : V} {i : Nat} {σ : L2.St} {H : Hp} {D : Ends} {te : XK → TE} {t : Addr}
    (hc : (C = ad.C_InvalidMotion ∧ tag = "motion") ∨ (C = ad.C_InvalidPlace ∧ tag = "place") ∨ (C = ad.C_InvalidNumber ∧ tag = "number"))
    (hi : σ[i]? = some (some y)) (hT : Tabs (LT ad.PT_law) H)
    (hz : ∀ H', Sn (LT ad.PT_law) (some t) H H' → RpIs K H' y z)
    (ht : ∀ H1 (E : XK) Q', Sn (LT ad.PT_law) (some t) H H1 → (∀ H' d, Stp none H1 H' → H' d = none → E (.ref C) (some d) (upd H' d (.xd [("value", y)]))) → te E σ H1 Q')
    (q : ∀ H', Sn (LT ad.PT_law) (some t) H H' → D.nx σ H') :
    tIfS (tTest (tOp (rNeD K) (tLam (LT ad.PT_law) (TTas K N_law_heard 1 (hl K ad) (tRet (tC (V.str "none")))) te) (tLst (tCons (tC (V.str tag)) (tCons (tCB (rReprX K) (tCons (tVar i) tNil)) (tCons (tC (V.bl true)) tNil)))))) (tRet (tC (V.bl false))) tNext D σ H := by
  walk_at "go"
  refine r_lam hT fun H1 e1 t1 => r_TTas fun f => ?_
  have s1 : Sn (LT ad.PT_law) (some t) H H1 := Sn.lam e1 t1
  refine ht H1 _ _ s1 fun H2 d S2 hd σ' hl' => ?_
  have s2 : Sn (LT ad.PT_law) (some t) H (upd H2 d (.xd [("value", y)])) := s1.trans (Sn.ofN (S2.trans (Stp.up0 hd)))
  have ct : Cd [tag] := by rcases hc with ⟨_, rfl⟩ | ⟨_, rfl⟩ | ⟨_, rfl⟩ <;> (unfold Cd; decide +kernel)
  have fin : ∀ p H3, Stp none (upd H2 d (.xd [("value", y)])) H3 → H3 p = some (.lst [.str tag, .str z, .bl true]) →
      (tLst (tCons (tC (V.str tag)) (tCons (tCB (rReprX K) (tCons (tVar i) tNil)) (tCons (tC (V.bl true)) tNil)))) σ H3 fun y H2 => rNeD K (.ref p) y H2 fun x H' => ∃ k, x = V.bl k ∧ if k = true then tRet (tC (V.bl false)) D σ H' else tNext D σ H' := by
    intro p H3 S3 hp
    walk_at "go"
    refine r_var hi ?_
    walk_at "go"
    refine r_reprX (hz _ (s2.trans (Sn.ofN S3))) ?_
    walk_at "go"
    rename_i p4 H4 S4 hp4 n4
    refine r_ne3 ct (hz _ s2).1 (At.lst S4 hp) hp4 ?_
    walk_at "go"
    exact q _ (s2.trans (Sn.ofN (S3.trans S4)))
  have l2 : σ'.length = 2 := hl'
  obtain ⟨z0, z1, rfl⟩ : ∃ z0 z1, σ' = [z0, z1] := by
    match σ', l2 with
    | [z0, z1], _ => exact ⟨z0, z1, rfl⟩
  have hH := hz _ s2
  have hd' : (upd H2 d (HO.xd [((("value" : Str)), y)])) d = some (.xd [("value", y)]) := upd_same ..
  rcases hc with ⟨rfl, rfl⟩ | ⟨rfl, rfl⟩ | ⟨rfl, rfl⟩
  · exact ⟨true, T.em_InvalidMotion_InvalidMotion, fun _ a ha => hear_ts T.ki_InvalidMotion hd' rfl hH fin, fun e => by cases e⟩
  · exact ⟨false, T.em_InvalidPlace_InvalidMotion, (fun e => by cases e), fun _ => ⟨true, T.em_InvalidPlace_InvalidPlace, fun _ a ha => hear_ts T.ki_InvalidPlace hd' rfl hH fin, fun e => by cases e⟩⟩
  · exact ⟨false, T.em_InvalidNumber_InvalidMotion, (fun e => by cases e), fun _ => ⟨false, T.em_InvalidNumber_InvalidPlace, (fun e => by cases e), fun _ => ⟨true, T.em_InvalidNumber_InvalidNumber, fun _ a ha => hear_ts T.ki_InvalidNumber hd' rfl hH fin, fun e => by cases e⟩⟩⟩
end
end Law

set_option Elab.async false
set_option linter.all false
set_option maxRecDepth 100000
set_option maxHeartbeats 400000
namespace Law
open PySem PySem.Spec PyProof.Rows L2 MV TL LamX
local macro_rules | `(tactic| walk_at "up") => `(tactic| first
  | assumption
  | (refine' IT.mv ?s ?g; (case s => assumption); (case g => walk_at "up"))
  | (refine' IT.k ?g; (case g => walk_at "up"))
  | (refine' IK.mv ?s ?g; (case s => assumption); (case g => walk_at "up"))
  | (refine' Tape.mvN ?s ?g; (case s => assumption); (case g => walk_at "up"))
  | (refine' Tape.mvS ?s ?g; (case s => assumption); (case g => walk_at "up"))
  | (refine' At.tup ?s ?g; (case s => assumption); (case g => walk_at "up"))
  | (refine' At.ins ?s ?g; (case s => assumption); (case g => walk_at "up"))
  | (refine' At.lst ?s ?g; (case s => assumption); (case g => walk_at "up"))
  | (refine' At.lstS ?s ?n ?g; (case s => assumption); (case n => assumption); (case g => walk_at "up"))
  | fail)
local macro_rules | `(tactic| walk_at "st") => `(tactic| first
  | assumption
  | exact Stp.refl _ _
  | (refine' Stp.w ?s; (case s => assumption))
  | (refine' Stp.trans ?g ?s; (case s => (first | assumption | (refine' Stp.w ?u; (case u => assumption)))); (case g => walk_at "st"))
  | fail)
local macro_rules | `(tactic| walk_at "bT") => `(tactic| first
  | decide
  | (simp only [Bool.not_eq_true', Bool.not_eq_false', decide_eq_true_eq, decide_eq_false_iff_not]; omega)
  | fail)
local macro_rules | `(tactic| walk_at "sd") => `(tactic| first | assumption | decide | omega | fail)
local macro_rules | `(tactic| walk_at "r") => `(tactic| first
  | (with_reducible refine r_seq ?_)
  | (with_reducible refine r_asg ?_)
  | ((with_reducible refine' r_var ?h ?k); (case h => rfl))
  | (with_reducible refine r_c ?_)
  | (with_reducible refine r_op ?_)
  | (with_reducible refine r_un ?_)
  | (with_reducible refine r_nil ?_)
  | (with_reducible refine r_cons ?_)
  | (with_reducible refine r_tup ?_)
  | (with_reducible refine r_lst ?_)
  | (with_reducible refine r_cbLen ?_)
  | (with_reducible refine r_cbInt ?_)
  | (with_reducible refine r_cbRepr ?_)
  | (with_reducible refine r_cbTup ?_)
  | (with_reducible refine r_cbLst ?_)
  | (with_reducible refine r_cb ?_)
  | (with_reducible refine r_prop ?_)
  | (with_reducible refine r_andV ?_)
  | (with_reducible refine r_orV ?_)
  | (with_reducible refine r_notV ?_)
  | (with_reducible refine r_chain ?_)
  | (with_reducible refine r_ifE ?_)
  | (with_reducible refine r_test ?_)
  | (with_reducible refine r_B ?_)
  | (with_reducible refine r_and ?_)
  | (with_reducible refine r_or ?_)
  | (with_reducible refine r_not ?_)
  | (with_reducible refine r_yes ?_)
  | (with_reducible refine r_k ?_)
  | (with_reducible refine r_kV ?_)
  | (with_reducible refine r_next ?_)
  | (with_reducible refine r_drop ?_)
  | (with_reducible refine r_ret ?_)
  | (with_reducible refine r_ifS ?_)
  | (with_reducible refine r_par ?_)
  | (with_reducible refine r_par1 ?_)
  | (with_reducible refine r_gname ?_)
  | (with_reducible refine r_gnil ?_)
  | (with_reducible refine r_gcons ?_)
  | ((with_reducible refine' r_unpack2 ?h ?k); (case h => walk_at "up"))
  | ((with_reducible refine' r_unpack3 ?h ?k); (case h => walk_at "up"))
  | (with_reducible refine r_add ?_)
  | (with_reducible refine r_sub ?_)
  | (with_reducible refine r_neg ?_)
  | ((with_reducible refine' r_mod ?h ?k); (case h => walk_at "sd"))
  | ((with_reducible refine' r_div ?h ?k); (case h => walk_at "sd"))
  | ((with_reducible refine' r_mul ?h ?k); (case h => walk_at "sd"))
  | ((with_reducible refine' r_mulW ?h ?k); (case h => walk_at "sd"))
  | ((with_reducible refine' r_pow ?h ?k); (case h => (show (0 : Int) ≤ _ ∧ _ ∧ _; decide)))
  | (with_reducible refine r_lt ?_)
  | (with_reducible refine r_le ?_)
  | (with_reducible refine r_gt ?_)
  | (with_reducible refine r_ge ?_)
  | (with_reducible refine r_eqI ?_)
  | (with_reducible refine r_neI ?_)
  | (with_reducible refine r_eqS ?_)
  | (with_reducible refine r_neS ?_)
  | ((with_reducible refine' r_eqT ?h ?g ?k); (case h => walk_at "up"); (case g => walk_at "up"))
  | ((with_reducible refine' r_neT ?h ?g ?k); (case h => walk_at "up"); (case g => walk_at "up"))
  | ((with_reducible refine' r_ix0 ?h ?k); (case h => walk_at "up"))
  | ((with_reducible refine' r_ix1 ?h ?k); (case h => walk_at "up"))
  | ((with_reducible refine' r_ix2 ?h ?k); (case h => walk_at "up"))
  | (with_reducible refine r_newI2 (fun v H2 S I => ?_))
  | (with_reducible refine r_newI3 (fun v H2 S I => ?_))
  | (with_reducible refine r_newL1 (fun p H2 S hp np => ?_))
  | (with_reducible refine r_newL2 (fun p H2 S hp np => ?_))
  | (with_reducible refine r_newL3 (fun p H2 S hp np => ?_))
  | (with_reducible refine r_T ?_)
  | (with_reducible refine r_F ?_)
  | fail)
local macro_rules | `(tactic| walk_at "go") => `(tactic| repeat (walk_at "r"))
local macro_rules | `(tactic| walk_at "r") => `(tactic| first
  | (with_reducible refine r_call0 ?_)
  | (with_reducible refine r_meth0 ?_)
  | (with_reducible refine r_make0 ?_)
  | (with_reducible refine r_isiII ?_)
  | (with_reducible refine r_isiIB ?_)
  | ((with_reducible refine' r_isiTT ?h ?k); (case h => walk_at "up"))
  | ((with_reducible refine' r_len2 ?h ?k); (case h => walk_at "up"))
  | ((with_reducible refine' r_len3 ?h ?k); (case h => walk_at "up"))
  | ((with_reducible refine' r_lenL ?h ?k); (case h => walk_at "up"))
  | (with_reducible refine r_int1 ?_)
  | (with_reducible refine r_int1B ?_)
  | (with_reducible refine r_nT ?_)
  | (with_reducible refine r_nF ?_)
  | (with_reducible refine r_gcd ?_)
  | (with_reducible refine r_gsub ?_)
  | (with_reducible refine r_fld ?_)
  | (with_reducible refine r_p6 ?_)
  | (with_reducible refine r_p9 ?_)
  | (with_reducible refine r_p10 ?_)
  | (with_reducible refine r_p11 ?_)
  | (with_reducible refine r_p12 ?_)
  | (with_reducible refine r_p18 ?_)
  | (with_reducible refine r_p20 ?_)
  | (with_reducible refine r_p26 ?_)
  | (with_reducible refine r_p27 ?_)
  | (with_reducible refine r_p30 ?_)
  | ((with_reducible refine' r_iF ?h ?k); (case h => walk_at "bT"))
  | ((with_reducible refine' r_iT ?h ?k); (case h => walk_at "bT"))
  | (with_reducible refine r_sfld ?_)
  | (with_reducible refine r_sl ?_)
  | (with_reducible refine r_noPart ?_)
  | (with_reducible refine r_part ?_)
  | (with_reducible refine r_pk ?_)
  | ((with_reducible refine' r_unl2 ?h ?k); (case h => walk_at "up"))
  | ((with_reducible refine' r_ixLi ?h ?h0 ?hn ?k); (case h => walk_at "up"); (case h0 => walk_at "sd"); (case hn => rfl))
  | fail)

local macro_rules | `(tactic| walk_at "r") => `(tactic| first
  | (with_reducible refine r_for ?_)
  | (with_reducible refine r_lc ?_)
  | (with_reducible refine r_iList ?_)
  | (with_reducible refine r_iTup ?_)
  | (with_reducible refine r_iStr ?_)
  | (with_reducible refine it_s ?_)
  | (with_reducible refine r_iRng1 ?_)
  | (with_reducible refine r_iRng2 ?_)
  | (with_reducible refine r_iEnumA ?_)
  | (with_reducible refine r_bm ?_)
  | (with_reducible refine r_inS ?_)
  | (with_reducible refine r_cbAll ?_)
  | (with_reducible refine r_cbIsiT ?_)
  | (with_reducible refine r_cbLenS ?_)
  | (with_reducible refine r_makeK0 ?_)
  | (with_reducible refine r_makeK1 ?_)
  | (with_reducible refine mkk1 ?_)
  | fail)
local macro_rules | `(tactic| walk_at "up") => `(tactic| first
  | (refine' SqL.mvN ?s ?g; (case s => assumption); (case g => walk_at "up"))
  | (refine' SqT.mvS ?s ?g; (case s => assumption); (case g => walk_at "up"))
  | fail)

local macro_rules | `(tactic| walk_at "up") => `(tactic| first | (refine' MA.mv ?s ?g; (case s => assumption); (case g => walk_at "up")) | fail)
local macro_rules | `(tactic| walk_at "dr") => `(tactic| (refine do_law_draw (by walk_at "up") (by first | decide | omega) (by first | decide | omega) ?_))
section
variable {P : Program} {w : World} {K : PySem.W.Frag} {mg : Str → Option Value} {base : Heap} {ad : Ad} {H : Hp} {Q : VK} {E : XK} {i j x y : Int} {v : V}
def sp_law (K : PySem.W.Frag) (pt : Addr) : Sp := fun vs H Q _ => ∃ (l : Addr) (ns : List Int), vs = [.ref l] ∧ SqL K H l (ns.map V.int) ∧ Tabs (LT pt) H ∧ ∀ H', Q (.bl true) H'
theorem sp_start (K : PySem.W.Frag) (H : Hp) (pt a : Addr) (ns : List Int) (hl : ns.length ≤ 63) (hT : H pt = some (.tbl #[])) (h : SqL K H a (ns.map V.int)) : sp_law K pt [.ref a] H (fun v _ => v = .bl true) fun _ _ _ => False :=
  ⟨a, ns, rfl, h, fun p hp => by rw [List.mem_singleton.mp hp]; exact TabS.nil hT, fun _ => rfl⟩
theorem ok_law (T : Txt K mg ad) (TB : LamX.TabB base mg ad.cc_law ad.PT_law) : FnG P w K mg base CX0 9 ad.law ad.law_d ["_law_script"] (sp_law K ad.PT_law) := by
  have G_Motion_init := ok_Motion_init (P := P) (w := w) (base := base) T
  have G_Motion_by := ok_Motion_by (P := P) (w := w) (base := base) T
  have G_Motion_kind := ok_Motion_kind (P := P) (w := w) (base := base) T
  have G_Motion_shift := ok_Motion_shift (P := P) (w := w) (base := base) T
  have G_Motion_call := ok_Motion_call (P := P) (w := w) (base := base) T
  have G_Motion_repeated := ok_Motion_repeated (P := P) (w := w) (base := base) T
  have G_law_tape := ok_law_tape (P := P) (w := w) (base := base) T
  have G_law_draw := ok_law_draw (P := P) (w := w) (base := base) T
  have G_law_place := ok_law_place (P := P) (w := w) (base := base) T
  have G_law_kinds := ok_law_kinds (P := P) (w := w) (base := base) T
  obtain ⟨ds_Motion_init, vd_Motion_init, bd_Motion_init⟩ := T.bd_Motion_init
  refine FunC.g T.FC_law sc_law (fun vs H Q E h => ?_) (fun A outer s H vs Q E hr hg h => ?_)
  · obtain ⟨l, ns, rfl, _⟩ := h
    rfl
  · obtain ⟨l, ns, rfl, hS, hT, q⟩ := h
    suffices z : ∃ t, PSs (cxOf CX0 P w K mg base N_law "law" (defScope s_law) ad.law (.ref ad.cc_law) A outer s H E).nox (defBody s_law) t ∧ t { nx := fun _ H' => Q .non H', rt := Q } (start N_law [.ref l]) H by
      obtain ⟨t, p, q⟩ := z
      exact ⟨t, p.nox, q⟩
    refine ⟨_, (pss_cons (ps_set (i := 1) sc_law.nd rfl (Or.inl rfl) (peg_call G_law_tape (hr.mono (by decide)) hg (by rfl) T.g_law_tape T.F_law_tape.kp T.b_law_tape .nil pass0 (pa_cons (pv 0) pa_nil)))
      (pss_cons (ps_asg (pe_tup (pa_cons (pe_ix ix_seq (peg_call0 G_law_kinds (hr.mono (by decide)) hg (by rfl) T.g_law_kinds T.F_law_kinds.kp T.b_law_kinds .nil pass0) (peg_call G_law_draw (hr.mono (by decide)) hg (by rfl) T.g_law_draw T.F_law_draw.kp T.b_law_draw .nil pass0 (pa_cons (pv 1) (pa_cons pe_int pa_nil))) (fun _ _ => rfl)) (pa_cons (peg_call G_law_place (hr.mono (by decide)) hg (by rfl) T.g_law_place T.F_law_place.kp T.b_law_place .nil pass0 (pa_cons (pv 1) pa_nil)) pa_nil))) (pg_tup (n := 2) rfl (pgs_cons (pg_name (i := 2) sc_law.nd rfl (Or.inr rfl)) (pgs_cons (pg_name (i := 3) sc_law.nd rfl (Or.inl rfl)) pgs_nil))))
      (pss_cons (ps_set (i := 4) sc_law.nd rfl (Or.inl rfl) (pe_lst (pa_cons pe_non (pa_cons pe_int (pa_cons (pe_tup (pa_cons pe_int pa_nil)) (pa_cons (pe_tup (pa_cons pe_int (pa_cons pe_int (pa_cons pe_int pa_nil)))) (pa_cons (pe_lst (pa_cons pe_int (pa_cons pe_int pa_nil))) (pa_cons (pe_tup (pa_cons pe_bl (pa_cons pe_int pa_nil))) (pa_cons (pe_tup (pa_cons pe_int (pa_cons pe_str pa_nil))) (pa_cons pe_str (pa_cons pe_dnewK (pa_cons (pe_tup (pa_cons pe_int (pa_cons pe_non pa_nil))) pa_nil))))))))))))
      (pss_cons (ps_set (i := 5) sc_law.nd rfl (Or.inr rfl) (peg_make T.k_Motion G_Motion_init (hr.mono (by decide)) hg (by rfl) T.g_Motion T.b_Motion_init .nil passL (pa_cons (pv 2) (pa_cons (pv 3) pa_nil))))
      (pss_cons (ps_for PassesOwn.never rfl (pi_list (pe_lst (pa_cons pe_non (pa_cons pe_str (pa_cons pe_str (pa_cons pe_str (pa_cons (pe_op op_addS (pv 2) pe_str) (pa_cons (pe_upper (pv 2)) (pa_cons pe_int (pa_cons (pe_tup (pa_cons pe_str pa_nil)) (pa_cons (pe_lst (pa_cons pe_str pa_nil)) (pa_cons pe_bl (pa_cons pe_dnewK pa_nil))))))))))))) (pg_name (i := 6) sc_law.nd rfl (Or.inr rfl))
      (pss_cons (ps_for PassesOwn.never rfl (pi_list (pe_lst (pa_cons (pv 3) (pa_cons pe_non (pa_cons (pe_ix ix_seq (pv 4) (peg_call G_law_draw (hr.mono (by decide)) hg (by rfl) T.g_law_draw T.F_law_draw.kp T.b_law_draw .nil pass0 (pa_cons (pv 1) (pa_cons pe_int pa_nil))) (fun _ _ => rfl)) pa_nil))))) (pg_name (i := 7) sc_law.nd rfl (Or.inr rfl))
      (pss_one (ps_if (pt_cmpR (op_neD hr.units) (peg_lam1 (qn := ("law" : Str) ++ (".<locals>." : Str)) rfl (a := "_law_call") (c := ad.cc_law) (P := ad.PT_law) (k := 6) rfl TB hg (hr.mono (by decide)) (by rfl) T.g_law_heard T.F_law_heard T.b_law_heard sc_law_heard rfl (.inl rfl) (fun cdv => gv_law_heard T hg (hr.mono (by decide)) _ cdv) (lamS_by (sc := defScope s_law) (by decide +kernel)) rfl (fun _ _ _ _ _ => rfl) (fun A outer s H E f c hg hr => (peg_make T.k_Motion G_Motion_init (hr.mono (by decide)) hg (by rfl) T.g_Motion T.b_Motion_init .nil passLam (pa_cons (pv 6) (pa_cons (pv 7) pa_nil))))) (pe_lst (pa_cons pe_str (pa_cons (pe_callB (callg_reprX hg hr.units) (by rfl) T.z_repr (by decide +kernel) (pa_cons (pv 6) pa_nil)) (pa_cons pe_bl pa_nil)))) (nomark _))
      (pss_one (ps_ret pe_bl)) pss_nil)))
      (pss_one (ps_if (pt_cmpR (op_neD hr.units) (peg_lam1 (qn := ("law" : Str) ++ (".<locals>." : Str)) rfl (a := "_law_call") (c := ad.cc_law) (P := ad.PT_law) (k := 6) rfl TB hg (hr.mono (by decide)) (by rfl) T.g_law_heard T.F_law_heard T.b_law_heard sc_law_heard rfl (.inl rfl) (fun cdv => gv_law_heard T hg (hr.mono (by decide)) _ cdv) (lamS_by (sc := defScope s_law) (by decide +kernel)) rfl (fun _ _ _ _ _ => rfl) (fun A outer s H E f c hg hr => (peg_make T.k_Motion G_Motion_init (hr.mono (by decide)) hg (by rfl) T.g_Motion bd_Motion_init vd_Motion_init passLam (pa_cons (pv 6) pa_nil)))) (pe_lst (pa_cons pe_str (pa_cons (pe_callB (callg_reprX hg hr.units) (by rfl) T.z_repr (by decide +kernel) (pa_cons (pv 6) pa_nil)) (pa_cons pe_bl pa_nil)))) (nomark _))
      (pss_one (ps_ret pe_bl)) pss_nil))))
      (pss_cons (ps_for PassesOwn.never rfl (pi_list (pv 4)) (pg_name (i := 6) sc_law.nd rfl (Or.inr rfl))
      (pss_cons (ps_if (pt_cmpR (op_neD hr.units) (peg_lam1 (qn := ("law" : Str) ++ (".<locals>." : Str)) rfl (a := "_law_call") (c := ad.cc_law) (P := ad.PT_law) (k := 6) rfl TB hg (hr.mono (by decide)) (by rfl) T.g_law_heard T.F_law_heard T.b_law_heard sc_law_heard rfl (.inl rfl) (fun cdv => gv_law_heard T hg (hr.mono (by decide)) _ cdv) (lamS_by (sc := defScope s_law) (by decide +kernel)) rfl (fun _ _ _ _ _ => rfl) (fun A outer s H E f c hg hr => (peg_make T.k_Motion G_Motion_init (hr.mono (by decide)) hg (by rfl) T.g_Motion T.b_Motion_init .nil passLam (pa_cons (pv 2) (pa_cons (pv 6) pa_nil))))) (pe_lst (pa_cons pe_str (pa_cons (pe_callB (callg_reprX hg hr.units) (by rfl) T.z_repr (by decide +kernel) (pa_cons (pv 6) pa_nil)) (pa_cons pe_bl pa_nil)))) (nomark _))
      (pss_one (ps_ret pe_bl)) pss_nil)
      (pss_cons (ps_if (pt_cmpR (op_neD hr.units) (peg_lam1 (qn := ("law" : Str) ++ (".<locals>." : Str)) rfl (a := "_law_call") (c := ad.cc_law) (P := ad.PT_law) (k := 6) rfl TB hg (hr.mono (by decide)) (by rfl) T.g_law_heard T.F_law_heard T.b_law_heard sc_law_heard rfl (.inl rfl) (fun cdv => gv_law_heard T hg (hr.mono (by decide)) _ cdv) (lamS_by (sc := defScope s_law) (by decide +kernel)) rfl (fun _ _ _ _ _ => rfl) (fun A outer s H E f c hg hr => (peg_calli (i := 5) T.o_Motion_call T.fn_Motion_call G_Motion_call (hr.mono (by decide)) hg T.b_Motion_call passLam rfl (.inr (.inr rfl)) (pa_cons (pv 6) pa_nil)))) (pe_lst (pa_cons pe_str (pa_cons (pe_callB (callg_reprX hg hr.units) (by rfl) T.z_repr (by decide +kernel) (pa_cons (pv 6) pa_nil)) (pa_cons pe_bl pa_nil)))) (nomark _))
      (pss_one (ps_ret pe_bl)) pss_nil)
      (pss_one (ps_if (pt_cmpR (op_neD hr.units) (peg_lam1 (qn := ("law" : Str) ++ (".<locals>." : Str)) rfl (a := "_law_call") (c := ad.cc_law) (P := ad.PT_law) (k := 6) rfl TB hg (hr.mono (by decide)) (by rfl) T.g_law_heard T.F_law_heard T.b_law_heard sc_law_heard rfl (.inl rfl) (fun cdv => gv_law_heard T hg (hr.mono (by decide)) _ cdv) (lamS_by (sc := defScope s_law) (by decide +kernel)) rfl (fun _ _ _ _ _ => rfl) (fun A outer s H E f c hg hr => (peg_smeth (pe_glob (v := V.ref ad.C_Motion) rfl T.g_Motion rfl) T.sm_Motion_by G_Motion_by (hr.mono (by decide)) hg T.b_Motion_by .nil passLam (pa_cons (pv 6) pa_nil)))) (pe_lst (pa_cons pe_str (pa_cons (pe_callB (callg_reprX hg hr.units) (by rfl) T.z_repr (by decide +kernel) (pa_cons (pv 6) pa_nil)) (pa_cons pe_bl pa_nil)))) (nomark _))
      (pss_one (ps_ret pe_bl)) pss_nil)))))
      (pss_cons (ps_for PassesOwn.never rfl (pi_list (pe_lst (pa_cons pe_non (pa_cons pe_bl (pa_cons pe_bl (pa_cons pe_str (pa_cons (pe_tup (pa_cons pe_int pa_nil)) (pa_cons (pe_lst (pa_cons pe_int pa_nil)) (pa_cons pe_dnewK pa_nil))))))))) (pg_name (i := 6) sc_law.nd rfl (Or.inr rfl))
      (pss_one (ps_if (pt_cmpR (op_neD hr.units) (peg_lam1 (qn := ("law" : Str) ++ (".<locals>." : Str)) rfl (a := "_law_call") (c := ad.cc_law) (P := ad.PT_law) (k := 6) rfl TB hg (hr.mono (by decide)) (by rfl) T.g_law_heard T.F_law_heard T.b_law_heard sc_law_heard rfl (.inl rfl) (fun cdv => gv_law_heard T hg (hr.mono (by decide)) _ cdv) (lamS_by (sc := defScope s_law) (by decide +kernel)) rfl (fun _ _ _ _ _ => rfl) (fun A outer s H E f c hg hr => (peg_meth (pv 5) T.cl_Motion T.m_Motion_repeated G_Motion_repeated (hr.mono (by decide)) hg T.b_Motion_repeated .nil passLam (pa_cons (pv 6) pa_nil)))) (pe_lst (pa_cons pe_str (pa_cons (pe_callB (callg_reprX hg hr.units) (by rfl) T.z_repr (by decide +kernel) (pa_cons (pv 6) pa_nil)) (pa_cons pe_bl pa_nil)))) (nomark _))
      (pss_one (ps_ret pe_bl)) pss_nil)))
      (pss_one (ps_ret (pe_cmpR (op_eqD hr.units) (pe_tup (pa_cons (peg_prop (pv 5) T.cl_Motion T.p_Motion_kind G_Motion_kind (hr.mono (by decide)) hg T.b_Motion_kind .nil pass0) (pa_cons (peg_prop (pv 5) T.cl_Motion T.p_Motion_shift G_Motion_shift (hr.mono (by decide)) hg T.b_Motion_shift .nil pass0) pa_nil))) (pe_tup (pa_cons (pv 2) (pa_cons (pv 3) pa_nil))) (nomark _))))))))))), ?_⟩
    walk_at "go"
    refine do_law_tape hS fun t H1 S1 nt T1 => ?_
    have B1 : Tabs (LT ad.PT_law) H1 := Tabs.stp S1 hT
    walk_at "go"
    refine do_law_kinds fun pk H2 S2 hpk npk => ?_
    have T2 : Tape H2 t := T1.mvN S2
    walk_at "go"
    walk_at "dr"
    intro r1 H3 r10 r11 S3
    have hpk3 : H3 pk = some (.lst (kindsL.map V.str)) := At.lstS S3 (ne_tape (ss := kindsL) T2 hpk) hpk
    obtain ⟨k, hk1, hk2⟩ : ∃ k, (kindsL.map V.str)[r1.toNat]? = some (.str k) ∧ k ∈ kindsL := by
      have h8 : r1.toNat < kindsL.length := by show r1.toNat < 8; omega
      exact ⟨kindsL[r1.toNat], by rw [List.getElem?_map, List.getElem?_eq_getElem h8]; rfl, List.getElem_mem _⟩
    refine r_ixLi hpk3 r10 hk1 ?_
    have T3 : Tape H3 t := T2.mvS S3
    walk_at "go"
    refine do_law_place T3 fun vp px py H4 p1 p2 p3 p4 S4 i4 => ?_
    have T4 : Tape H4 t := T3.mvS S4
    walk_at "go"
    refine r_newT (sz100 (Nat.le_of_ble_eq_true rfl)) fun p5 H5 S5 h5 n5 => ?_
    walk_at "go"
    refine r_unT2 h5 ?_
    have i5 : IT H5 vp [px, py] := i4.mv S5
    have T5 : Tape H5 t := T4.mvN S5
    have B5 : Tabs (LT ad.PT_law) H5 := Tabs.stp S5 (Tabs.stp S4 (Tabs.stp S3 (Tabs.stp S2 B1)))
    clear i4 h5 n5 S5 S4 T4 T3 hpk3 hk1 S3 T2 hpk npk S2 T1 B1 S1 nt
    walk_at "go"
    refine r_newT (sz100 (Nat.le_of_ble_eq_true rfl)) fun a1 H6 S6 h6 n6 => ?_
    walk_at "go"
    rename_i va2 H7 S7 i7 a3 H8 S8 h8 n8
    obtain ⟨a2, rfl, h7⟩ := i7
    have T8 : Tape H8 t := ((T5.mvN S6).mvN S7).mvN S8
    have n3 : a3 ≠ t := by
      obtain ⟨_, _, _, _, _, _, e, _⟩ := T8
      rintro rfl
      rw [h8] at e
      cases e
    refine r_newT (sz100 (Nat.le_of_ble_eq_true rfl)) fun a4 H9 S9 h9 n9 => ?_
    walk_at "go"
    refine r_newT (sz100 (Nat.le_of_ble_eq_true rfl)) fun a5 H10 S10 h10 n10 => ?_
    walk_at "go"
    refine r_dnew fun a6 H11 S11 h11 n11 => ?_
    walk_at "go"
    refine r_newT (sz100 (Nat.le_of_ble_eq_true rfl)) fun a7 H12 S12 h12 n12 => ?_
    walk_at "go"
    refine r_newL (sz100 (Nat.le_of_ble_eq_true rfl)) fun ps H13 S13 h13 n13 => ?_
    walk_at "go"
    have T13 : Tape H13 t := ((((T8.mvN S9).mvN S10).mvN S11).mvN S12).mvN S13
    have s9 : Stp none H8 H13 := S9.trans (S10.trans (S11.trans (S12.trans S13)))
    have s6 : Stp none H5 H13 := S6.trans (S7.trans (S8.trans s9))
    have fs : FS a1 a2 a3 a4 a5 a6 a7 t H13 :=
      ⟨At.tup (S7.trans (S8.trans s9)) h6, At.tup (S8.trans s9) h7, At.lst s9 h8, n3, At.tup (S10.trans (S11.trans (S12.trans S13))) h9, At.tup (S11.trans (S12.trans S13)) h10, (S12.trans S13).ge _ _ (fun _ _ e => by cases e) h11, At.tup S13 h12⟩
    have i13 : IT H13 vp [px, py] := i5.mv s6
    have B13 : Tabs (LT ad.PT_law) H13 := Tabs.stp s6 B5
    have np : ps ≠ t := ne_tape' T13 h13
    clear i5 T5 B5 S6 h6 n6 S7 h7 S8 h8 n8 T8 S9 h9 n9 S10 h10 n10 S11 h11 n11 S12 h12 n12 S13 n13 s9 s6
    refine do_Motion hk2 i13.k fun u H14 S14 m14 => ?_
    have T14 : Tape H14 t := T13.mvN S14
    have fs14 : FS a1 a2 a3 a4 a5 a6 a7 t H14 := fs.sn (Sn.ofN (T := LT ad.PT_law) S14)
    have i14 : IT H14 vp [px, py] := i13.mv S14
    have B14 : Tabs (LT ad.PT_law) H14 := Tabs.stp S14 B13
    have h14 : H14 ps = some (.lst (spotsL a1 a2 a3 a4 a5 a6 a7)) := At.lst S14 h13
    clear i13 T13 B13 fs h13 S14
    walk_at "go"
    have kl : k.length ≤ 10 := (by decide +kernel : ∀ g ∈ kindsL, g.length ≤ 10) k hk2
    refine r_addS (z := (" " : Str)) (by have : (" " : Str).length = 1 := rfl
                                         omega) ?_
    walk_at "go"
    refine r_up0 (z := k) rfl (by omega) ?_
    walk_at "go"
    refine r_newT (sz100 (Nat.le_of_ble_eq_true rfl)) fun b1 H15 S15 h15 n15 => ?_
    walk_at "go"
    rename_i b2 H16 S16 h16 n16
    refine r_dnew fun b3 H17 S17 h17 n17 => ?_
    walk_at "go"
    refine r_newL (sz100 (Nat.le_of_ble_eq_true rfl)) fun po H18 S18 h18 n18 => ?_
    have T18 : Tape H18 t := (((T14.mvN S15).mvN S16).mvN S17).mvN S18
    have s15 : Stp none H14 H18 := S15.trans (S16.trans (S17.trans S18))
    have fk : FK b1 b2 b3 t H18 := ⟨At.tup (S16.trans (S17.trans S18)) h15, At.lst (S17.trans S18) h16, ne_tape' (T14.mvN S15 |>.mvN S16) h16, S18.ge _ _ (fun _ _ e => by cases e) h17⟩
    have fs18 : FS a1 a2 a3 a4 a5 a6 a7 t H18 := fs14.sn (Sn.ofN (T := LT ad.PT_law) s15)
    have i18 : IT H18 vp [px, py] := i14.mv s15
    have B18 : Tabs (LT ad.PT_law) H18 := Tabs.stp s15 B14
    have h18s : H18 ps = some (.lst (spotsL a1 a2 a3 a4 a5 a6 a7)) := At.lst s15 h14
    have m18 : MA ad.C_Motion H18 u k px py := m14.mv s15
    have no : po ≠ t := ne_tape' T18 h18
    clear T14 fs14 i14 B14 h14 m14 S15 h15 n15 S16 h16 n16 S17 h17 n17 S18 n18 s15
    have h18o : H18 po = some (.lst (oddL k b1 b2 b3)) := h18
    clear h18
    refine it_l (SqL.of h18o) ?_
    refine ForJ.ok walk_list (fun i σ H' => ∃ c6 c7, σ = [some (.ref l), some (.ref t), some (.str k), some vp, some (.ref ps), some u, c6, c7] ∧ Sn (LT ad.PT_law) (some t) H18 H') ⟨none, none, rfl, Sn.refl⟩ (fun i σ H' hi pv => (let ⟨_, _, _, s⟩ := pv; SqL.of (s.lst (ne_some no) h18o))) ?_ ?_
    · rintro i x σ H0 H19 hi ⟨c6, c7, rfl, s19⟩ ⟨rfl, hx⟩
      have hm : x ∈ oddL k b1 b2 b3 := List.mem_of_getElem? hx
      obtain ⟨hK, z, hz⟩ := odd_ok (K := K) hk2 (fk.sn s19) x hm
      walk_at "go"
      have T19 : Tape H19 t := s19.tape T18
      refine do_law_draw T19 (by decide) (by decide) fun r2 H20 r20 r21 S20 => ?_
      have s20 : Sn (LT ad.PT_law) (some t) H18 H20 := s19.trans (Sn.of S20)
      obtain ⟨y, hy⟩ : ∃ y, (spotsL a1 a2 a3 a4 a5 a6 a7)[r2.toNat]? = some y := by
        have h10 : r2.toNat < (spotsL a1 a2 a3 a4 a5 a6 a7).length := by show r2.toNat < 10; omega
        exact ⟨_, List.getElem?_eq_getElem h10⟩
      refine r_ixLi (s20.lst (ne_some np) h18s) r20 hy ?_
      walk_at "go"
      rename_i p3 H21 S21 h21 n21
      have s21 : Sn (LT ad.PT_law) (some t) H18 H21 := s20.trans (Sn.ofN S21)
      have n3' : p3 ≠ t := fresh_ne (s20.tape T18) n21
      clear S21 n21 s20 S20 T19 s19
      refine it_l (SqL.of h21) ?_
      refine ForJ.ok walk_list (fun i σ H' => ∃ c7, σ = [some (.ref l), some (.ref t), some (.str k), some vp, some (.ref ps), some u, some x, c7] ∧ Sn (LT ad.PT_law) (some t) H21 H') ⟨c7, rfl, Sn.refl⟩ (fun i σ H' hi pv => (let ⟨_, _, s⟩ := pv; SqL.of (s.lst (ne_some n3') h21))) ?_ ?_
      · rintro j x2 σ H0 H22 hj ⟨c7', rfl, s22⟩ ⟨rfl, hx2⟩
        have s18 : Sn (LT ad.PT_law) (some t) H18 H22 := s21.trans s22
        walk_at "go"
        refine heard_ok T (t := t) (y := x) (z := z) (.inl ⟨rfl, rfl⟩) rfl (s18.tb B18) (fun H' s => hz _ (fk.sn (s18.trans s))) (fun H1 E1 Q1 s1 hE => ?_) fun H' s => ?_
        · walk_at "go"
          exact do_MotionBad (odd_ok (K := K) hk2 (fk.sn (s18.trans s1)) x hm).1 hE
        · exact ⟨_, rfl, s22.trans s⟩
      · rintro σ H22 ⟨c7', rfl, s22⟩
        have s18 : Sn (LT ad.PT_law) (some t) H18 H22 := s21.trans s22
        walk_at "go"
        refine heard_ok T (t := t) (y := x) (z := z) (.inl ⟨rfl, rfl⟩) rfl (s18.tb B18) (fun H' s => hz _ (fk.sn (s18.trans s))) (fun H1 E1 Q1 s1 hE => ?_) fun H' s => ?_
        · walk_at "go"
          refine r_make ?_
          walk_at "go"
          exact do_MotionBad (odd_ok (K := K) hk2 (fk.sn (s18.trans s1)) x hm).1 hE
        · exact ⟨_, _, rfl, s18.trans s⟩
    · rintro σ H19 ⟨c6, c7, rfl, s19⟩
      walk_at "go"
      refine it_l (SqL.of (s19.lst (ne_some np) h18s)) ?_
      refine ForJ.ok walk_list (fun i σ H' => ∃ c6, σ = [some (.ref l), some (.ref t), some (.str k), some vp, some (.ref ps), some u, c6, c7] ∧ Sn (LT ad.PT_law) (some t) H18 H') ⟨c6, rfl, s19⟩ (fun i σ H' hi pv => (let ⟨_, _, s⟩ := pv; SqL.of (s.lst (ne_some np) h18s))) ?_ ?_
      · rintro i x σ H0 H20 hi ⟨c6', rfl, s20⟩ ⟨rfl, hx⟩
        have hm : x ∈ spotsL a1 a2 a3 a4 a5 a6 a7 := List.mem_of_getElem? hx
        obtain ⟨hP, z, hz⟩ := spot_ok (K := K) (fs18.sn s20) x hm
        walk_at "go"
        refine heard_ok T (t := t) (y := x) (z := z) (.inr (.inl ⟨rfl, rfl⟩)) rfl (s20.tb B18) (fun H' s => hz _ (fs18.sn (s20.trans s))) (fun H1 E1 Q1 s1 hE => ?_) fun H21 s21 => ?_
        · walk_at "go"
          exact do_MotionPl hk2 (spot_ok (K := K) (fs18.sn (s20.trans s1)) x hm).1 hE
        have s22 : Sn (LT ad.PT_law) (some t) H18 H21 := s20.trans s21
        walk_at "go"
        refine heard_ok T (t := t) (y := x) (z := z) (.inr (.inl ⟨rfl, rfl⟩)) rfl (s22.tb B18) (fun H' s => hz _ (fs18.sn (s22.trans s))) (fun H1 E1 Q1 s1 hE => ?_) fun H23 s23 => ?_
        · obtain ⟨pu, dx, uu, e1, e2, _⟩ := id (m18.sn (s22.trans s1))
          refine ⟨u, pu, dx, _, rfl, e1, e2, ?_⟩
          walk_at "go"
          exact ⟨⟨_, e2⟩, u, x, rfl, (spot_ok (K := K) (fs18.sn (s22.trans s1)) x hm).1, fun d hd => hE _ d (Stp.refl _ _) hd⟩
        have s24 : Sn (LT ad.PT_law) (some t) H18 H23 := s22.trans s23
        walk_at "go"
        refine heard_ok T (t := t) (y := x) (z := z) (.inr (.inl ⟨rfl, rfl⟩)) rfl (s24.tb B18) (fun H' s => hz _ (fs18.sn (s24.trans s))) (fun H1 E1 Q1 s1 hE => ?_) fun H25 s25 => ?_
        · show tC (V.ref ad.C_Motion) _ H1 _
          refine ⟨rfl, ?_⟩
          walk_at "go"
          exact ⟨x, rfl, (spot_ok (K := K) (fs18.sn (s24.trans s1)) x hm).1, hE⟩
        exact ⟨_, rfl, s24.trans s25⟩
      · rintro σ H20 ⟨c6', rfl, s20⟩
        walk_at "go"
        refine r_newT (sz100 (Nat.le_of_ble_eq_true rfl)) fun c1 H21 S21 h21 n21 => ?_
        walk_at "go"
        rename_i c2 H22 S22 h22 n22
        refine r_dnew fun c3 H23 S23 h23 n23 => ?_
        walk_at "go"
        refine r_newL (sz100 (Nat.le_of_ble_eq_true rfl)) fun pn H24 S24 h24 n24 => ?_
        have s21 : Sn (LT ad.PT_law) (some t) H18 H21 := s20.trans (Sn.ofN S21)
        have s22 : Sn (LT ad.PT_law) (some t) H18 H22 := s21.trans (Sn.ofN S22)
        have s23 : Sn (LT ad.PT_law) (some t) H18 H23 := s22.trans (Sn.ofN S23)
        have s24 : Sn (LT ad.PT_law) (some t) H18 H24 := s23.trans (Sn.ofN S24)
        have fn : FN c1 c2 c3 t H24 := ⟨At.tup (S22.trans (S23.trans S24)) h21, At.lst (S23.trans S24) h22, fresh_ne (s21.tape T18) n22, S24.ge _ _ (fun _ _ e => by cases e) h23⟩
        have nn : pn ≠ t := fresh_ne (s23.tape T18) n24
        have h24o : H24 pn = some (.lst (numL c1 c2 c3)) := h24
        clear h24
        refine it_l (SqL.of h24o) ?_
        refine ForJ.ok walk_list (fun i σ H' => ∃ c6, σ = [some (.ref l), some (.ref t), some (.str k), some vp, some (.ref ps), some u, c6, c7] ∧ Sn (LT ad.PT_law) (some t) H24 H') ⟨c6', rfl, Sn.refl⟩ (fun i σ H' hi pv => (let ⟨_, _, s⟩ := pv; SqL.of (s.lst (ne_some nn) h24o))) ?_ ?_
        · rintro i x σ H0 H25 hi ⟨c6'', rfl, s25⟩ ⟨rfl, hx⟩
          have hm : x ∈ numL c1 c2 c3 := List.mem_of_getElem? hx
          obtain ⟨hP, z, hz⟩ := num_ok (K := K) (fn.sn s25) x hm
          have s26 := s24.trans s25
          walk_at "go"
          refine heard_ok T (t := t) (y := x) (z := z) (.inr (.inr ⟨rfl, rfl⟩)) rfl (s26.tb B18) (fun H' s => hz _ (fn.sn (s25.trans s))) (fun H1 E1 Q1 s1 hE => ?_) fun H27 s27 => ?_
          · obtain ⟨pu, dx, uu, e1, e2, _⟩ := id (m18.sn (s26.trans s1))
            show tVar 5 _ H1 _
            refine r_var rfl ⟨pu, dx, _, e1, e2, put2_other _ _ (by decide) (by decide), ?_⟩
            walk_at "go"
            exact ⟨u, x, rfl, (num_ok (K := K) (fn.sn (s25.trans s1)) x hm).1, fun d hd => hE _ d (Stp.refl _ _) hd⟩
          · exact ⟨_, rfl, s25.trans s27⟩
        · rintro σ H25 ⟨c6'', rfl, s25⟩
          have s26 := s24.trans s25
          have m26 := m18.sn s26
          walk_at "go"
          obtain ⟨pu, dx, uu, e1, e2, _⟩ := id m26
          refine ⟨pu, dx, _, e1, e2, pu, k, px, py, rfl, e1 ▸ m26, ?_⟩
          walk_at "go"
          refine ⟨pu, dx, _, e1, e2, pu, k, px, py, rfl, e1 ▸ m26, fun u2 h2 => ?_⟩
          walk_at "go"
          refine r_newT (sz100 (Nat.le_of_ble_eq_true rfl)) fun g1 H26 S26 h26 n26 => ?_
          walk_at "go"
          refine r_newT (sz100 (Nat.le_of_ble_eq_true rfl)) fun g2 H27 S27 h27 n27 => ?_
          have i25 : IT H25 vp [px, py] := s26.it i18
          have ck : Cd [k] := (by unfold Cd; decide +kernel : ∀ g ∈ kindsL, Cd [g]) k hk2
          refine r_eqKP ck (At.tup S27 h26) ((h2.mv S26).mv S27) h27 ((i25.mv S26).mv S27) ?_
          exact q _
end
end Law

set_option Elab.async false
set_option linter.all false
set_option maxRecDepth 100000
set_option maxHeartbeats 4000000
namespace Law
open PySem PySem.Spec PyProof.Rows L2 MV TL
local macro_rules | `(tactic| walk_at "mv_vals") => `(tactic| repeat first | exact Paired.nil | refine Paired.cons ?_ ?_ | exact rfl | exact ⟨_, rfl⟩)
local macro_rules | `(tactic| walk_at "mv_kt") => `(tactic| (refine' MV.kt_mk ?h ?z ?v; (case h => k_is); (case z => decide +kernel); (case v => walk_at "mv_vals")))
local macro_rules | `(tactic| walk_at "mv_lit") => `(tactic| repeat first | exact True.intro | refine ⟨⟨_, _, rfl, rfl⟩, ?_⟩)
local macro_rules | `(tactic| walk_at "mv_kd") => `(tactic| (refine' MV.kd_mk ?h ?l ?n ?v; (case h => k_is); (case n => k_is); (case l => walk_at "mv_lit"); (case v => first | exact rfl | exact ⟨_, rfl⟩)))
local macro_rules | `(tactic| walk_at "mv_kk") => `(tactic| (refine' MV.kk_mk ?h ?n ?v; (case h => k_is); (case n => decide +kernel); (case v => walk_at "mv_vals")))
local macro_rules | `(tactic| walk_at "mv_bind") => `(tactic| (refine ⟨?k, ?h, ?g⟩; (case h => (unfold bindArgs; dsimp only; rw [List.forIn_nil, pure_bind])); (case g => exact rfl)))
theorem all_mk {K : PySem.W.Frag} {h : Heap} {mg : Str → Option Value} {fa : Addr} (X : K.In h) (G : h.Ns mainGlobals mg) (hfa : mg "law" = some (.ref fa))
    {C_CarpetError : Addr}
    {KINDS : Addr}
    {dfl0 : Addr}
    {C_InvalidPlace : Addr}
    {nm_InvalidPlace q_InvalidPlace : Str} {N_InvalidPlace : Addr} {bs_InvalidPlace bm_InvalidPlace sub_InvalidPlace : List Value} {sn_InvalidPlace : List Str} {ab_InvalidPlace : Bool} {col_InvalidPlace : Option Bool} {dd_InvalidPlace : Option Addr} {k0_InvalidPlace k1_InvalidPlace k2_InvalidPlace k3_InvalidPlace k5_InvalidPlace : Option Value}
    {C_InvalidMotion : Addr}
    {nm_InvalidMotion q_InvalidMotion : Str} {N_InvalidMotion : Addr} {bs_InvalidMotion bm_InvalidMotion sub_InvalidMotion : List Value} {sn_InvalidMotion : List Str} {ab_InvalidMotion : Bool} {col_InvalidMotion : Option Bool} {dd_InvalidMotion : Option Addr} {k0_InvalidMotion k1_InvalidMotion k2_InvalidMotion k3_InvalidMotion k5_InvalidMotion : Option Value}
    {C_InvalidNumber : Addr}
    {nm_InvalidNumber q_InvalidNumber : Str} {N_InvalidNumber : Addr} {bs_InvalidNumber bm_InvalidNumber sub_InvalidNumber : List Value} {sn_InvalidNumber : List Str} {ab_InvalidNumber : Bool} {col_InvalidNumber : Option Bool} {dd_InvalidNumber : Option Addr} {k0_InvalidNumber k1_InvalidNumber k2_InvalidNumber k3_InvalidNumber k5_InvalidNumber : Option Value}
    {C_Motion : Addr}
    {InvalidPlace_init : Addr} {od_InvalidPlace_init an_InvalidPlace_init : Option Addr} {sl_InvalidPlace_init : Array (Option Value)} {oc_InvalidPlace_init kV_InvalidPlace_init dc_InvalidPlace_init pm_InvalidPlace_init cd_InvalidPlace_init ct_InvalidPlace_init : Value}
    {InvalidMotion_init : Addr} {od_InvalidMotion_init an_InvalidMotion_init : Option Addr} {sl_InvalidMotion_init : Array (Option Value)} {oc_InvalidMotion_init kV_InvalidMotion_init dc_InvalidMotion_init pm_InvalidMotion_init cd_InvalidMotion_init ct_InvalidMotion_init : Value}
    {InvalidNumber_init : Addr} {od_InvalidNumber_init an_InvalidNumber_init : Option Addr} {sl_InvalidNumber_init : Array (Option Value)} {oc_InvalidNumber_init kV_InvalidNumber_init dc_InvalidNumber_init pm_InvalidNumber_init cd_InvalidNumber_init ct_InvalidNumber_init : Value}
    {is_integer : Addr} {od_is_integer an_is_integer : Option Addr} {sl_is_integer : Array (Option Value)} {oc_is_integer kV_is_integer dc_is_integer pm_is_integer cd_is_integer ct_is_integer : Value}
    {is_place : Addr} {od_is_place an_is_place : Option Addr} {sl_is_place : Array (Option Value)} {oc_is_place kV_is_place dc_is_place pm_is_place cd_is_place ct_is_place : Value}
    {check_place : Addr} {od_check_place an_check_place : Option Addr} {sl_check_place : Array (Option Value)} {oc_check_place kV_check_place dc_check_place pm_check_place cd_check_place ct_check_place : Value}
    {Motion_init : Addr} {od_Motion_init an_Motion_init : Option Addr} {sl_Motion_init : Array (Option Value)} {oc_Motion_init kV_Motion_init dc_Motion_init pm_Motion_init cd_Motion_init ct_Motion_init : Value}
    {T_Motion_init : Addr} {odd_Motion_init : Option Addr} {nd_Motion_init : Nat} {sld_Motion_init : Array (Option Value)}
    {Motion_by : Addr} {od_Motion_by an_Motion_by : Option Addr} {sl_Motion_by : Array (Option Value)} {oc_Motion_by kV_Motion_by dc_Motion_by pm_Motion_by cd_Motion_by ct_Motion_by : Value}
    {p_Motion_by : Addr} {r_Motion_by : List Value}
    {Motion_kind : Addr} {od_Motion_kind an_Motion_kind : Option Addr} {sl_Motion_kind : Array (Option Value)} {oc_Motion_kind kV_Motion_kind dc_Motion_kind pm_Motion_kind cd_Motion_kind ct_Motion_kind : Value}
    {p_Motion_kind : Addr} {r_Motion_kind : List Value}
    {Motion_shift : Addr} {od_Motion_shift an_Motion_shift : Option Addr} {sl_Motion_shift : Array (Option Value)} {oc_Motion_shift kV_Motion_shift dc_Motion_shift pm_Motion_shift cd_Motion_shift ct_Motion_shift : Value}
    {p_Motion_shift : Addr} {r_Motion_shift : List Value}
    {Motion_call : Addr} {od_Motion_call an_Motion_call : Option Addr} {sl_Motion_call : Array (Option Value)} {oc_Motion_call kV_Motion_call dc_Motion_call pm_Motion_call cd_Motion_call ct_Motion_call : Value}
    {Motion_repeated : Addr} {od_Motion_repeated an_Motion_repeated : Option Addr} {sl_Motion_repeated : Array (Option Value)} {oc_Motion_repeated kV_Motion_repeated dc_Motion_repeated pm_Motion_repeated cd_Motion_repeated ct_Motion_repeated : Value}
    {law_tape : Addr} {od_law_tape an_law_tape : Option Addr} {sl_law_tape : Array (Option Value)} {oc_law_tape kV_law_tape dc_law_tape pm_law_tape cd_law_tape ct_law_tape : Value}
    {law_draw : Addr} {od_law_draw an_law_draw : Option Addr} {sl_law_draw : Array (Option Value)} {oc_law_draw kV_law_draw dc_law_draw pm_law_draw cd_law_draw ct_law_draw : Value}
    {law_great : Addr} {od_law_great an_law_great : Option Addr} {sl_law_great : Array (Option Value)} {oc_law_great kV_law_great dc_law_great pm_law_great cd_law_great ct_law_great : Value}
    {law_place : Addr} {od_law_place an_law_place : Option Addr} {sl_law_place : Array (Option Value)} {oc_law_place kV_law_place dc_law_place pm_law_place cd_law_place ct_law_place : Value}
    {law_kinds : Addr} {od_law_kinds an_law_kinds : Option Addr} {sl_law_kinds : Array (Option Value)} {oc_law_kinds kV_law_kinds dc_law_kinds pm_law_kinds cd_law_kinds ct_law_kinds : Value}
    {law_heard : Addr} {od_law_heard an_law_heard : Option Addr} {sl_law_heard : Array (Option Value)} {oc_law_heard kV_law_heard dc_law_heard pm_law_heard cd_law_heard ct_law_heard : Value}
    {law : Addr} {od_law an_law : Option Addr} {sl_law : Array (Option Value)} {oc_law kV_law dc_law pm_law ct_law : Value}
    {cc_law PT_law : Addr} {ce_law : Value} {cdd_law : Option Addr} {cvs_law : Array Value} {csl_law : Array (Option Value)}
    (a_InvalidPlace : PySem.W.nsIn K mainGlobals "InvalidPlace" = some (some (.ref C_InvalidPlace)))
    (lc_InvalidPlace : K.lookup C_InvalidPlace = some (PySem.excClassObj nm_InvalidPlace q_InvalidPlace C_InvalidPlace N_InvalidPlace bs_InvalidPlace bm_InvalidPlace true sn_InvalidPlace sub_InvalidPlace ab_InvalidPlace col_InvalidPlace dd_InvalidPlace k0_InvalidPlace k1_InvalidPlace k2_InvalidPlace k3_InvalidPlace k5_InvalidPlace "ValueError.__new__"))
    (rv_InvalidPlace : PySem.HandSPX.refsVE bm_InvalidPlace = true)
    (sa_InvalidPlace : PySem.W.findIn K (.ref C_InvalidPlace) "__setattr__" = some (some (.builtin "object.__setattr__")))
    (ex_InvalidPlace : PySem.W.subIn K (.ref C_InvalidPlace) (.type "BaseException") = some true)
    (ty_InvalidPlace : PySem.W.typeIn K (.ref C_InvalidPlace) = some (.type "type"))
    (kc_InvalidPlace : PySem.W.keepIn K (.ref C_InvalidPlace) = true)
    (nf_InvalidPlace : PySem.W.findIn K (.ref C_InvalidPlace) "value" = some none)
    (xg_InvalidPlace : xfB K C_InvalidPlace = true)
    (xa_InvalidPlace : PySem.W.findIn K (.ref C_InvalidPlace) "__class__" = some (some (.builtin "object.__class__")))
    (xn_InvalidPlace : PySem.W.specialIn K (.builtin "object.__class__") "__get__" = some (some (.builtin "getset_descriptor.__get__")))
    (xt_InvalidPlace : PySem.W.takesIn K (.builtin "object.__class__") = some true)
    (xm_InvalidPlace : PySem.W.mroIn K C_InvalidPlace (.type "object") = some true)
    (a_InvalidMotion : PySem.W.nsIn K mainGlobals "InvalidMotion" = some (some (.ref C_InvalidMotion)))
    (lc_InvalidMotion : K.lookup C_InvalidMotion = some (PySem.excClassObj nm_InvalidMotion q_InvalidMotion C_InvalidMotion N_InvalidMotion bs_InvalidMotion bm_InvalidMotion true sn_InvalidMotion sub_InvalidMotion ab_InvalidMotion col_InvalidMotion dd_InvalidMotion k0_InvalidMotion k1_InvalidMotion k2_InvalidMotion k3_InvalidMotion k5_InvalidMotion "ValueError.__new__"))
    (rv_InvalidMotion : PySem.HandSPX.refsVE bm_InvalidMotion = true)
    (sa_InvalidMotion : PySem.W.findIn K (.ref C_InvalidMotion) "__setattr__" = some (some (.builtin "object.__setattr__")))
    (ex_InvalidMotion : PySem.W.subIn K (.ref C_InvalidMotion) (.type "BaseException") = some true)
    (ty_InvalidMotion : PySem.W.typeIn K (.ref C_InvalidMotion) = some (.type "type"))
    (kc_InvalidMotion : PySem.W.keepIn K (.ref C_InvalidMotion) = true)
    (nf_InvalidMotion : PySem.W.findIn K (.ref C_InvalidMotion) "value" = some none)
    (xg_InvalidMotion : xfB K C_InvalidMotion = true)
    (xa_InvalidMotion : PySem.W.findIn K (.ref C_InvalidMotion) "__class__" = some (some (.builtin "object.__class__")))
    (xn_InvalidMotion : PySem.W.specialIn K (.builtin "object.__class__") "__get__" = some (some (.builtin "getset_descriptor.__get__")))
    (xt_InvalidMotion : PySem.W.takesIn K (.builtin "object.__class__") = some true)
    (xm_InvalidMotion : PySem.W.mroIn K C_InvalidMotion (.type "object") = some true)
    (a_InvalidNumber : PySem.W.nsIn K mainGlobals "InvalidNumber" = some (some (.ref C_InvalidNumber)))
    (lc_InvalidNumber : K.lookup C_InvalidNumber = some (PySem.excClassObj nm_InvalidNumber q_InvalidNumber C_InvalidNumber N_InvalidNumber bs_InvalidNumber bm_InvalidNumber true sn_InvalidNumber sub_InvalidNumber ab_InvalidNumber col_InvalidNumber dd_InvalidNumber k0_InvalidNumber k1_InvalidNumber k2_InvalidNumber k3_InvalidNumber k5_InvalidNumber "ValueError.__new__"))
    (rv_InvalidNumber : PySem.HandSPX.refsVE bm_InvalidNumber = true)
    (sa_InvalidNumber : PySem.W.findIn K (.ref C_InvalidNumber) "__setattr__" = some (some (.builtin "object.__setattr__")))
    (ex_InvalidNumber : PySem.W.subIn K (.ref C_InvalidNumber) (.type "BaseException") = some true)
    (ty_InvalidNumber : PySem.W.typeIn K (.ref C_InvalidNumber) = some (.type "type"))
    (kc_InvalidNumber : PySem.W.keepIn K (.ref C_InvalidNumber) = true)
    (nf_InvalidNumber : PySem.W.findIn K (.ref C_InvalidNumber) "value" = some none)
    (xg_InvalidNumber : xfB K C_InvalidNumber = true)
    (xa_InvalidNumber : PySem.W.findIn K (.ref C_InvalidNumber) "__class__" = some (some (.builtin "object.__class__")))
    (xn_InvalidNumber : PySem.W.specialIn K (.builtin "object.__class__") "__get__" = some (some (.builtin "getset_descriptor.__get__")))
    (xt_InvalidNumber : PySem.W.takesIn K (.builtin "object.__class__") = some true)
    (xm_InvalidNumber : PySem.W.mroIn K C_InvalidNumber (.type "object") = some true)
    (a_Motion : PySem.W.nsIn K mainGlobals "Motion" = some (some (.ref C_Motion)))
    (pg_Motion : PySem.W.plainGet K C_Motion Str.empty = true)
    (hd_Motion : PySem.W.hasDictIn K C_Motion = true)
    (po_Motion : PySem.W.plainOver K C_Motion = true)
    (sa_Motion : PySem.W.findIn K (.ref C_Motion) "__setattr__" = some (some (.builtin "object.__setattr__")))
    (mk_Motion : PySem.W.makesIn K C_Motion = true)
    (kc_Motion : PySem.W.keepIn K (.ref C_Motion) = true)
    (a_InvalidPlace_init : PySem.W.findIn K (.ref C_InvalidPlace) "__init__" = some (some (.ref InvalidPlace_init)))
    (i_InvalidPlace_init : PySem.W.isFn K (.ref InvalidPlace_init) = true)
    (l_InvalidPlace_init : K.lookup InvalidPlace_init = some ⟨oc_InvalidPlace_init, od_InvalidPlace_init, .func (PySem.W.fnOf "__init__" "InvalidPlace.__init__" (defArgs s_InvalidPlace_init) (defBody s_InvalidPlace_init) (defScope s_InvalidPlace_init) .none kV_InvalidPlace_init dc_InvalidPlace_init pm_InvalidPlace_init an_InvalidPlace_init cd_InvalidPlace_init ct_InvalidPlace_init), sl_InvalidPlace_init⟩)
    (c_InvalidPlace_init : PySem.W.codeIn K cd_InvalidPlace_init "InvalidPlace.__init__" = true)
    (k_InvalidPlace_init : PySem.W.keepIn K (.ref InvalidPlace_init) = true)
    (tf_InvalidPlace : PySem.W.typeIn K (.ref InvalidPlace_init) = some (.type "function"))
    (a_InvalidMotion_init : PySem.W.findIn K (.ref C_InvalidMotion) "__init__" = some (some (.ref InvalidMotion_init)))
    (i_InvalidMotion_init : PySem.W.isFn K (.ref InvalidMotion_init) = true)
    (l_InvalidMotion_init : K.lookup InvalidMotion_init = some ⟨oc_InvalidMotion_init, od_InvalidMotion_init, .func (PySem.W.fnOf "__init__" "InvalidMotion.__init__" (defArgs s_InvalidMotion_init) (defBody s_InvalidMotion_init) (defScope s_InvalidMotion_init) .none kV_InvalidMotion_init dc_InvalidMotion_init pm_InvalidMotion_init an_InvalidMotion_init cd_InvalidMotion_init ct_InvalidMotion_init), sl_InvalidMotion_init⟩)
    (c_InvalidMotion_init : PySem.W.codeIn K cd_InvalidMotion_init "InvalidMotion.__init__" = true)
    (k_InvalidMotion_init : PySem.W.keepIn K (.ref InvalidMotion_init) = true)
    (tf_InvalidMotion : PySem.W.typeIn K (.ref InvalidMotion_init) = some (.type "function"))
    (a_InvalidNumber_init : PySem.W.findIn K (.ref C_InvalidNumber) "__init__" = some (some (.ref InvalidNumber_init)))
    (i_InvalidNumber_init : PySem.W.isFn K (.ref InvalidNumber_init) = true)
    (l_InvalidNumber_init : K.lookup InvalidNumber_init = some ⟨oc_InvalidNumber_init, od_InvalidNumber_init, .func (PySem.W.fnOf "__init__" "InvalidNumber.__init__" (defArgs s_InvalidNumber_init) (defBody s_InvalidNumber_init) (defScope s_InvalidNumber_init) .none kV_InvalidNumber_init dc_InvalidNumber_init pm_InvalidNumber_init an_InvalidNumber_init cd_InvalidNumber_init ct_InvalidNumber_init), sl_InvalidNumber_init⟩)
    (c_InvalidNumber_init : PySem.W.codeIn K cd_InvalidNumber_init "InvalidNumber.__init__" = true)
    (k_InvalidNumber_init : PySem.W.keepIn K (.ref InvalidNumber_init) = true)
    (tf_InvalidNumber : PySem.W.typeIn K (.ref InvalidNumber_init) = some (.type "function"))
    (a_is_integer : PySem.W.nsIn K mainGlobals "is_integer" = some (some (.ref is_integer)))
    (l_is_integer : K.lookup is_integer = some ⟨oc_is_integer, od_is_integer, .func (PySem.W.fnOf "is_integer" "is_integer" (defArgs s_is_integer) (defBody s_is_integer) (defScope s_is_integer) .none kV_is_integer dc_is_integer pm_is_integer an_is_integer cd_is_integer ct_is_integer), sl_is_integer⟩)
    (c_is_integer : PySem.W.codeIn K cd_is_integer "is_integer" = true)
    (k_is_integer : PySem.W.keepIn K (.ref is_integer) = true)
    (a_is_place : PySem.W.nsIn K mainGlobals "is_place" = some (some (.ref is_place)))
    (l_is_place : K.lookup is_place = some ⟨oc_is_place, od_is_place, .func (PySem.W.fnOf "is_place" "is_place" (defArgs s_is_place) (defBody s_is_place) (defScope s_is_place) .none kV_is_place dc_is_place pm_is_place an_is_place cd_is_place ct_is_place), sl_is_place⟩)
    (c_is_place : PySem.W.codeIn K cd_is_place "is_place" = true)
    (k_is_place : PySem.W.keepIn K (.ref is_place) = true)
    (a_check_place : PySem.W.nsIn K mainGlobals "check_place" = some (some (.ref check_place)))
    (l_check_place : K.lookup check_place = some ⟨oc_check_place, od_check_place, .func (PySem.W.fnOf "check_place" "check_place" (defArgs s_check_place) (defBody s_check_place) (defScope s_check_place) .none kV_check_place dc_check_place pm_check_place an_check_place cd_check_place ct_check_place), sl_check_place⟩)
    (c_check_place : PySem.W.codeIn K cd_check_place "check_place" = true)
    (k_check_place : PySem.W.keepIn K (.ref check_place) = true)
    (a_Motion_init : PySem.W.findIn K (.ref C_Motion) "__init__" = some (some (.ref Motion_init)))
    (i_Motion_init : PySem.W.isFn K (.ref Motion_init) = true)
    (l_Motion_init : K.lookup Motion_init = some ⟨oc_Motion_init, od_Motion_init, .func (PySem.W.fnOf "__init__" "Motion.__init__" (defArgs s_Motion_init) (defBody s_Motion_init) (defScope s_Motion_init) (.ref T_Motion_init) kV_Motion_init dc_Motion_init pm_Motion_init an_Motion_init cd_Motion_init ct_Motion_init), sl_Motion_init⟩)
    (c_Motion_init : PySem.W.codeIn K cd_Motion_init "Motion.__init__" = true)
    (k_Motion_init : PySem.W.keepIn K (.ref Motion_init) = true)
    (dd_Motion_init : K.lookup T_Motion_init = some ⟨.type "tuple", odd_Motion_init, .seq #[.ref dfl0] nd_Motion_init, sld_Motion_init⟩)
    (a_Motion_by : PySem.W.findCls K (.ref C_Motion) (.type "type") "by" = some (.get (.builtin "staticmethod.__get__") (.ref p_Motion_by) .none (.ref C_Motion)))
    (rc_Motion_by : PySem.W.recIn K p_Motion_by "staticmethod" = some (.ref Motion_by :: r_Motion_by))
    (rd_Motion_by : PySem.W.readsIn K C_Motion (.type "type") = true)
    (ga_Motion_by : PySem.W.specialIn K (.ref C_Motion) "__getattribute__" = some (some (.builtin "type.__getattribute__")))
    (l_Motion_by : K.lookup Motion_by = some ⟨oc_Motion_by, od_Motion_by, .func (PySem.W.fnOf "by" "Motion.by" (defArgs s_Motion_by) (defBody s_Motion_by) (defScope s_Motion_by) .none kV_Motion_by dc_Motion_by pm_Motion_by an_Motion_by cd_Motion_by ct_Motion_by), sl_Motion_by⟩)
    (c_Motion_by : PySem.W.codeIn K cd_Motion_by "Motion.by" = true)
    (k_Motion_by : PySem.W.keepIn K (.ref Motion_by) = true)
    (a_Motion_kind : PySem.W.findIn K (.ref C_Motion) "kind" = some (some (.ref p_Motion_kind)))
    (g1_Motion_kind : PySem.W.specialIn K (.ref p_Motion_kind) "__get__" = some (some (.builtin "property.__get__")))
    (g2_Motion_kind : PySem.W.takesIn K (.ref p_Motion_kind) = some true)
    (g3_Motion_kind : PySem.W.recIn K p_Motion_kind "property" = some (.ref Motion_kind :: r_Motion_kind))
    (l_Motion_kind : K.lookup Motion_kind = some ⟨oc_Motion_kind, od_Motion_kind, .func (PySem.W.fnOf "kind" "Motion.kind" (defArgs s_Motion_kind) (defBody s_Motion_kind) (defScope s_Motion_kind) .none kV_Motion_kind dc_Motion_kind pm_Motion_kind an_Motion_kind cd_Motion_kind ct_Motion_kind), sl_Motion_kind⟩)
    (c_Motion_kind : PySem.W.codeIn K cd_Motion_kind "Motion.kind" = true)
    (k_Motion_kind : PySem.W.keepIn K (.ref Motion_kind) = true)
    (a_Motion_shift : PySem.W.findIn K (.ref C_Motion) "shift" = some (some (.ref p_Motion_shift)))
    (g1_Motion_shift : PySem.W.specialIn K (.ref p_Motion_shift) "__get__" = some (some (.builtin "property.__get__")))
    (g2_Motion_shift : PySem.W.takesIn K (.ref p_Motion_shift) = some true)
    (g3_Motion_shift : PySem.W.recIn K p_Motion_shift "property" = some (.ref Motion_shift :: r_Motion_shift))
    (l_Motion_shift : K.lookup Motion_shift = some ⟨oc_Motion_shift, od_Motion_shift, .func (PySem.W.fnOf "shift" "Motion.shift" (defArgs s_Motion_shift) (defBody s_Motion_shift) (defScope s_Motion_shift) .none kV_Motion_shift dc_Motion_shift pm_Motion_shift an_Motion_shift cd_Motion_shift ct_Motion_shift), sl_Motion_shift⟩)
    (c_Motion_shift : PySem.W.codeIn K cd_Motion_shift "Motion.shift" = true)
    (k_Motion_shift : PySem.W.keepIn K (.ref Motion_shift) = true)
    (a_Motion_call : PySem.W.findIn K (.ref C_Motion) "__call__" = some (some (.ref Motion_call)))
    (i_Motion_call : PySem.W.isFn K (.ref Motion_call) = true)
    (fn_Motion_call : PySem.W.fnIn K Motion_call = true)
    (l_Motion_call : K.lookup Motion_call = some ⟨oc_Motion_call, od_Motion_call, .func (PySem.W.fnOf "__call__" "Motion.__call__" (defArgs s_Motion_call) (defBody s_Motion_call) (defScope s_Motion_call) .none kV_Motion_call dc_Motion_call pm_Motion_call an_Motion_call cd_Motion_call ct_Motion_call), sl_Motion_call⟩)
    (c_Motion_call : PySem.W.codeIn K cd_Motion_call "Motion.__call__" = true)
    (k_Motion_call : PySem.W.keepIn K (.ref Motion_call) = true)
    (a_Motion_repeated : PySem.W.findIn K (.ref C_Motion) "repeated" = some (some (.ref Motion_repeated)))
    (i_Motion_repeated : PySem.W.isFn K (.ref Motion_repeated) = true)
    (l_Motion_repeated : K.lookup Motion_repeated = some ⟨oc_Motion_repeated, od_Motion_repeated, .func (PySem.W.fnOf "repeated" "Motion.repeated" (defArgs s_Motion_repeated) (defBody s_Motion_repeated) (defScope s_Motion_repeated) .none kV_Motion_repeated dc_Motion_repeated pm_Motion_repeated an_Motion_repeated cd_Motion_repeated ct_Motion_repeated), sl_Motion_repeated⟩)
    (c_Motion_repeated : PySem.W.codeIn K cd_Motion_repeated "Motion.repeated" = true)
    (k_Motion_repeated : PySem.W.keepIn K (.ref Motion_repeated) = true)
    (a_law_tape : PySem.W.nsIn K mainGlobals "_law_tape" = some (some (.ref law_tape)))
    (l_law_tape : K.lookup law_tape = some ⟨oc_law_tape, od_law_tape, .func (PySem.W.fnOf "_law_tape" "_law_tape" (defArgs s_law_tape) (defBody s_law_tape) (defScope s_law_tape) .none kV_law_tape dc_law_tape pm_law_tape an_law_tape cd_law_tape ct_law_tape), sl_law_tape⟩)
    (c_law_tape : PySem.W.codeIn K cd_law_tape "_law_tape" = true)
    (k_law_tape : PySem.W.keepIn K (.ref law_tape) = true)
    (a_law_draw : PySem.W.nsIn K mainGlobals "_law_draw" = some (some (.ref law_draw)))
    (l_law_draw : K.lookup law_draw = some ⟨oc_law_draw, od_law_draw, .func (PySem.W.fnOf "_law_draw" "_law_draw" (defArgs s_law_draw) (defBody s_law_draw) (defScope s_law_draw) .none kV_law_draw dc_law_draw pm_law_draw an_law_draw cd_law_draw ct_law_draw), sl_law_draw⟩)
    (c_law_draw : PySem.W.codeIn K cd_law_draw "_law_draw" = true)
    (k_law_draw : PySem.W.keepIn K (.ref law_draw) = true)
    (a_law_great : PySem.W.nsIn K mainGlobals "_law_great" = some (some (.ref law_great)))
    (l_law_great : K.lookup law_great = some ⟨oc_law_great, od_law_great, .func (PySem.W.fnOf "_law_great" "_law_great" (defArgs s_law_great) (defBody s_law_great) (defScope s_law_great) .none kV_law_great dc_law_great pm_law_great an_law_great cd_law_great ct_law_great), sl_law_great⟩)
    (c_law_great : PySem.W.codeIn K cd_law_great "_law_great" = true)
    (k_law_great : PySem.W.keepIn K (.ref law_great) = true)
    (a_law_place : PySem.W.nsIn K mainGlobals "_law_place" = some (some (.ref law_place)))
    (l_law_place : K.lookup law_place = some ⟨oc_law_place, od_law_place, .func (PySem.W.fnOf "_law_place" "_law_place" (defArgs s_law_place) (defBody s_law_place) (defScope s_law_place) .none kV_law_place dc_law_place pm_law_place an_law_place cd_law_place ct_law_place), sl_law_place⟩)
    (c_law_place : PySem.W.codeIn K cd_law_place "_law_place" = true)
    (k_law_place : PySem.W.keepIn K (.ref law_place) = true)
    (a_law_kinds : PySem.W.nsIn K mainGlobals "_law_kinds" = some (some (.ref law_kinds)))
    (l_law_kinds : K.lookup law_kinds = some ⟨oc_law_kinds, od_law_kinds, .func (PySem.W.fnOf "_law_kinds" "_law_kinds" (defArgs s_law_kinds) (defBody s_law_kinds) (defScope s_law_kinds) .none kV_law_kinds dc_law_kinds pm_law_kinds an_law_kinds cd_law_kinds ct_law_kinds), sl_law_kinds⟩)
    (c_law_kinds : PySem.W.codeIn K cd_law_kinds "_law_kinds" = true)
    (k_law_kinds : PySem.W.keepIn K (.ref law_kinds) = true)
    (a_law_heard : PySem.W.nsIn K mainGlobals "_law_heard" = some (some (.ref law_heard)))
    (l_law_heard : K.lookup law_heard = some ⟨oc_law_heard, od_law_heard, .func (PySem.W.fnOf "_law_heard" "_law_heard" (defArgs s_law_heard) (defBody s_law_heard) (defScope s_law_heard) .none kV_law_heard dc_law_heard pm_law_heard an_law_heard cd_law_heard ct_law_heard), sl_law_heard⟩)
    (c_law_heard : PySem.W.codeIn K cd_law_heard "_law_heard" = true)
    (k_law_heard : PySem.W.keepIn K (.ref law_heard) = true)
    (a_law : PySem.W.nsIn K mainGlobals "law" = some (some (.ref law)))
    (l_law : K.lookup law = some ⟨oc_law, od_law, .func (PySem.W.fnOf "law" "law" (defArgs s_law) (defBody s_law) (defScope s_law) .none kV_law dc_law pm_law an_law (.ref cc_law) ct_law), sl_law⟩)
    (c_law : PySem.W.codeIn K (.ref cc_law) "law" = true)
    (k_law : PySem.W.keepIn K (.ref law) = true)
    (cr_law : K.lookup cc_law = some ⟨ce_law, cdd_law, .fields cvs_law, csl_law⟩)
    (cp_law : cvs_law[11]? = some (.ref PT_law))
    (ch_law : PySem.W.codeHdIn K cc_law PT_law = true)
    (np_law : K.lookup PT_law = none)
    (z_bool : PySem.W.nsIn K mainGlobals "bool" = some none)
    (z_int : PySem.W.nsIn K mainGlobals "int" = some none)
    (z_isinstance : PySem.W.nsIn K mainGlobals "isinstance" = some none)
    (z_len : PySem.W.nsIn K mainGlobals "len" = some none)
    (z_list : PySem.W.nsIn K mainGlobals "list" = some none)
    (z_range : PySem.W.nsIn K mainGlobals "range" = some none)
    (z_repr : PySem.W.nsIn K mainGlobals "repr" = some none)
    (z_str : PySem.W.nsIn K mainGlobals "str" = some none)
    (z_tuple : PySem.W.nsIn K mainGlobals "tuple" = some none)
    (a_CE : PySem.W.nsIn K mainGlobals "CarpetError" = some (some (.ref C_CarpetError)))
    (ki_InvalidPlace : PySem.W.kitOne K (.ref C_InvalidPlace) (.ref C_CarpetError) = some true)
    (ki_InvalidMotion : PySem.W.kitOne K (.ref C_InvalidMotion) (.ref C_CarpetError) = some true)
    (ki_InvalidNumber : PySem.W.kitOne K (.ref C_InvalidNumber) (.ref C_CarpetError) = some true)
    (em_InvalidPlace_InvalidPlace : PySem.W.exmOne K (.ref C_InvalidPlace) (.ref C_InvalidPlace) = some true)
    (em_InvalidPlace_InvalidMotion : PySem.W.exmOne K (.ref C_InvalidPlace) (.ref C_InvalidMotion) = some false)
    (em_InvalidPlace_InvalidNumber : PySem.W.exmOne K (.ref C_InvalidPlace) (.ref C_InvalidNumber) = some false)
    (em_InvalidMotion_InvalidPlace : PySem.W.exmOne K (.ref C_InvalidMotion) (.ref C_InvalidPlace) = some false)
    (em_InvalidMotion_InvalidMotion : PySem.W.exmOne K (.ref C_InvalidMotion) (.ref C_InvalidMotion) = some true)
    (em_InvalidMotion_InvalidNumber : PySem.W.exmOne K (.ref C_InvalidMotion) (.ref C_InvalidNumber) = some false)
    (em_InvalidNumber_InvalidPlace : PySem.W.exmOne K (.ref C_InvalidNumber) (.ref C_InvalidPlace) = some false)
    (em_InvalidNumber_InvalidMotion : PySem.W.exmOne K (.ref C_InvalidNumber) (.ref C_InvalidMotion) = some false)
    (em_InvalidNumber_InvalidNumber : PySem.W.exmOne K (.ref C_InvalidNumber) (.ref C_InvalidNumber) = some true)
    (kt_D0 : KT K dfl0 [V.int 0, V.int 0])
    (cv_K : PySem.W.findCls K (.ref C_Motion) (.type "type") "KINDS" = some (.val (.ref KINDS)))
    (kt_K : KT K KINDS [V.str "none", V.str "left", V.str "half", V.str "right", V.str "flip", V.str "mirror", V.str "swap", V.str "cross"])
    (nn_kind : PySem.W.findIn K (.ref C_Motion) "_kind" = some none)
    (nn_shift : PySem.W.findIn K (.ref C_Motion) "_shift" = some none)
    (rd_Mo : PySem.W.readsIn K C_Motion (.type "type") = true)
    (ga_Mo : PySem.W.specialIn K (.ref C_Motion) "__getattribute__" = some (some (.builtin "type.__getattribute__")))
    : ∃ a : Ad, a.law = fa ∧ (∀ (s : Shared) (v : Value), BindsTo s a.law_d ⟨[v], []⟩ [("_law_script", v)]) ∧ Txt K mg a := by
  have e := hfa.symm.trans (PySem.W.mg_of X G a_law)
  cases e
  refine ⟨{ C_CarpetError := C_CarpetError, KINDS := KINDS, dfl0 := dfl0, C_InvalidPlace := C_InvalidPlace, C_InvalidMotion := C_InvalidMotion, C_InvalidNumber := C_InvalidNumber, C_Motion := C_Motion, InvalidPlace_init := InvalidPlace_init, InvalidPlace_init_d := PySem.W.fnOf "__init__" "InvalidPlace.__init__" (defArgs s_InvalidPlace_init) (defBody s_InvalidPlace_init) (defScope s_InvalidPlace_init) .none kV_InvalidPlace_init dc_InvalidPlace_init pm_InvalidPlace_init an_InvalidPlace_init cd_InvalidPlace_init ct_InvalidPlace_init, InvalidMotion_init := InvalidMotion_init, InvalidMotion_init_d := PySem.W.fnOf "__init__" "InvalidMotion.__init__" (defArgs s_InvalidMotion_init) (defBody s_InvalidMotion_init) (defScope s_InvalidMotion_init) .none kV_InvalidMotion_init dc_InvalidMotion_init pm_InvalidMotion_init an_InvalidMotion_init cd_InvalidMotion_init ct_InvalidMotion_init, InvalidNumber_init := InvalidNumber_init, InvalidNumber_init_d := PySem.W.fnOf "__init__" "InvalidNumber.__init__" (defArgs s_InvalidNumber_init) (defBody s_InvalidNumber_init) (defScope s_InvalidNumber_init) .none kV_InvalidNumber_init dc_InvalidNumber_init pm_InvalidNumber_init an_InvalidNumber_init cd_InvalidNumber_init ct_InvalidNumber_init, is_integer := is_integer, is_integer_d := PySem.W.fnOf "is_integer" "is_integer" (defArgs s_is_integer) (defBody s_is_integer) (defScope s_is_integer) .none kV_is_integer dc_is_integer pm_is_integer an_is_integer cd_is_integer ct_is_integer, is_place := is_place, is_place_d := PySem.W.fnOf "is_place" "is_place" (defArgs s_is_place) (defBody s_is_place) (defScope s_is_place) .none kV_is_place dc_is_place pm_is_place an_is_place cd_is_place ct_is_place, check_place := check_place, check_place_d := PySem.W.fnOf "check_place" "check_place" (defArgs s_check_place) (defBody s_check_place) (defScope s_check_place) .none kV_check_place dc_check_place pm_check_place an_check_place cd_check_place ct_check_place, Motion_init := Motion_init, Motion_init_d := PySem.W.fnOf "__init__" "Motion.__init__" (defArgs s_Motion_init) (defBody s_Motion_init) (defScope s_Motion_init) (.ref T_Motion_init) kV_Motion_init dc_Motion_init pm_Motion_init an_Motion_init cd_Motion_init ct_Motion_init, Motion_by := Motion_by, Motion_by_d := PySem.W.fnOf "by" "Motion.by" (defArgs s_Motion_by) (defBody s_Motion_by) (defScope s_Motion_by) .none kV_Motion_by dc_Motion_by pm_Motion_by an_Motion_by cd_Motion_by ct_Motion_by, p_Motion_by := p_Motion_by, Motion_kind := Motion_kind, Motion_kind_d := PySem.W.fnOf "kind" "Motion.kind" (defArgs s_Motion_kind) (defBody s_Motion_kind) (defScope s_Motion_kind) .none kV_Motion_kind dc_Motion_kind pm_Motion_kind an_Motion_kind cd_Motion_kind ct_Motion_kind, p_Motion_kind := p_Motion_kind, Motion_shift := Motion_shift, Motion_shift_d := PySem.W.fnOf "shift" "Motion.shift" (defArgs s_Motion_shift) (defBody s_Motion_shift) (defScope s_Motion_shift) .none kV_Motion_shift dc_Motion_shift pm_Motion_shift an_Motion_shift cd_Motion_shift ct_Motion_shift, p_Motion_shift := p_Motion_shift, Motion_call := Motion_call, Motion_call_d := PySem.W.fnOf "__call__" "Motion.__call__" (defArgs s_Motion_call) (defBody s_Motion_call) (defScope s_Motion_call) .none kV_Motion_call dc_Motion_call pm_Motion_call an_Motion_call cd_Motion_call ct_Motion_call, Motion_repeated := Motion_repeated, Motion_repeated_d := PySem.W.fnOf "repeated" "Motion.repeated" (defArgs s_Motion_repeated) (defBody s_Motion_repeated) (defScope s_Motion_repeated) .none kV_Motion_repeated dc_Motion_repeated pm_Motion_repeated an_Motion_repeated cd_Motion_repeated ct_Motion_repeated, law_tape := law_tape, law_tape_d := PySem.W.fnOf "_law_tape" "_law_tape" (defArgs s_law_tape) (defBody s_law_tape) (defScope s_law_tape) .none kV_law_tape dc_law_tape pm_law_tape an_law_tape cd_law_tape ct_law_tape, law_draw := law_draw, law_draw_d := PySem.W.fnOf "_law_draw" "_law_draw" (defArgs s_law_draw) (defBody s_law_draw) (defScope s_law_draw) .none kV_law_draw dc_law_draw pm_law_draw an_law_draw cd_law_draw ct_law_draw, law_great := law_great, law_great_d := PySem.W.fnOf "_law_great" "_law_great" (defArgs s_law_great) (defBody s_law_great) (defScope s_law_great) .none kV_law_great dc_law_great pm_law_great an_law_great cd_law_great ct_law_great, law_place := law_place, law_place_d := PySem.W.fnOf "_law_place" "_law_place" (defArgs s_law_place) (defBody s_law_place) (defScope s_law_place) .none kV_law_place dc_law_place pm_law_place an_law_place cd_law_place ct_law_place, law_kinds := law_kinds, law_kinds_d := PySem.W.fnOf "_law_kinds" "_law_kinds" (defArgs s_law_kinds) (defBody s_law_kinds) (defScope s_law_kinds) .none kV_law_kinds dc_law_kinds pm_law_kinds an_law_kinds cd_law_kinds ct_law_kinds, law_heard := law_heard, law_heard_d := PySem.W.fnOf "_law_heard" "_law_heard" (defArgs s_law_heard) (defBody s_law_heard) (defScope s_law_heard) .none kV_law_heard dc_law_heard pm_law_heard an_law_heard cd_law_heard ct_law_heard, law := fa, cc_law := cc_law, PT_law := PT_law, law_d := PySem.W.fnOf "law" "law" (defArgs s_law) (defBody s_law) (defScope s_law) .none kV_law dc_law pm_law an_law (.ref cc_law) ct_law }, rfl, fun s v => .of_eq rfl, ?_⟩
  exact {
    g_InvalidPlace := PySem.W.mg_of X G a_InvalidPlace,
    x_InvalidPlace := ⟨⟨⟨_, _, _, _, _, _, _, _, _, _, _, _, _, _, _, lc_InvalidPlace, rv_InvalidPlace⟩, sa_InvalidPlace, ex_InvalidPlace, ty_InvalidPlace, kc_InvalidPlace⟩, a_InvalidPlace_init, tf_InvalidPlace, nf_InvalidPlace⟩,
    xf_InvalidPlace := xfB_ok xg_InvalidPlace,
    xi_InvalidPlace := (let z := xfB_ok xg_InvalidPlace; ⟨z.ga, z.gg, z.exC, z.hdC, xa_InvalidPlace, xn_InvalidPlace, xt_InvalidPlace, xm_InvalidPlace⟩),
    g_InvalidMotion := PySem.W.mg_of X G a_InvalidMotion,
    x_InvalidMotion := ⟨⟨⟨_, _, _, _, _, _, _, _, _, _, _, _, _, _, _, lc_InvalidMotion, rv_InvalidMotion⟩, sa_InvalidMotion, ex_InvalidMotion, ty_InvalidMotion, kc_InvalidMotion⟩, a_InvalidMotion_init, tf_InvalidMotion, nf_InvalidMotion⟩,
    xf_InvalidMotion := xfB_ok xg_InvalidMotion,
    xi_InvalidMotion := (let z := xfB_ok xg_InvalidMotion; ⟨z.ga, z.gg, z.exC, z.hdC, xa_InvalidMotion, xn_InvalidMotion, xt_InvalidMotion, xm_InvalidMotion⟩),
    g_InvalidNumber := PySem.W.mg_of X G a_InvalidNumber,
    x_InvalidNumber := ⟨⟨⟨_, _, _, _, _, _, _, _, _, _, _, _, _, _, _, lc_InvalidNumber, rv_InvalidNumber⟩, sa_InvalidNumber, ex_InvalidNumber, ty_InvalidNumber, kc_InvalidNumber⟩, a_InvalidNumber_init, tf_InvalidNumber, nf_InvalidNumber⟩,
    xf_InvalidNumber := xfB_ok xg_InvalidNumber,
    xi_InvalidNumber := (let z := xfB_ok xg_InvalidNumber; ⟨z.ga, z.gg, z.exC, z.hdC, xa_InvalidNumber, xn_InvalidNumber, xt_InvalidNumber, xm_InvalidNumber⟩),
    g_Motion := PySem.W.mg_of X G a_Motion,
    cl_Motion := ⟨pg_Motion, hd_Motion, po_Motion, sa_Motion⟩,
    k_Motion := ⟨mk_Motion, a_Motion_init, i_Motion_init, kc_Motion⟩,
    F_InvalidPlace_init := fun_mk (st := s_InvalidPlace_init) l_InvalidPlace_init c_InvalidPlace_init k_InvalidPlace_init,
    b_InvalidPlace_init := (fun_mk (st := s_InvalidPlace_init) l_InvalidPlace_init c_InvalidPlace_init k_InvalidPlace_init).binds (ps := P_InvalidPlace_init) fun _ _ _ _ _ _ us hl => match us, hl with | [_, _], _ => rfl,
    F_InvalidMotion_init := fun_mk (st := s_InvalidMotion_init) l_InvalidMotion_init c_InvalidMotion_init k_InvalidMotion_init,
    b_InvalidMotion_init := (fun_mk (st := s_InvalidMotion_init) l_InvalidMotion_init c_InvalidMotion_init k_InvalidMotion_init).binds (ps := P_InvalidMotion_init) fun _ _ _ _ _ _ us hl => match us, hl with | [_, _], _ => rfl,
    F_InvalidNumber_init := fun_mk (st := s_InvalidNumber_init) l_InvalidNumber_init c_InvalidNumber_init k_InvalidNumber_init,
    b_InvalidNumber_init := (fun_mk (st := s_InvalidNumber_init) l_InvalidNumber_init c_InvalidNumber_init k_InvalidNumber_init).binds (ps := P_InvalidNumber_init) fun _ _ _ _ _ _ us hl => match us, hl with | [_, _], _ => rfl,
    g_is_integer := PySem.W.mg_of X G a_is_integer,
    F_is_integer := fun_mk (st := s_is_integer) l_is_integer c_is_integer k_is_integer,
    b_is_integer := (fun_mk (st := s_is_integer) l_is_integer c_is_integer k_is_integer).binds (ps := P_is_integer) fun _ _ _ _ _ _ us hl => match us, hl with | [_], _ => rfl,
    g_is_place := PySem.W.mg_of X G a_is_place,
    F_is_place := fun_mk (st := s_is_place) l_is_place c_is_place k_is_place,
    b_is_place := (fun_mk (st := s_is_place) l_is_place c_is_place k_is_place).binds (ps := P_is_place) fun _ _ _ _ _ _ us hl => match us, hl with | [_], _ => rfl,
    g_check_place := PySem.W.mg_of X G a_check_place,
    F_check_place := fun_mk (st := s_check_place) l_check_place c_check_place k_check_place,
    b_check_place := (fun_mk (st := s_check_place) l_check_place c_check_place k_check_place).binds (ps := P_check_place) fun _ _ _ _ _ _ us hl => match us, hl with | [_], _ => rfl,
    F_Motion_init := ⟨⟨_, _, _, _, _, _, _, _, _, _, rfl, l_Motion_init, c_Motion_init, (.inr ⟨by simp, _, _, [_], _, rfl, dd_Motion_init, rfl, .cons rfl (.nil)⟩), .inl rfl⟩, k_Motion_init⟩,
    b_Motion_init := binds_all (FunD.binds1 (x := "__init__") (qual := "Motion.__init__") (params := defArgs s_Motion_init) (body := defBody s_Motion_init) (scope := defScope s_Motion_init) (dvs := [V.ref dfl0]) (kws := []) ⟨⟨_, _, _, _, _, _, _, _, _, _, rfl, l_Motion_init, c_Motion_init, (.inr ⟨by simp, _, _, [_], _, rfl, dd_Motion_init, rfl, .cons rfl (.nil)⟩), .inl rfl⟩, k_Motion_init⟩ 3 1 (by simp) rfl fun _ _ _ _ _ _ _ us its h1 h2 => match us, its, h1, h2 with | [_, _, _], [_], _, _ => by walk_at "mv_bind"),
    bd_Motion_init := FunD.binds1 (x := "__init__") (qual := "Motion.__init__") (params := defArgs s_Motion_init) (body := defBody s_Motion_init) (scope := defScope s_Motion_init) (dvs := [V.ref dfl0]) (kws := []) ⟨⟨_, _, _, _, _, _, _, _, _, _, rfl, l_Motion_init, c_Motion_init, (.inr ⟨by simp, _, _, [_], _, rfl, dd_Motion_init, rfl, .cons rfl (.nil)⟩), .inl rfl⟩, k_Motion_init⟩ 2 0 (by simp) rfl fun _ _ _ _ _ _ _ us its h1 h2 => match us, its, h1, h2 with | [_, _], [_], _, _ => by walk_at "mv_bind",
    sm_Motion_by := ⟨⟨rd_Motion_by, ga_Motion_by⟩, a_Motion_by, ⟨_, rc_Motion_by⟩, k_Motion_by⟩,
    F_Motion_by := fun_mk (st := s_Motion_by) l_Motion_by c_Motion_by k_Motion_by,
    b_Motion_by := (fun_mk (st := s_Motion_by) l_Motion_by c_Motion_by k_Motion_by).binds (ps := P_Motion_by) fun _ _ _ _ _ _ us hl => match us, hl with | [_], _ => rfl,
    p_Motion_kind := ⟨a_Motion_kind, g1_Motion_kind, g2_Motion_kind, _, g3_Motion_kind⟩,
    F_Motion_kind := fun_mk (st := s_Motion_kind) l_Motion_kind c_Motion_kind k_Motion_kind,
    b_Motion_kind := (fun_mk (st := s_Motion_kind) l_Motion_kind c_Motion_kind k_Motion_kind).binds (ps := P_Motion_kind) fun _ _ _ _ _ _ us hl => match us, hl with | [_], _ => rfl,
    p_Motion_shift := ⟨a_Motion_shift, g1_Motion_shift, g2_Motion_shift, _, g3_Motion_shift⟩,
    F_Motion_shift := fun_mk (st := s_Motion_shift) l_Motion_shift c_Motion_shift k_Motion_shift,
    b_Motion_shift := (fun_mk (st := s_Motion_shift) l_Motion_shift c_Motion_shift k_Motion_shift).binds (ps := P_Motion_shift) fun _ _ _ _ _ _ us hl => match us, hl with | [_], _ => rfl,
    o_Motion_call := ⟨a_Motion_call, i_Motion_call⟩,
    fn_Motion_call := fn_Motion_call,
    F_Motion_call := fun_mk (st := s_Motion_call) l_Motion_call c_Motion_call k_Motion_call,
    b_Motion_call := (fun_mk (st := s_Motion_call) l_Motion_call c_Motion_call k_Motion_call).binds (ps := P_Motion_call) fun _ _ _ _ _ _ us hl => match us, hl with | [_, _], _ => rfl,
    m_Motion_repeated := ⟨a_Motion_repeated, i_Motion_repeated, k_Motion_repeated⟩,
    F_Motion_repeated := fun_mk (st := s_Motion_repeated) l_Motion_repeated c_Motion_repeated k_Motion_repeated,
    b_Motion_repeated := (fun_mk (st := s_Motion_repeated) l_Motion_repeated c_Motion_repeated k_Motion_repeated).binds (ps := P_Motion_repeated) fun _ _ _ _ _ _ us hl => match us, hl with | [_, _], _ => rfl,
    g_law_tape := PySem.W.mg_of X G a_law_tape,
    F_law_tape := fun_mk (st := s_law_tape) l_law_tape c_law_tape k_law_tape,
    b_law_tape := (fun_mk (st := s_law_tape) l_law_tape c_law_tape k_law_tape).binds (ps := P_law_tape) fun _ _ _ _ _ _ us hl => match us, hl with | [_], _ => rfl,
    g_law_draw := PySem.W.mg_of X G a_law_draw,
    F_law_draw := fun_mk (st := s_law_draw) l_law_draw c_law_draw k_law_draw,
    b_law_draw := (fun_mk (st := s_law_draw) l_law_draw c_law_draw k_law_draw).binds (ps := P_law_draw) fun _ _ _ _ _ _ us hl => match us, hl with | [_, _], _ => rfl,
    g_law_great := PySem.W.mg_of X G a_law_great,
    F_law_great := fun_mk (st := s_law_great) l_law_great c_law_great k_law_great,
    b_law_great := (fun_mk (st := s_law_great) l_law_great c_law_great k_law_great).binds (ps := P_law_great) fun _ _ _ _ _ _ us hl => match us, hl with | [_, _], _ => rfl,
    g_law_place := PySem.W.mg_of X G a_law_place,
    F_law_place := fun_mk (st := s_law_place) l_law_place c_law_place k_law_place,
    b_law_place := (fun_mk (st := s_law_place) l_law_place c_law_place k_law_place).binds (ps := P_law_place) fun _ _ _ _ _ _ us hl => match us, hl with | [_], _ => rfl,
    g_law_kinds := PySem.W.mg_of X G a_law_kinds,
    F_law_kinds := fun_mk (st := s_law_kinds) l_law_kinds c_law_kinds k_law_kinds,
    b_law_kinds := (fun_mk (st := s_law_kinds) l_law_kinds c_law_kinds k_law_kinds).binds (ps := P_law_kinds) fun _ _ _ _ _ _ us hl => match us, hl with | [], _ => rfl,
    g_law_heard := PySem.W.mg_of X G a_law_heard,
    F_law_heard := fun_mk (st := s_law_heard) l_law_heard c_law_heard k_law_heard,
    b_law_heard := (fun_mk (st := s_law_heard) l_law_heard c_law_heard k_law_heard).binds (ps := P_law_heard) fun _ _ _ _ _ _ us hl => match us, hl with | [_], _ => rfl,
    g_law := PySem.W.mg_of X G a_law,
    FC_law := ⟨⟨_, _, _, _, _, _, _, _, rfl, l_law, c_law⟩⟩,
    ch_law := ch_law,
    nP_law := np_law,
    F_law := fun_mk (st := s_law) l_law c_law k_law,
    b_law := (fun_mk (st := s_law) l_law c_law k_law).binds (ps := P_law) fun _ _ _ _ _ _ us hl => match us, hl with | [_], _ => rfl,
    z_bool := PySem.W.mg_none_of X G z_bool,
    z_int := PySem.W.mg_none_of X G z_int,
    z_isinstance := PySem.W.mg_none_of X G z_isinstance,
    z_len := PySem.W.mg_none_of X G z_len,
    z_list := PySem.W.mg_none_of X G z_list,
    z_range := PySem.W.mg_none_of X G z_range,
    z_repr := PySem.W.mg_none_of X G z_repr,
    z_str := PySem.W.mg_none_of X G z_str,
    z_tuple := PySem.W.mg_none_of X G z_tuple,
    g_CarpetError := PySem.W.mg_of X G a_CE,
    ki_InvalidPlace := ki_InvalidPlace,
    ki_InvalidMotion := ki_InvalidMotion,
    ki_InvalidNumber := ki_InvalidNumber,
    em_InvalidPlace_InvalidPlace := em_InvalidPlace_InvalidPlace,
    em_InvalidPlace_InvalidMotion := em_InvalidPlace_InvalidMotion,
    em_InvalidPlace_InvalidNumber := em_InvalidPlace_InvalidNumber,
    em_InvalidMotion_InvalidPlace := em_InvalidMotion_InvalidPlace,
    em_InvalidMotion_InvalidMotion := em_InvalidMotion_InvalidMotion,
    em_InvalidMotion_InvalidNumber := em_InvalidMotion_InvalidNumber,
    em_InvalidNumber_InvalidPlace := em_InvalidNumber_InvalidPlace,
    em_InvalidNumber_InvalidMotion := em_InvalidNumber_InvalidMotion,
    em_InvalidNumber_InvalidNumber := em_InvalidNumber_InvalidNumber,
    t_dfl0 := kt_D0,
    c_KINDS := ⟨cv_K, rfl⟩,
    t_KINDS := kt_K,
    n_kind := nn_kind,
    n_shift := nn_shift,
    cr_Motion := ⟨rd_Mo, ga_Mo⟩ }
end Law
open PySem PySem.W PyProof.Rows
local macro_rules | `(tactic| walk_at "mv_vals") => `(tactic| repeat first | exact Paired.nil | refine Paired.cons ?_ ?_ | exact rfl | exact ⟨_, rfl⟩)
local macro_rules | `(tactic| walk_at "mv_kt") => `(tactic| (refine' MV.kt_mk ?h ?z ?v; (case h => k_is); (case z => decide +kernel); (case v => walk_at "mv_vals")))
local macro_rules | `(tactic| walk_at "mv_lit") => `(tactic| repeat first | exact True.intro | refine ⟨⟨_, _, rfl, rfl⟩, ?_⟩)
local macro_rules | `(tactic| walk_at "mv_kd") => `(tactic| (refine' MV.kd_mk ?h ?l ?n ?v; (case h => k_is); (case n => k_is); (case l => walk_at "mv_lit"); (case v => first | exact rfl | exact ⟨_, rfl⟩)))
local macro_rules | `(tactic| walk_at "mv_kk") => `(tactic| (refine' MV.kk_mk ?h ?n ?v; (case h => k_is); (case n => decide +kernel); (case v => walk_at "mv_vals")))
local macro_rules | `(tactic| walk_at "mv_bind") => `(tactic| (refine ⟨?k, ?h, ?g⟩; (case h => (unfold bindArgs; dsimp only; rw [List.forIn_nil, pure_bind])); (case g => exact rfl)))
set_option maxHeartbeats 0 in
theorem PySem.Challenge.cw_carpets_k08_invalid_motions_holds : PySem.Challenge.rw_carpets_k08_invalid_motions.Holds := by
  w_on; o_law; k_head; (case hw => w_witness2)
  k_fill
  refine MV.walkT (l := PySem.Challenge.rw_carpets_k08_invalid_motions) (n := 63) (k := 9) (x := "_law_script") (CX := fun _ => L2.CX0) rfl (by decide) rfl ⟨rfl, by decide, by decide⟩ (fun w h Y => PySem.W.km_in_of Y) ?F (fun _ _ _ _ _ h => h)
  case F =>
    intro w mg fa h KX G hmg tabs
    refine' MV.byTxt (Law.all_mk KX G hmg ?a_InvalidPlace ?lc_InvalidPlace ?rv_InvalidPlace ?sa_InvalidPlace ?ex_InvalidPlace ?ty_InvalidPlace ?kc_InvalidPlace ?nf_InvalidPlace ?xg_InvalidPlace ?xa_InvalidPlace ?xn_InvalidPlace ?xt_InvalidPlace ?xm_InvalidPlace ?a_InvalidMotion ?lc_InvalidMotion ?rv_InvalidMotion ?sa_InvalidMotion ?ex_InvalidMotion ?ty_InvalidMotion ?kc_InvalidMotion ?nf_InvalidMotion ?xg_InvalidMotion ?xa_InvalidMotion ?xn_InvalidMotion ?xt_InvalidMotion ?xm_InvalidMotion ?a_InvalidNumber ?lc_InvalidNumber ?rv_InvalidNumber ?sa_InvalidNumber ?ex_InvalidNumber ?ty_InvalidNumber ?kc_InvalidNumber ?nf_InvalidNumber ?xg_InvalidNumber ?xa_InvalidNumber ?xn_InvalidNumber ?xt_InvalidNumber ?xm_InvalidNumber ?a_Motion ?pg_Motion ?hd_Motion ?po_Motion ?sa_Motion ?mk_Motion ?kc_Motion ?a_InvalidPlace_init ?i_InvalidPlace_init ?l_InvalidPlace_init ?c_InvalidPlace_init ?k_InvalidPlace_init ?tf_InvalidPlace ?a_InvalidMotion_init ?i_InvalidMotion_init ?l_InvalidMotion_init ?c_InvalidMotion_init ?k_InvalidMotion_init ?tf_InvalidMotion ?a_InvalidNumber_init ?i_InvalidNumber_init ?l_InvalidNumber_init ?c_InvalidNumber_init ?k_InvalidNumber_init ?tf_InvalidNumber ?a_is_integer ?l_is_integer ?c_is_integer ?k_is_integer ?a_is_place ?l_is_place ?c_is_place ?k_is_place ?a_check_place ?l_check_place ?c_check_place ?k_check_place ?a_Motion_init ?i_Motion_init ?l_Motion_init ?c_Motion_init ?k_Motion_init ?dd_Motion_init ?a_Motion_by ?rc_Motion_by ?rd_Motion_by ?ga_Motion_by ?l_Motion_by ?c_Motion_by ?k_Motion_by ?a_Motion_kind ?g1_Motion_kind ?g2_Motion_kind ?g3_Motion_kind ?l_Motion_kind ?c_Motion_kind ?k_Motion_kind ?a_Motion_shift ?g1_Motion_shift ?g2_Motion_shift ?g3_Motion_shift ?l_Motion_shift ?c_Motion_shift ?k_Motion_shift ?a_Motion_call ?i_Motion_call ?fn_Motion_call ?l_Motion_call ?c_Motion_call ?k_Motion_call ?a_Motion_repeated ?i_Motion_repeated ?l_Motion_repeated ?c_Motion_repeated ?k_Motion_repeated ?a_law_tape ?l_law_tape ?c_law_tape ?k_law_tape ?a_law_draw ?l_law_draw ?c_law_draw ?k_law_draw ?a_law_great ?l_law_great ?c_law_great ?k_law_great ?a_law_place ?l_law_place ?c_law_place ?k_law_place ?a_law_kinds ?l_law_kinds ?c_law_kinds ?k_law_kinds ?a_law_heard ?l_law_heard ?c_law_heard ?k_law_heard ?a_law ?l_law ?c_law ?k_law ?cr_law ?cp_law ?ch_law ?np_law ?z_bool ?z_int ?z_isinstance ?z_len ?z_list ?z_range ?z_repr ?z_str ?z_tuple ?a_CE ?ki_InvalidPlace ?ki_InvalidMotion ?ki_InvalidNumber ?em_InvalidPlace_InvalidPlace ?em_InvalidPlace_InvalidMotion ?em_InvalidPlace_InvalidNumber ?em_InvalidMotion_InvalidPlace ?em_InvalidMotion_InvalidMotion ?em_InvalidMotion_InvalidNumber ?em_InvalidNumber_InvalidPlace ?em_InvalidNumber_InvalidMotion ?em_InvalidNumber_InvalidNumber ?kt_D0 ?cv_K ?kt_K ?nn_kind ?nn_shift ?rd_Mo ?ga_Mo) (fun a z => ?go)
    (case go =>
      obtain ⟨e, b, T⟩ := z
      subst e
      exact MV.lawT_one (sp := Law.sp_law _ a.PT_law) KX (tabs "law" _ (by decide +kernel) hmg) T.FC_law T.ch_law T.nP_law b (fun H a ns hl hT hS => Law.sp_start _ _ _ _ _ hl hT hS) (fun base hT => Law.ok_law T hT))
    (case a_InvalidPlace => first | k_is | rfl)
    (case lc_InvalidPlace => first | k_is | rfl)
    (case rv_InvalidPlace => first | k_is | rfl)
    (case sa_InvalidPlace => first | k_is | rfl)
    (case ex_InvalidPlace => first | k_is | rfl)
    (case ty_InvalidPlace => first | k_is | rfl)
    (case kc_InvalidPlace => first | k_is | rfl)
    (case nf_InvalidPlace => first | k_is | rfl)
    (case xg_InvalidPlace => first | k_is | rfl)
    (case xa_InvalidPlace => first | k_is | rfl)
    (case xn_InvalidPlace => first | k_is | rfl)
    (case xt_InvalidPlace => first | k_is | rfl)
    (case xm_InvalidPlace => first | k_is | rfl)
    (case a_InvalidMotion => first | k_is | rfl)
    (case lc_InvalidMotion => first | k_is | rfl)
    (case rv_InvalidMotion => first | k_is | rfl)
    (case sa_InvalidMotion => first | k_is | rfl)
    (case ex_InvalidMotion => first | k_is | rfl)
    (case ty_InvalidMotion => first | k_is | rfl)
    (case kc_InvalidMotion => first | k_is | rfl)
    (case nf_InvalidMotion => first | k_is | rfl)
    (case xg_InvalidMotion => first | k_is | rfl)
    (case xa_InvalidMotion => first | k_is | rfl)
    (case xn_InvalidMotion => first | k_is | rfl)
    (case xt_InvalidMotion => first | k_is | rfl)
    (case xm_InvalidMotion => first | k_is | rfl)
    (case a_InvalidNumber => first | k_is | rfl)
    (case lc_InvalidNumber => first | k_is | rfl)
    (case rv_InvalidNumber => first | k_is | rfl)
    (case sa_InvalidNumber => first | k_is | rfl)
    (case ex_InvalidNumber => first | k_is | rfl)
    (case ty_InvalidNumber => first | k_is | rfl)
    (case kc_InvalidNumber => first | k_is | rfl)
    (case nf_InvalidNumber => first | k_is | rfl)
    (case xg_InvalidNumber => first | k_is | rfl)
    (case xa_InvalidNumber => first | k_is | rfl)
    (case xn_InvalidNumber => first | k_is | rfl)
    (case xt_InvalidNumber => first | k_is | rfl)
    (case xm_InvalidNumber => first | k_is | rfl)
    (case a_Motion => first | k_is | rfl)
    (case pg_Motion => first | k_is | rfl)
    (case hd_Motion => first | k_is | rfl)
    (case po_Motion => first | k_is | rfl)
    (case sa_Motion => first | k_is | rfl)
    (case mk_Motion => first | k_is | rfl)
    (case kc_Motion => first | k_is | rfl)
    (case a_InvalidPlace_init => first | k_is | rfl)
    (case i_InvalidPlace_init => first | k_is | rfl)
    (case l_InvalidPlace_init => first | k_is | rfl)
    (case c_InvalidPlace_init => first | k_is | rfl)
    (case k_InvalidPlace_init => first | k_is | rfl)
    (case tf_InvalidPlace => first | k_is | rfl)
    (case a_InvalidMotion_init => first | k_is | rfl)
    (case i_InvalidMotion_init => first | k_is | rfl)
    (case l_InvalidMotion_init => first | k_is | rfl)
    (case c_InvalidMotion_init => first | k_is | rfl)
    (case k_InvalidMotion_init => first | k_is | rfl)
    (case tf_InvalidMotion => first | k_is | rfl)
    (case a_InvalidNumber_init => first | k_is | rfl)
    (case i_InvalidNumber_init => first | k_is | rfl)
    (case l_InvalidNumber_init => first | k_is | rfl)
    (case c_InvalidNumber_init => first | k_is | rfl)
    (case k_InvalidNumber_init => first | k_is | rfl)
    (case tf_InvalidNumber => first | k_is | rfl)
    (case a_is_integer => first | k_is | rfl)
    (case l_is_integer => first | k_is | rfl)
    (case c_is_integer => first | k_is | rfl)
    (case k_is_integer => first | k_is | rfl)
    (case a_is_place => first | k_is | rfl)
    (case l_is_place => first | k_is | rfl)
    (case c_is_place => first | k_is | rfl)
    (case k_is_place => first | k_is | rfl)
    (case a_check_place => first | k_is | rfl)
    (case l_check_place => first | k_is | rfl)
    (case c_check_place => first | k_is | rfl)
    (case k_check_place => first | k_is | rfl)
    (case a_Motion_init => first | k_is | rfl)
    (case i_Motion_init => first | k_is | rfl)
    (case l_Motion_init => first | k_is | rfl)
    (case c_Motion_init => first | k_is | rfl)
    (case k_Motion_init => first | k_is | rfl)
    (case dd_Motion_init => first | k_is | rfl)
    (case a_Motion_by => first | k_is | rfl)
    (case rc_Motion_by => first | k_is | rfl)
    (case rd_Motion_by => first | k_is | rfl)
    (case ga_Motion_by => first | k_is | rfl)
    (case l_Motion_by => first | k_is | rfl)
    (case c_Motion_by => first | k_is | rfl)
    (case k_Motion_by => first | k_is | rfl)
    (case a_Motion_kind => first | k_is | rfl)
    (case g1_Motion_kind => first | k_is | rfl)
    (case g2_Motion_kind => first | k_is | rfl)
    (case g3_Motion_kind => first | k_is | rfl)
    (case l_Motion_kind => first | k_is | rfl)
    (case c_Motion_kind => first | k_is | rfl)
    (case k_Motion_kind => first | k_is | rfl)
    (case a_Motion_shift => first | k_is | rfl)
    (case g1_Motion_shift => first | k_is | rfl)
    (case g2_Motion_shift => first | k_is | rfl)
    (case g3_Motion_shift => first | k_is | rfl)
    (case l_Motion_shift => first | k_is | rfl)
    (case c_Motion_shift => first | k_is | rfl)
    (case k_Motion_shift => first | k_is | rfl)
    (case a_Motion_call => first | k_is | rfl)
    (case i_Motion_call => first | k_is | rfl)
    (case fn_Motion_call => first | k_is | rfl)
    (case l_Motion_call => first | k_is | rfl)
    (case c_Motion_call => first | k_is | rfl)
    (case k_Motion_call => first | k_is | rfl)
    (case a_Motion_repeated => first | k_is | rfl)
    (case i_Motion_repeated => first | k_is | rfl)
    (case l_Motion_repeated => first | k_is | rfl)
    (case c_Motion_repeated => first | k_is | rfl)
    (case k_Motion_repeated => first | k_is | rfl)
    (case a_law_tape => first | k_is | rfl)
    (case l_law_tape => first | k_is | rfl)
    (case c_law_tape => first | k_is | rfl)
    (case k_law_tape => first | k_is | rfl)
    (case a_law_draw => first | k_is | rfl)
    (case l_law_draw => first | k_is | rfl)
    (case c_law_draw => first | k_is | rfl)
    (case k_law_draw => first | k_is | rfl)
    (case a_law_great => first | k_is | rfl)
    (case l_law_great => first | k_is | rfl)
    (case c_law_great => first | k_is | rfl)
    (case k_law_great => first | k_is | rfl)
    (case a_law_place => first | k_is | rfl)
    (case l_law_place => first | k_is | rfl)
    (case c_law_place => first | k_is | rfl)
    (case k_law_place => first | k_is | rfl)
    (case a_law_kinds => first | k_is | rfl)
    (case l_law_kinds => first | k_is | rfl)
    (case c_law_kinds => first | k_is | rfl)
    (case k_law_kinds => first | k_is | rfl)
    (case a_law_heard => first | k_is | rfl)
    (case l_law_heard => first | k_is | rfl)
    (case c_law_heard => first | k_is | rfl)
    (case k_law_heard => first | k_is | rfl)
    (case a_law => first | k_is | rfl)
    (case l_law => first | k_is | rfl)
    (case c_law => first | k_is | rfl)
    (case k_law => first | k_is | rfl)
    (case cr_law => first | k_is | rfl)
    (case cp_law => first | k_is | rfl)
    (case ch_law => first | k_is | rfl)
    (case np_law => first | k_is | rfl)
    (case z_bool => first | k_is | rfl)
    (case z_int => first | k_is | rfl)
    (case z_isinstance => first | k_is | rfl)
    (case z_len => first | k_is | rfl)
    (case z_list => first | k_is | rfl)
    (case z_range => first | k_is | rfl)
    (case z_repr => first | k_is | rfl)
    (case z_str => first | k_is | rfl)
    (case z_tuple => first | k_is | rfl)
    (case a_CE => first | k_is | rfl)
    (case ki_InvalidPlace => first | k_is | rfl)
    (case ki_InvalidMotion => first | k_is | rfl)
    (case ki_InvalidNumber => first | k_is | rfl)
    (case em_InvalidPlace_InvalidPlace => first | k_is | rfl)
    (case em_InvalidPlace_InvalidMotion => first | k_is | rfl)
    (case em_InvalidPlace_InvalidNumber => first | k_is | rfl)
    (case em_InvalidMotion_InvalidPlace => first | k_is | rfl)
    (case em_InvalidMotion_InvalidMotion => first | k_is | rfl)
    (case em_InvalidMotion_InvalidNumber => first | k_is | rfl)
    (case em_InvalidNumber_InvalidPlace => first | k_is | rfl)
    (case em_InvalidNumber_InvalidMotion => first | k_is | rfl)
    (case em_InvalidNumber_InvalidNumber => first | k_is | rfl)
    (case kt_D0 => first | k_is | rfl | walk_at "mv_kt")
    (case cv_K => first | k_is | rfl)
    (case kt_K => first | k_is | rfl | walk_at "mv_kt")
    (case nn_kind => first | k_is | rfl)
    (case nn_shift => first | k_is | rfl)
    (case rd_Mo => first | k_is | rfl)
    (case ga_Mo => first | k_is | rfl)

