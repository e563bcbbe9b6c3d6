import PyProof.Rows.All
import Wide.All
import OpenK.AllK
import Wide.FinOn
import HandS.ForMost
import HandS.ForExc
import HandS.Wide
import HandS.Gcd
import HandS.IsInst
import HandS.Property
import HandS.Flow
import HandS.RaiseMore
import HandS.Ends
import HandS.Style
import OpenK.KMeth
import KE.KOpsOwn
import KE.KCallOwn
import HandS.ClsMeth
import HandS.Defaults
import HandS.FStr
import OpenK.KOps
import HandS.Star
import HandS.Iter
import HandS.ExcInit
import HandS.Lambda
import HandS.TryMany
import HandS.ExcField
import HandS.ExcIs
import HandS.EndOwn
import KE.KExcIs
import KE.KNestM
import HandS.Walk
import HandS.Steps
import HandS.MakeKwOnly
import KE.GoesMore
import PyProof.StrOps2
import HandS.Text
import PyProof.StrLawsRepr
import PySem.Challenge.RW_carpets_k40_patches_made
set_option Elab.async false
set_option linter.all false
set_option maxRecDepth 100000
set_option maxHeartbeats 2000000
/-! MVA: calls that know that no repr is under way (A.guards), and rules of calls over them. -/
namespace MV
open PySem PySem.Spec PyProof.Rows L2

/-- as FnOk, asked only where no repr is under way -/
structure FnG (P : Program) (w : World) (K : PySem.W.Frag) (mg : Str → Option Value) (base : Heap) (CX : CXT)
    (k : Nat) (f : Addr) (fd : FuncData) (ps : List Str) (sp : Sp) : Prop where
  ln : ∀ vs H Q E, sp vs H Q E → vs.length = ps.length
  go : ∀ (A : Around) (outer : List Env) (s : Shared) (H : Hp) (args : Args) (us : List Value) (vs : List V) (Q : VK) (E : XK),
    Room k A → A.guards = some [] → Env0 P w K mg base A outer s H → BindsTo s fd args (ps.zip us) → Vals vs us →
    sp vs H Q E → codeAny (model P w) A (.call (.ref f) args) (CR CX outer P w H s Q E) s

section
variable {P : Program} {w : World} {K : PySem.W.Frag} {mg : Str → Option Value} {base : Heap} {CX : CXT}
  {k j : Nat} {f : Addr} {fd : FuncData} {ps : List Str} {sp sp' : Sp}

theorem FnG.ofOk (F : FnOk P w K mg base CX k f fd ps sp) : FnG P w K mg base CX k f fd ps sp where
  ln := F.len
  go A outer s H args us vs Q E r _ e b v q := F.run A outer s H args us vs Q E r e b v q

theorem FnG.up (F : FnG P w K mg base CX j f fd ps sp) (h : j ≤ k) : FnG P w K mg base CX k f fd ps sp where
  ln := F.ln
  go A outer s H args us vs Q E r g e b v q := F.go A outer s H args us vs Q E (r.mono h) g e b v q

/-- the rule of a def, the context of its body knowing that no repr is under way -/
theorem fng_of {name qual : Str} {params : Arguments} {body : List Stmt} {scope : Scope} {dV kV doc pm cdv ct oc : Value}
    {an od : Option Addr} {osl : Array (Option Value)} {N : List Str}
    (lk : K.lookup f = some ⟨oc, od, .func (PySem.W.fnOf name qual params body scope dV kV doc pm an cdv ct), osl⟩)
    (hcd : PySem.W.codeIn K cdv qual = true) (S : FnScope N ps scope)
    (ln : ∀ vs H Q E, sp vs H Q E → vs.length = ps.length)
    (hbody : ∀ (A : Around) (outer : List Env) (s : Shared) (H : Hp) (vs : List V) (Q : VK) (E : XK),
      Room k (A.deeper (envOfC qual scope s.heap.objs.size f cdv)) →
      (A.deeper (envOfC qual scope s.heap.objs.size f cdv)).guards = some [] → sp vs H Q E →
      ∃ t, PSs (cxOf CX P w K mg base N qual scope f cdv A outer s H E) body t ∧
        t { nx := fun _ H' => Q .non H', rt := Q } (start N vs) H) :
    FnG P w K mg base CX (k + 1) f (PySem.W.fnOf name qual params body scope dV kV doc pm an cdv ct) ps sp where
  ln := ln
  go A outer s H args us vs Q E hr hg e0 hb r hsp := by
    have keep := fun b o e => (e0.bs b o e).1
    have KX : K.In s.heap := e0.mod.kin.keeps keep
    have kinds : ∀ y ∈ ps.zip us, scope.names.lookup y.1 = some .local ∨ (scope.names.lookup y.1 = some .cell ∧
        ((cellsFrom (s.heap.objs.size + 1) scope.names []).lookup y.1).isSome = true) := by
      rintro ⟨n, v⟩ hy
      cases S.par n (List.of_mem_zip hy).1 with
      | inl q => exact .inl q
      | inr q => exact .inr ⟨q, PySem.W.cellsFrom_some _ _ _ (.inl q)⟩
    apply codeAny_call_function hr.depth (KX _ _ lk) rfl S.co S.gen rfl (PySem.W.codeRec_of KX hcd)
    refine hb _ _ _ _ (wpAny_newFunctionEnv_cells S.kind kinds ?_)
    rintro env rfl s1 x
    refine ⟨(e0.mod.nolimit.keeps keep).keeps x.toInCall.keep, codeAny_func ?_⟩
    obtain ⟨t, ht, q⟩ := hbody A outer s H vs Q E (hr.deeper _) hg hsp
    have I := inv_start (CX := CX) (E := E) S hr.hd e0 (ln _ _ _ _ hsp) r x
    apply wpAny_mono (ht.run [] s1 _ H _ I q)
    · intro fl s' hs
      cases fl with
      | brk => exact (let ⟨_, _, _, z⟩ := hs; False.elim z)
      | cont => exact (let ⟨_, _, _, z⟩ := hs; False.elim z)
      | ret u => exact (let ⟨v, _, H', J, rv, z⟩ := hs; ⟨v, H', J.os, J.bare, J.base, J.hok, rv, z⟩)
      | next => exact (let ⟨_, H', J, z⟩ := hs; ⟨V.non, H', J.os, J.bare, J.base, J.hok, rfl, z⟩)
    · exact fun _ _ hs => hs

/-- the rule of a def of the text; what it raises lies as CX says -/
theorem Fun.g {x qual : Str} {st : Stmt} {N : List Str} (F : Fun K x qual st f fd) (S : FnScope N ps (defScope st))
    (ln : ∀ vs H Q E, sp vs H Q E → vs.length = ps.length)
    (hb : ∀ (cdv : Value) (A : Around) (outer : List Env) (s : Shared) (H : Hp) (vs : List V) (Q : VK) (E : XK),
      Room k (A.deeper (envOfC qual (defScope st) s.heap.objs.size f cdv)) →
      (A.deeper (envOfC qual (defScope st) s.heap.objs.size f cdv)).guards = some [] → sp vs H Q E →
      ∃ t, PSs (cxOf CX P w K mg base N qual (defScope st) f cdv A outer s H E) (defBody st) t ∧
        t { nx := fun _ H' => Q .non H', rt := Q } (start N vs) H) :
    FnG P w K mg base CX (k + 1) f fd ps sp := by
  obtain ⟨oc, od, kV, doc, pm, an, cdv, ct, osl, rfl, lk, hcd⟩ := F.ex
  exact fng_of lk hcd S ln fun A outer s H vs Q E hr hg h => hb cdv A outer s H vs Q E hr hg h

/-- as Fun.g, for a def of which nothing comes out but values: with loops -/
theorem Fun.gn {x qual : Str} {st : Stmt} {N : List Str} (F : Fun K x qual st f fd) (S : FnScope N ps (defScope st))
    (ln : ∀ vs H Q E, sp vs H Q E → vs.length = ps.length)
    (hb : ∀ (cdv : Value) (A : Around) (outer : List Env) (s : Shared) (H : Hp) (vs : List V) (Q : VK) (E : XK),
      Room k (A.deeper (envOfC qual (defScope st) s.heap.objs.size f cdv)) →
      (A.deeper (envOfC qual (defScope st) s.heap.objs.size f cdv)).guards = some [] → sp vs H Q E →
      ∃ t, PSs (cxOf CX P w K mg base N qual (defScope st) f cdv A outer s H E).nox (defBody st) t ∧
        t { nx := fun _ H' => Q .non H', rt := Q } (start N vs) H) :
    FnG P w K mg base CX (k + 1) f fd ps sp :=
  Fun.g F S ln fun cdv A outer s H vs Q E hr hg h => (let ⟨t, p, q⟩ := hb cdv A outer s H vs Q E hr hg h; ⟨t, p.nox, q⟩)
end

/-! ### the call of such a def, by values and in the text -/
section
variable {X : Cx} {CX : CXT} {k : Nat} {f C : Addr} {fd : FuncData} {ps : List Str} {sp : Sp} {dvs : List V} {ds : List Value}
  {E : XK} {x m : Str} {p pos apos : Pos} {e o : Expr} {es : List Expr} {ta : TE} {t : TA}

/-- what a caller reads off a callee's end -/
def Back (X : Cx) (pins : List (Addr × Obj)) (σ : L2.St) (Q : VK) : Result → Shared → Prop
  | .ok (.ret u), s' => EP X pins σ Q u s'
  | .ok _, _ => False
  | .error z, s' => X.xe z s'
theorem ended {pins : List (Addr × Obj)} {σ : L2.St} {H : Hp} {s s' : Shared} {Q : VK} {r : Result} (hx : Passes CX X E)
    (I : Inv X pins σ H s) (h : CR CX X.stack X.prog X.w H s Q E r s') :
    Back X pins σ Q r s' := by
  match r, h with
  | .ok (.ret u), h => exact I.after h
  | .ok .next, h => exact h
  | .ok .brk, h => exact h
  | .ok .cont, h => exact h
  | .error z, h => exact hx pins σ H s z s' I h

theorem runG {A : Around} {pins : List (Addr × Obj)} {σ : L2.St} {H : Hp} {s : Shared} {Q : VK} {us : List Value} {vs : List V}
    (F : FnG X.prog X.w X.K X.mg X.base CX k f fd ps sp) (hr : Room k A) (hg : A.guards = some [])
    (e0 : Env0 X.prog X.w X.K X.mg X.base A X.stack s H) (hb : Binds X.K fd ps ds) (hd : Vals dvs ds) (hx : Passes CX X E)
    (I : Inv X pins σ H s) (r : Vals vs us) (h : sp (vs ++ dvs) H Q E) :
    codeAny (model X.prog X.w) A (.call (.ref f) ⟨us, []⟩) (Back X pins σ Q) s := by
  have r2 := r.append hd
  have hl : (us ++ ds).length = ps.length := r2.length.symm.trans (F.ln _ _ _ _ h)
  exact codeAny_mono (F.go A X.stack s H ⟨us, []⟩ (us ++ ds) (vs ++ dvs) Q E hr hg e0 (hb s us I.kIn hl) r2 h)
    fun r s' hq => ended hx I hq

/-- a call by values -/
theorem callG {pins : List (Addr × Obj)} {σ : L2.St} {H : Hp} {s : Shared} {Q : VK} {us : List Value} {vs : List V}
    (F : FnG X.prog X.w X.K X.mg X.base CX k f fd ps sp) (hr : Room k X.A) (hg : X.A.guards = some [])
    (hb : Binds X.K fd ps ds) (hd : Vals dvs ds) (hx : Passes CX X E)
    (I : Inv X pins σ H s) (r : Vals vs us) (h : sp (vs ++ dvs) H Q E) :
    wpAny (model X.prog X.w) X.A (call (.ref f) us) (EP X pins σ Q) X.xe s := by
  refine wpAny_call (codeAny_mono (runG F hr hg I.env0 hb hd hx I r h) fun z s' q => ?_)
  match z, q with
  | .ok (.ret _), q => exact q
  | .error _, q => exact q

theorem peg_call (F : FnG X.prog X.w X.K X.mg X.base CX k f fd ps sp) (hr : Room k X.A) (hg : X.A.guards = some [])
    (hn : Gl X x) (hm : X.mg x = some (.ref f)) (hk : PySem.W.keepIn X.K (.ref f) = true) (hb : Binds X.K fd ps ds)
    (hd : Vals dvs ds) (hx : Passes CX X E) (ha : PA X (e :: es) t)
    (hdb : (x == ("__debug__" : Str)) = false := by decide)
    (he : starEach (e :: es) X.env = (false, eval e X.env) :: starEach es X.env := by rfl)
    (hpl : (backTo pos (starEach es X.env)).any (·.1) = false := by rfl) :
    PE X (.Call (.Name x p) (e :: es) [] pos) (tCall sp dvs E t) := by
  constructor
  intro pins s σ H Q I h
  apply wpAny_Call_Name_kw
  refine ld_glob I hn hm (PySem.W.callWith_K (h₀ := X.base) I.ok.mod.kin hk ?_ he hpl) hdb
  exact thn (ha.run pos pins s σ H _ I h) fun us s1 ⟨vs, H1, I1, r, q⟩ => ⟨I1.kIn, callG F hr hg hb hd hx I1 r q⟩

theorem peg_call0 (F : FnG X.prog X.w X.K X.mg X.base CX k f fd ps sp) (hr : Room k X.A) (hg : X.A.guards = some [])
    (hn : Gl X x) (hm : X.mg x = some (.ref f)) (hk : PySem.W.keepIn X.K (.ref f) = true) (hb : Binds X.K fd ps ds)
    (hd : Vals dvs ds) (hx : Passes CX X E) (hdb : (x == ("__debug__" : Str)) = false := by decide) :
    PE X (.Call (.Name x p) [] [] pos) (tCall sp dvs E tNil) := by
  constructor
  intro pins s σ H Q I h
  apply wpAny_Call_Name_kw
  exact ld_glob I hn hm (PySem.W.callWith_K0 I.kIn hk (callG (us := []) F hr hg hb hd hx I .nil h)) hdb

/-- o.m(..) -/
theorem peg_meth {pl : Sem Bool} (he : PE X o ta) (c : Cls X.K C) (hm : Meth X.K C m f)
    (F : FnG X.prog X.w X.K X.mg X.base CX k f fd ps sp) (hr : Room k X.A) (hg : X.A.guards = some [])
    (hb : Binds X.K fd ps ds) (hd : Vals dvs ds) (hx : Passes CX X E) (ha : PA X (e :: es) t)
    (hst : starEach (e :: es) X.env = (false, eval e X.env) :: starEach es X.env := by rfl)
    (hpl : (backTo pos (starEach es X.env)).any (·.1) = false := by rfl)
    (ht : eval (.Call (.Attribute o m apos) (e :: es) [] pos) X.env = (do
      let ov ← eval o X.env
      standAt apos.atName
      let (g, first) ← holding [ov] (getMethod ov m pl)
      callWith pos g first (backTo pos (starEach (e :: es) X.env)) (backToKw pos (keywordEach [] X.env))) := by rfl) :
    PE X (.Call (.Attribute o m apos) (e :: es) [] pos) (tMeth C m sp dvs E ta t) := by
  constructor
  intro pins s σ H Q I h
  refine PySem.W.methodCall_KW (pl := pl) (thn (he.run pins s σ H _ I h) ?_) ht
  rintro u s1 ⟨_, H1, I1, rx, a, dx, fs, rfl, ea, l, q⟩
  cases rx
  refine getmeth_ok I1 ea c hm l (PySem.W.callWith_K (first := [.ref a]) (h₀ := X.base) I.ok.mod.kin hm.kp ?_ hst hpl)
  refine thn (ha.run pos pins s1 σ H1 _ I1 q) fun us s2 ⟨vs, H2, I2, r, q2⟩ => ⟨I2.kIn, ?_⟩
  exact callG (us := .ref a :: us) (vs := .ref a :: vs) F hr hg hb hd hx I2 (.cons rfl r) q2

theorem peg_meth0 {pl : Sem Bool} (he : PE X o ta) (c : Cls X.K C) (hm : Meth X.K C m f)
    (F : FnG X.prog X.w X.K X.mg X.base CX k f fd ps sp) (hr : Room k X.A) (hg : X.A.guards = some [])
    (hb : Binds X.K fd ps ds) (hd : Vals dvs ds) (hx : Passes CX X E)
    (ht : eval (.Call (.Attribute o m apos) [] [] pos) X.env = (do
      let ov ← eval o X.env
      standAt apos.atName
      let (g, first) ← holding [ov] (getMethod ov m pl)
      callWith pos g first (backTo pos (starEach [] X.env)) (backToKw pos (keywordEach [] X.env))) := by rfl) :
    PE X (.Call (.Attribute o m apos) [] [] pos) (tMeth C m sp dvs E ta tNil) := by
  constructor
  intro pins s σ H Q I h
  refine PySem.W.methodCall_KW (pl := pl) (thn (he.run pins s σ H _ I h) ?_) ht
  rintro u s1 ⟨_, H1, I1, rx, a, dx, fs, rfl, ea, l, q⟩
  cases rx
  refine getmeth_ok I1 ea c hm l (PySem.W.callWith_K0 (first := [.ref a]) I1.kIn hm.kp ?_)
  exact callG (us := [.ref a]) (vs := [.ref a]) F hr hg hb hd hx I1 (.cons rfl .nil) q

theorem guards_make {A : Around} (h : A.guards = some []) (C : Addr) (us : List Value) (kw : List (Str × Value)) :
    (A.under (.builtin "type.__call__" ⟨.ref C :: us, kw⟩)).guards = some [] := by
  have z : ∀ c : Code, c.isGuard = false → (A.under c).guards = A.guards := fun c hc => by
    simp [Around.under, Code.guards, hc, pushGuards]
  rw [z _ rfl, h]

/-- C(..), by values -/
theorem makeG {pins : List (Addr × Obj)} {σ : L2.St} {H : Hp} {s : Shared} {Q : VK} {us : List Value} {vs : List V} (M : Mk X.K C f)
    (F : FnG X.prog X.w X.K X.mg X.base CX k f fd ps sp) (hr : Room (k + 1) X.A) (hg : X.A.guards = some [])
    (hb : Binds X.K fd ps ds) (hd : Vals dvs ds) (hx : Passes CX X E) (I : Inv X pins σ H s) (r : Vals vs us)
    (h : ∀ x dx, H x = none → H dx = none → dx ≠ x → sp (.ref x :: (vs ++ dvs)) (upd (upd H dx (.own x)) x (.ins C dx []))
      (fun v H2 => v = .non ∧ Q (.ref x) H2) E) :
    wpAny (model X.prog X.w) X.A (call (.ref C) us) (EP X pins σ Q) X.xe s := by
  have n := s.heap.objs.size
  have free : ∀ i, s.heap.objs.size ≤ i → H i = none := fun i hi => I.hok.fresh hi
  have q := h (s.heap.objs.size + 1) s.heap.objs.size (free _ (by omega)) (free _ (by omega)) (by
    show s.heap.objs.size ≠ s.heap.objs.size + 1
    exact Nat.ne_of_lt (Nat.lt_succ_self _))
  have J := Inv.made (C := C) I
  have w2 := runG (us := Value.ref (s.heap.objs.size + 1) :: us) (vs := V.ref (s.heap.objs.size + 1) :: vs) F (hr.make C us [])
    (guards_make hg C us []) (J.env0.make C us []) hb hd hx J (.cons rfl r) q
  refine wpAny_call (make_map (f := f) I.kIn M.makes M.init (beq_iff_eq.mp M.fn) (codeAny_mono w2 ?_))
  rintro (z | (_ | _ | _ | u)) s' hq
  · exact hq
  · exact hq.elim
  · exact hq.elim
  · exact hq.elim
  · obtain ⟨v, H', I3, rv, rfl, q3⟩ := hq
    exact ⟨rv, V.ref (s.heap.objs.size + 1), H', I3, rfl, q3⟩

theorem peg_make (M : Mk X.K C f) (F : FnG X.prog X.w X.K X.mg X.base CX k f fd ps sp) (hr : Room (k + 1) X.A)
    (hg : X.A.guards = some []) (hn : Gl X x) (hm : X.mg x = some (.ref C)) (hb : Binds X.K fd ps ds) (hd : Vals dvs ds)
    (hx : Passes CX X E) (ha : PA X (e :: es) t) (hdb : (x == ("__debug__" : Str)) = false := by decide)
    (he : starEach (e :: es) X.env = (false, eval e X.env) :: starEach es X.env := by rfl)
    (hpl : (backTo pos (starEach es X.env)).any (·.1) = false := by rfl) :
    PE X (.Call (.Name x p) (e :: es) [] pos) (tMake C sp dvs E t) := by
  constructor
  intro pins s σ H Q I h
  apply wpAny_Call_Name_kw
  refine ld_glob I hn hm (PySem.W.callWith_K (h₀ := X.base) I.ok.mod.kin M.kp ?_ he hpl) hdb
  exact thn (ha.run pos pins s σ H _ I h) fun us s1 ⟨vs, H1, I1, r, q⟩ => ⟨I1.kIn, makeG M F hr hg hb hd hx I1 r q⟩
end
end MV

set_option Elab.async false
set_option linter.all false
set_option maxRecDepth 100000
set_option maxHeartbeats 2000000
/-! MVB: the end of a law over FnG; repr of data; own in, ==, !=. -/
namespace MV
open PySem PySem.Spec PyProof.Rows L2

/-! ### the end -/
/-- the abstract heap at the law's entry: the script and nothing else -/
def scriptHp (a : Addr) (o : Obj) (xs : List V) : Hp := fun b => if b = a then some (.frz o (.lst xs)) else none
theorem scriptHp_at {a b : Addr} {o : Obj} {xs : List V} {u : HO} (h : scriptHp a o xs b = some u) : b = a ∧ u = .frz o (.lst xs) := by
  unfold scriptHp at h
  split at h
  · exact ⟨by assumption, (Option.some.inj h).symm⟩
  · cases h
theorem scriptHp_none {a b : Addr} {o : Obj} {xs : List V} (h : b ≠ a) : scriptHp a o xs b = none := if_neg h

/-- what the law's run needs of an abstract heap in which at most the script is tracked -/
theorem law_core {P : Program} {w : World} {K : PySem.W.Frag} {mg mb : Str → Option Value} {k : Nat} {fa a : Addr} {fd : FuncData}
    {x : Str} {sp : Sp} {s₁ : Shared} {H : Hp} {CX : CXT}
    (KX : K.In s₁.heap) (hns : s₁.heap.Ns mainGlobals mg) (hb : s₁.heap.Ns builtinsNs mb) (hbb : ∀ x : Str, x ≠ "__name__" → mb x = bootBuiltins x)
    (hlim : s₁.heap.NoLimit) (hg : s₁.gens = #[]) (hr : Room k callerA)
    (F : ∀ base : Heap, K.In base → base.Ns mainGlobals mg → FnG P w K mg base CX k fa fd [x] sp)
    (hbind : ∀ (s : Shared) (u : Value), BindsTo s fd ⟨[u], []⟩ [(x, u)])
    (hsp : sp [.ref a] H (fun v _ => v = .bl true) fun _ _ _ => False)
    (hCX : ∀ e s', CX [] H s₁ (fun _ _ _ => False) e s' → False)
    (ok : HOk P w H s₁.heap) (only : ∀ b u, H b = some u → K.lookup b = none ∧ ∃ o xs, u = .frz o (.lst xs)) :
    codeAny (model P w) callerA (.call (.ref fa) ⟨[.ref a], []⟩)
      (fun r s' => r = .ok (.ret (.bool true)) ∧ OldK s₁.heap s'.heap ∧ s'.os = s₁.os ∧ AllBare s'.gens) s₁ := by
  have dictFree : ∀ {b : Addr} {o : Obj} {es : Array DictEntry} {ep : Nat}, s₁.heap.get? b = some o → o.data = .dict es ep → H b = none := by
    intro b o es ep e d
    match q : H b with
    | none => rfl
    | some u =>
      obtain ⟨_, ob, xs, rfl⟩ := only b u q
      obtain ⟨e2, _, its, n, _, e3⟩ := ok b _ q
      rw [e2] at e3
      cases e3
      rw [e2] at e
      cases e
      cases d
  have ns : ∀ {b : Addr} {m : Str → Option Value}, s₁.heap.Ns b m → (hidT s₁.heap H).Ns b m := by
    rintro b m ⟨o, es, ep, e, d, r⟩
    exact ⟨o, es, ep, hidT_get e (dictFree e d), d, r⟩
  have kin : K.In (hidT s₁.heap H) := by
    intro b o e
    refine hidT_get (KX b o e) ?_
    match q : H b with
    | none => rfl
    | some u => exact absurd e (by rw [(only b u q).1]; simp)
  obtain ⟨ml, l1, l2⟩ := hlim
  have e0 : Env0 P w K mg (hidT s₁.heap H) callerA [] s₁ H :=
    { frames := rfl
      mod := ⟨kin, ns hns, ⟨mb, ns hb, hbb⟩, ⟨ml, ns l1, l2⟩⟩
      bs := fun b o e => of_hidT e
      bsz := Nat.le_of_eq (hidT_size _ _)
      funs := trivial
      frf := fun b z => absurd z List.not_mem_nil
      hok := ok
      bare := .of_eq hg }
  refine codeAny_mono ((F _ kin (ns hns)).go callerA [] s₁ H _ [.ref a] [.ref a] _ _ hr rfl e0 (hbind s₁ (.ref a)) (.cons rfl .nil) hsp) ?_
  intro r s' h
  match r, h with
  | .error e, h => exact (hCX e s' h).elim
  | .ok (.ret u), h =>
    obtain ⟨v, H', os, bare, un, hok', rv, q⟩ := h
    have e1 : v = .bl true := q
    subst e1
    have e2 : u = Value.bool true := rv
    subst e2
    refine ⟨rfl, OldK.of_keep ?_, os, bare⟩
    intro b o e
    match q : H b with
    | none => exact un.keep b o e q List.not_mem_nil List.not_mem_nil
    | some z =>
      obtain ⟨_, ob, xs, rfl⟩ := only b z q
      have e3 := (ok b _ q).1
      rw [e] at e3
      cases e3
      exact (hok' b _ (un.frzs b o _ q)).1

theorem law_callG {P : Program} {w : World} {K : PySem.W.Frag} {mg mb : Str → Option Value} {k : Nat} {fa a : Addr} {fd : FuncData}
    {x : Str} {sp : Sp} {s₁ : Shared} {vs : List Value} {ns : List Int} {CX : CXT}
    (KX : K.In s₁.heap) (hns : s₁.heap.Ns mainGlobals mg) (hb : s₁.heap.Ns builtinsNs mb) (hbb : ∀ x : Str, x ≠ "__name__" → mb x = bootBuiltins x)
    (hlim : s₁.heap.NoLimit) (hg : s₁.gens = #[])
    (ha : s₁.heap.get? a = some { cls := .type "list", data := .seq vs.toArray }) (hi : IntsAre vs ns) (hl : ns.length ≤ sizeLine) (hr : Room k callerA)
    (F : ∀ base : Heap, K.In base → base.Ns mainGlobals mg → FnG P w K mg base CX k fa fd [x] sp)
    (hbind : ∀ (s : Shared) (u : Value), BindsTo s fd ⟨[u], []⟩ [(x, u)])
    (hsp : ∀ H : Hp, SqL K H a (ns.map V.int) → sp [.ref a] H (fun v _ => v = .bl true) fun _ _ _ => False)
    (hCX : ∀ H e s', CX [] H s₁ (fun _ _ _ => False) e s' → False) :
    codeAny (model P w) callerA (.call (.ref fa) ⟨[.ref a], []⟩)
      (fun r s' => r = .ok (.ret (.bool true)) ∧ OldK s₁.heap s'.heap ∧ s'.os = s₁.os ∧ AllBare s'.gens) s₁ := by
  have rv := vals_ints hi
  have n1 := hi.length
  match hk : K.lookup a with
  | some o =>
    have e := (KX a o hk).symm.trans ha
    cases e
    refine law_core (H := fun _ => none) KX hns hb hbb hlim hg hr F hbind (hsp _ (.inr ⟨_, vs.toArray, _, hk, rfl, rfl, rfl, ?_, by simpa using rv⟩)) (hCX _) (fun b u z => nomatch z) (fun b u z => nomatch z)
    rw [List.size_toArray]
    omega
  | none =>
    have hS : SqL K (scriptHp a { cls := .type "list", data := .seq vs.toArray } (ns.map V.int)) a (ns.map V.int) := .inl (.inr ⟨_, if_pos rfl⟩)
    refine law_core (H := scriptHp a { cls := .type "list", data := .seq vs.toArray } (ns.map V.int)) KX hns hb hbb hlim hg hr F hbind (hsp _ hS) (hCX _) (fun b u z => ?_) (fun b u z => ?_)
    · obtain ⟨rfl, rfl⟩ := scriptHp_at z
      exact ⟨ha, by rw [List.length_map]; exact hl, vs, _, rv, ha⟩
    · obtain ⟨rfl, rfl⟩ := scriptHp_at z
      exact ⟨hk, _, _, rfl⟩

/-- the law's row from the promise of its def -/
theorem walkG {l : PySem.W.OpenLaw} {n k : Nat} {q : Program} {loose : List Str} {XP : (Str → Option Value) → Heap → Prop} {YP : World → Heap → Prop}
    {d : DefRec} {K : Params → PySem.W.Frag} {CX : CXT} {sp : PySem.W.Frag → Sp} {x : Str}
    (hn : l.most = some n) (hn2 : n ≤ sizeLine) (hdf : d.params.defaults = []) (hr : Room k callerA)
    (hY : ∀ (w : World) (h : Heap), YP w h → (K w.params).In h)
    (F : ∀ (w : World) (mg : Str → Option Value) (fa : Addr) (h : Heap), (K w.params).In h → h.Ns mainGlobals mg → mg d.name = some (.ref fa) →
      ∃ fd : FuncData, (∀ (s : Shared) (u : Value), BindsTo s fd ⟨[u], []⟩ [(x, u)]) ∧
        ∀ base : Heap, (K w.params).In base → base.Ns mainGlobals mg → FnG l.prog w (K w.params) mg base CX k fa fd [x] (sp (K w.params)))
    (hsp : ∀ (K : PySem.W.Frag) (H : Hp) (a : Addr) (ns : List Int), ns.length ≤ n → SqL K H a (ns.map V.int) → sp K [.ref a] H (fun v _ => v = .bl true) fun _ _ _ => False)
    (hCX : ∀ (H : Hp) (s : Shared) (e : Value) (s' : Shared), CX [] H s (fun _ _ _ => False) e s' → False) :
    PySem.W.WalkO q loose XP YP l.row.toRowW d [] (fun f vs => PySem.call f vs) := by
  refine Att.attach_call hn hdf ?_
  intro w s₀ s₁ mg mb fa o pm cd doc a vs ns G Y ho hd hcd hmg hobj hints hlen hg
  obtain ⟨fd, hb, hF⟩ := F w mg fa _ (hY w _ Y) G.T.g hmg
  exact law_callG (hY w _ Y) G.T.g G.T.b G.T.builtins G.T.nolimit hg hobj hints (Nat.le_trans hlen hn2) hr hF hb
    (fun H hS => hsp _ H a ns hlen hS) fun H e s' => hCX H s₁ e s'

/-! ### properties, own in, own ==, own != -/
section
variable {X : Cx} {CX : CXT} {k : Nat} {f C p : Addr} {fd : FuncData} {ps : List Str} {sp : Sp} {dvs : List V} {ds : List Value}
  {E : XK} {x m : Str} {pos : Pos} {e : Expr} {ta : TE} {n : Str}
/-- e.n, a property -/
theorem peg_prop (he : PE X e ta) (c : Cls X.K C) (hp : PropOf X.K C n p f)
    (F : FnG X.prog X.w X.K X.mg X.base CX k f fd ps sp) (hr : Room (k + 1) X.A) (hg : X.A.guards = some [])
    (hb : Binds X.K fd ps ds) (hd : Vals dvs ds) (hx : Passes CX X.nox E)
    (hab : attributeBase e n X.env (eval e X.env) = eval e X.env := by rfl) :
    PE X (.Attribute e n pos) (tProp C sp dvs E ta) := by
  constructor
  intro pins s σ H Q I h
  refine attr_of hab (thn (he.run pins s σ H _ I h) ?_)
  rintro u s1 ⟨_, H1, I1, rx, a, dx, fs, rfl, ea, q⟩
  cases rx
  obtain ⟨mA, O, _⟩ := ins_get I1.hok ea
  obtain ⟨od, J, _⟩ := O.look
  obtain ⟨rest, hrec⟩ := hp.rec_
  have g := PySem.W.plainGet_of (c.get n)
  have hc : (PySem.W.clsIn X.K C).isSome = true := by
    obtain ⟨cd, hc, _⟩ := PySem.W.any_some c.hd
    rw [hc]
    rfl
  have I2 := I1.tok (s1.toks + 1)
  refine PySem.W.get_bind I1.kIn J g.1 (PySem.W.findObj_data hc hp.at_ hp.get hp.tak) g.2
    (wpAny_call (PySem.W.prop_get (s := { s1 with toks := s1.toks + 1 }) I1.kIn hrec ?_))
  refine codeAny_mono (runG (X := X.nox) (us := [.ref a]) (vs := [.ref a]) F hr.in1 hg I2.env0.in1 hb hd hx (I2.wish _) (.cons rfl .nil) q) fun r s' hq => ?_
  match r, hq with
  | .error _, hq => exact False.elim hq
  | .ok (.ret u), ⟨v, H', I3, rv, q3⟩ =>
    show wpAny _ _ (handedOut u) _ _ _
    rw [PySem.W.handedOut_of (handed_of rv)]
    exact wpAny_pure ⟨v, H', I3.wish _, rv, q3⟩

/-- y in x, x an instance whose class has a def __contains__ -/
def rHas (C : Addr) (sp : Sp) (E : XK) (neg : Bool) : R2 := fun y x H Q => ∃ a dx fs, x = .ref a ∧ H a = some (.ins C dx fs) ∧
  sp [x, y] H (fun z H' => ∃ b, z = .bl b ∧ Q (.bl (if neg then !b else b)) H') E
structure HasC (K : PySem.W.Frag) (C f : Addr) : Prop where
  at_ : PySem.W.findIn K (.ref C) "__contains__" = some (some (.ref f))
  fn : PySem.W.isFn K (.ref f) = true
theorem opg_in (h : HasC X.K C f) (F : FnG X.prog X.w X.K X.mg X.base CX k f fd ps sp) (hr : Room k X.A) (hg : X.A.guards = some [])
    (hb : Binds X.K fd ps []) (hx : Passes CX X E) : OpR X (compareOp .In) (rHas C sp E false) := by
  intro pins s σ H y x v u Q I ry rx q
  obtain ⟨a, dx, fs, rfl, ea, q⟩ := q
  cases rx
  obtain ⟨mA, O, _⟩ := ins_get I.hok ea
  obtain ⟨od, J, _⟩ := O.look
  obtain ⟨m, hF⟩ := I.fr
  refine PySem.W.in_K hF I.ok.mod.kin J h.at_ h.fn (thn (callG (us := [.ref a, v]) (vs := [.ref a, y]) F hr hg hb .nil hx I (.cons rfl (.cons ry .nil)) q) ?_)
  rintro _ s' ⟨_, H', I', rv, b, rfl, q'⟩
  cases rv
  exact wpAny_truthy_bool ⟨V.bl _, H', I', rfl, q'⟩
theorem opg_notIn (h : HasC X.K C f) (F : FnG X.prog X.w X.K X.mg X.base CX k f fd ps sp) (hr : Room k X.A) (hg : X.A.guards = some [])
    (hb : Binds X.K fd ps []) (hx : Passes CX X E) : OpR X (compareOp .NotIn) (rHas C sp E true) := by
  intro pins s σ H y x v u Q I ry rx q
  obtain ⟨a, dx, fs, rfl, ea, q⟩ := q
  cases rx
  obtain ⟨mA, O, _⟩ := ins_get I.hok ea
  obtain ⟨od, J, _⟩ := O.look
  obtain ⟨m, hF⟩ := I.fr
  refine PySem.W.notIn_K hF I.ok.mod.kin J h.at_ h.fn (thn (callG (us := [.ref a, v]) (vs := [.ref a, y]) F hr hg hb .nil hx I (.cons rfl (.cons ry .nil)) q) ?_)
  rintro _ s' ⟨_, H', I', rv, b, rfl, q'⟩
  cases rv
  exact wpAny_truthy_bool ⟨V.bl _, H', I', rfl, q'⟩
end
end MV

set_option Elab.async false
set_option linter.all false
set_option maxRecDepth 100000
set_option maxHeartbeats 2000000
/-! MVC: == and != by an own __eq__. -/
namespace MV
open PySem PySem.Spec PyProof.Rows L2
open PySem.W (InstAt looks_findIn looks_subIn findIn subIn isFn ifBound_K notFirst)

section
variable {prog : Program} {w : World} {A : Around} {E : Value → Shared → Prop} {s : Shared} {K : PySem.W.Frag} {x C f : Addr} {ox : Obj} {od : Option Obj} {name : Str} {b tb : Value} {id : String}

/-- a special name that the class has from a built-in, called -/
theorem ifBoundB {M : Model} {args : List Value} {Q : Option Value → Shared → Prop} (X : K.In s.heap) (I : InstAt s.heap x ox C od)
    (hs : findIn K (.ref C) name = some (some (.builtin id))) (hb : ∀ self, bindSpecial (.builtin id) self = pure (.builtin id, [self]))
    (h : wpAny M A (call (.builtin id) (.ref x :: args)) (fun v => Q (some v)) E s) :
    wpAny M A (callSpecialIfBound? (.ref x) name args) Q E s := by
  simp only [callSpecialIfBound?, bindSpecialIfBound?]
  apply wpAny_holding
  apply wpAny_bind
  apply wpAny_bind
  apply wpAny_bind
  refine I.type.here ((looks_findIn X hs).here ?_)
  simp only [hb]
  have fin : wpAny M A (call (.builtin id) ([.ref x] ++ args) >>= fun v => pure (some v)) Q E s :=
    wpAny_bind (thn h fun v s' z => wpAny_pure z)
  refine wpAny_bind (wpAny_askSetting (wpAny_ite ?_))
  split
  · exact wpAny_bind (wpAny_pure (wpAny_pure fin))
  · exact wpAny_tryCatch (wpAny_bind (wpAny_pure (wpAny_pure fin)))

/-- a built-in slot's own check of its first argument, an instance -/
theorem checkSlot {M : Model} {owner n : String} {rest : List Value} {Q : Unit → Shared → Prop} (hk : builtinKind id = some .slot)
    (hs : splitId id = some (owner, n)) (ha : argsOk id ⟨.ref x :: rest, []⟩) (X : K.In s.heap) (I : InstAt s.heap x ox C od)
    (hob : subIn K (.ref C) (.type owner) = some true) (hq : Q () s) :
    wpAny M A (checkBuiltinCall id ⟨.ref x :: rest, []⟩) Q E s := by
  simp only [checkBuiltinCall, hk, hs]
  apply wpAny_bind
  unfold isInstance
  refine wpAny_bind (I.type.here ((looks_subIn X hob).here ?_))
  match hsig : Manifest.signature? id with
  | none => exact wpAny_pure hq
  | some sig =>
    simp only [argsOk, hsig] at ha
    have h2 : Bind.checkArgs id sig ⟨.ref x :: rest, []⟩ = pure () := ha
    show wpAny M A (Bind.checkArgs id sig ⟨.ref x :: rest, []⟩) Q E _
    rw [h2]
    exact wpAny_pure hq

/-- what != asks of a class with an own __eq__ and no own __ne__ -/
structure EqC (K : PySem.W.Frag) (C f : Addr) : Prop where
  at_ : findIn K (.ref C) "__eq__" = some (some (.ref f))
  fn : isFn K (.ref f) = true
  ne_ : findIn K (.ref C) "__ne__" = some (some (.builtin "object.__ne__"))
  ob : subIn K (.ref C) (.type "object") = some true

theorem neEntry (X : K.In s.heap) (I : InstAt s.heap x ox C od) (c : EqC K C f) (hu : A.units < cLine) {Q : Fin → Shared → Prop}
    (hcall : wpAny (model prog w) A (call (.ref f) [.ref x, b]) (fun v s' => ∃ r, v = .bool r ∧ Q (.done (.ret (.bool (!r)))) s') E s) :
    wpAny (model prog w) A (Builtin.«object.__ne__» ⟨[.ref x, b], []⟩) Q E s := by
  unfold Builtin.«object.__ne__»
  repeat (first
    | with_reducible refine wpAny_cRoomFor hu ?_
    | (refine wpAny_bind (m := callSpecialIfBound? (.ref x) (Str.ofString "__eq__") [b])
        (ifBound_K X I c.at_ c.fn (thn hcall fun r s' hr => by
          obtain ⟨b, rfl, hq⟩ := hr
          repeat (first | exact hq | exact wpAny_pure hq | exact wpAny_truthy_bool hq | (refine wpAny_bind (m := truthy (.bool _)) (wpAny_truthy_bool ?_)) | wp_step))))
    | wp_step)

theorem neOwn (X : K.In s.heap) (I : InstAt s.heap x ox C od) (c : EqC K C f) (hb : PySem.W.Looks (model prog w) s.heap (typeOf b) tb)
    (hn : notFirst K C tb = true) (hu : A.units + 1 < cLine) {Q : Value → Shared → Prop}
    (hcall : wpAny (model prog w) A.in1 (call (.ref f) [.ref x, b]) (fun v s' => ∃ r, v = .bool r ∧ Q (.bool (!r)) s') E s) :
    wpAny (model prog w) A (richCompare .NotEq (.ref x) b) Q E s := by
  have one : wpAny (model prog w) A (tryCompare (.ref x) (cmpInfo .NotEq).2.1 b) (fun r s' => ∃ v, r = some v ∧ Q v s') E s := by
    have ent : wpAny (model prog w) A.in1 (Builtin.«object.__ne__» ⟨[.ref x, b], []⟩)
        (fun fin s' => match fin with
          | .done q => ∃ r, q = .ret (.bool r) ∧ Q (.bool r) s'
          | .again _ => False) E s :=
      neEntry X I c hu (thn hcall fun v s' ⟨r, e, q⟩ => ⟨r, e, !r, rfl, q⟩)
    unfold tryCompare
    refine wpAny_bind (ifBoundB X I c.ne_ F.cmp_object.ne.bind (wpAny_call (codeAny_call_builtin F.cmp_object.ne.plain F.cmpEntry_ne
      (checkSlot F.cmpKind_ne F.cmpSplit_ne (F.cmpArgs_ne _ _) X I c.ob ?_))))
    refine thn ent ?_
    rintro (q | _) s' h
    · obtain ⟨r, rfl, q⟩ := h
      first | exact ⟨_, rfl, q⟩ | exact wpAny_pure ⟨_, rfl, q⟩
    · exact h.elim
  unfold richCompare
  simp only [oneThing_ref]
  refine wpAny_holding (wpAny_bind (wpAny_cRoomFor (Nat.lt_of_succ_lt hu) ?_))
  refine wpAny_bind (I.type.here (wpAny_bind (hb.here ?_)))
  have tail : wpAny (model prog w) A (tryCompare (.ref x) (cmpInfo .NotEq).2.1 b >>= fun r => match r with
      | some v => pure v
      | none => (pure .none : Sem Value)) Q E s := wpAny_bind (thn one fun r s' ⟨v, e, q⟩ => by subst e; exact wpAny_pure q)
  split
  · rename_i q
    have e : subIn K tb (.ref C) = some false := by
      rcases Bool.or_eq_true_iff.mp hn with e | e
      · rw [beq_iff_eq.mp e] at q
        simp at q
      · exact beq_iff_eq.mp e
    refine wpAny_bind ((looks_subIn X e).here ?_)
    simp only [Bool.false_eq_true, if_false]
    refine wpAny_bind (thn one ?_)
    rintro _ s' ⟨v, rfl, q⟩
    exact wpAny_pure q
  · refine wpAny_bind (wpAny_pure ?_)
    simp only [Bool.false_eq_true, if_false]
    refine wpAny_bind (thn one ?_)
    rintro _ s' ⟨v, rfl, q⟩
    exact wpAny_pure q
end
end MV

set_option Elab.async false
set_option linter.all false
set_option maxRecDepth 100000
set_option maxHeartbeats 2000000
namespace MV
open PySem PySem.Spec PyProof.Rows L2
section
variable {X : Cx} {CX : CXT} {k : Nat} {f C : Addr} {fd : FuncData} {ps : List Str} {sp : Sp} {E : XK}
/-- x == y, x != y, x an instance of a class with an own __eq__ -/
def rOwnEq (K : PySem.W.Frag) (C : Addr) (sp : Sp) (E : XK) (neg : Bool) : R2 := fun x y H Q => ∃ a dx fs t, x = .ref a ∧ H a = some (.ins C dx fs) ∧
  TyX K H y t ∧ PySem.W.notFirst K C t = true ∧ sp [x, y] H (fun z H' => ∃ b, z = .bl b ∧ Q (.bl (if neg then !b else b)) H') E
theorem opg_eq (c : EqC X.K C f) (F : FnG X.prog X.w X.K X.mg X.base CX k f fd ps sp) (hr : Room k X.A) (hg : X.A.guards = some [])
    (hb : Binds X.K fd ps []) (hx : Passes CX X E) : OpR X (compareOp .Eq) (rOwnEq X.K C sp E false) := by
  intro pins s σ H x y v u Q I rx ry q
  obtain ⟨a, dx, fs, t, rfl, ea, ty, nf, q⟩ := q
  cases rx
  obtain ⟨mA, O, _⟩ := ins_get I.hok ea
  obtain ⟨od, J, _⟩ := O.look
  obtain ⟨m, hF⟩ := I.fr
  obtain ⟨P, kx, hP, _⟩ := kit_of I ry ty
  show wpAny _ _ (richCompare .Eq _ _) _ _ _
  refine PySem.W.cmp_K (op := .Eq) hr.units0 hF I.ok.mod.kin J (kx.ty _ _ I.kIn hP) nf c.at_ c.fn ?_
  refine thn (callG (us := [.ref a, u]) (vs := [.ref a, y]) F hr hg hb .nil hx I (.cons rfl (.cons ry .nil)) q) ?_
  rintro _ s' ⟨_, H', I', rv, b, rfl, q'⟩
  cases rv
  exact ⟨V.bl _, H', I', rfl, q'⟩
theorem opg_ne (c : EqC X.K C f) (F : FnG X.prog X.w X.K X.mg X.base CX k f fd ps sp) (hr : Room (k + 1) X.A) (hg : X.A.guards = some [])
    (hb : Binds X.K fd ps []) (hx : Passes CX X E) : OpR X (compareOp .NotEq) (rOwnEq X.K C sp E true) := by
  intro pins s σ H x y v u Q I rx ry q
  obtain ⟨a, dx, fs, t, rfl, ea, ty, nf, q⟩ := q
  cases rx
  obtain ⟨mA, O, _⟩ := ins_get I.hok ea
  obtain ⟨od, J, _⟩ := O.look
  obtain ⟨P, kx, hP, _⟩ := kit_of I ry ty
  show wpAny _ _ (richCompare .NotEq _ _) _ _ _
  have hu : X.A.units + 1 < cLine := by have := hr.un; omega
  refine neOwn I.kIn J c (kx.ty _ _ I.kIn hP) nf hu (wpAny_call ?_)
  refine codeAny_mono (runG (us := [.ref a, u]) (vs := [.ref a, y]) F hr.in1 hg I.env0.in1 hb .nil hx I (.cons rfl (.cons ry .nil)) q) fun r s' hq => ?_
  match r, hq with
  | .error _, hq => exact hq
  | .ok (.ret w), ⟨_, H', I', rv, b, e, q'⟩ =>
    subst e
    have e2 : w = Value.bool b := rv
    subst e2
    exact ⟨b, rfl, V.bl (!b), H', I', rfl, q'⟩
end
end MV

set_option Elab.async false
set_option linter.all false
set_option maxRecDepth 100000
set_option maxHeartbeats 2000000
/-! MVE: what a step leaves of the heap (Stp), int tuples (IT), readings by lemmas (r_*), the walk over them. -/
namespace MV
open PySem PySem.Spec PyProof.Rows L2

/-! ### the tape of draws -/
/-- at t the tape: the script's ints, how many are read, what is left of a great one, the seed -/
def TapeL (H : Hp) (t l : Addr) : Prop := ∃ (ns : List Int) (a b c : Int), l ≠ t ∧
  H t = some (.lst [.ref l, .int a, .int b, .int c]) ∧ H l = some (.lst (ns.map V.int)) ∧ 0 ≤ a ∧ 0 ≤ c ∧ c < 2147483647
def Tape (H : Hp) (t : Addr) : Prop := ∃ l, TapeL H t l

/-- what a step leaves: all objects, but for the list at t (the tape), which stays a tape -/
structure Stp (t : Option Addr) (H H' : Hp) : Prop where
  ge : ∀ b o, (t = some b → ∀ xs, o ≠ .lst xs) → H b = some o → H' b = some o
  tp : ∀ a l, t = some a → TapeL H a l → TapeL H' a l

theorem TapeL.more {H H' : Hp} {a l : Addr} (T : TapeL H a l) (s : ∀ b o, H b = some o → H' b = some o) : TapeL H' a l := by
  obtain ⟨ns, x, b, c, h1, h2, h3, h4⟩ := T
  exact ⟨ns, x, b, c, h1, s _ _ h2, s _ _ h3, h4⟩
theorem Tape.more {H H' : Hp} {a : Addr} (T : Tape H a) (s : ∀ b o, H b = some o → H' b = some o) : Tape H' a := (let ⟨l, h⟩ := T; ⟨l, h.more s⟩)
theorem Stp.refl (t : Option Addr) (H : Hp) : Stp t H H := ⟨fun _ _ _ h => h, fun _ _ _ h => h⟩
theorem Stp.all {H H' : Hp} (s : Stp none H H') : ∀ b o, H b = some o → H' b = some o := fun b o h => s.ge b o (fun z => nomatch z) h
theorem Stp.of {H H' : Hp} (s : ∀ b o, H b = some o → H' b = some o) (t : Option Addr) : Stp t H H' := ⟨fun b o _ h => s b o h, fun _ _ _ T => T.more s⟩
theorem Stp.w {H H' : Hp} {t : Option Addr} (s : Stp none H H') : Stp t H H' := Stp.of s.all t
theorem Stp.trans {H H1 H2 : Hp} {t : Option Addr} (a : Stp t H H1) (b : Stp t H1 H2) : Stp t H H2 :=
  ⟨fun c o n h => b.ge c o n (a.ge c o n h), fun c l e T => b.tp c l e (a.tp c l e T)⟩
theorem Stp.new {H : Hp} {p : Addr} {o : HO} (h : H p = none) : Stp none H (upd H p o) := Stp.of (fun b u e => by
  rw [upd_ne (ne_of_none e h)]
  exact e) none
theorem Tape.mv {t : Option Addr} {H H' : Hp} {a : Addr} (s : Stp t H H') (h : t = none ∨ t = some a) (T : Tape H a) : Tape H' a := by
  rcases h with rfl | rfl
  · exact T.more s.all
  · exact (let ⟨l, h⟩ := T; ⟨l, s.tp a l rfl h⟩)
theorem Tape.mvN {H H' : Hp} {a : Addr} (s : Stp none H H') (T : Tape H a) : Tape H' a := T.more s.all
theorem Tape.mvS {H H' : Hp} {a : Addr} (s : Stp (some a) H H') (T : Tape H a) : Tape H' a := (let ⟨l, h⟩ := T; ⟨l, s.tp a l rfl h⟩)
theorem Stp.same {H H' : Hp} (s : Stp none H H') : Same H H' := s.all

/-! ### int tuples, lists, instances -/
/-- v is a tuple of the ints ns -/
def IT (H : Hp) (v : V) (ns : List Int) : Prop := ∃ p, v = .ref p ∧ H p = some (.tup (ns.map V.int))
theorem IT.mv {t : Option Addr} {H H' : Hp} {v : V} {ns : List Int} (s : Stp t H H') (h : IT H v ns) : IT H' v ns := by
  obtain ⟨p, e, h⟩ := h
  exact ⟨p, e, s.ge _ _ (fun _ xs z => by cases z) h⟩
/-- as IT, or a tuple of the text that is always there -/
def IK (K : PySem.W.Frag) (H : Hp) (v : V) (ns : List Int) : Prop := ∃ p, v = .ref p ∧ SqT K H p (ns.map V.int)
theorem IT.k {K : PySem.W.Frag} {H : Hp} {v : V} {ns : List Int} (h : IT H v ns) : IK K H v ns := by
  obtain ⟨p, e, h⟩ := h
  exact ⟨p, e, SqT.of h⟩
theorem SqT.mvS {K : PySem.W.Frag} {t : Option Addr} {H H' : Hp} {p : Addr} {xs : List V} (s : Stp t H H') (h : SqT K H p xs) : SqT K H' p xs := by
  rcases h with h | h
  · rcases h with h | ⟨o, h⟩
    · exact .inl (.inl (s.ge _ _ (fun _ xs z => by cases z) h))
    · exact .inl (.inr ⟨o, s.ge _ _ (fun _ xs z => by cases z) h⟩)
  · exact .inr h
theorem IK.mv {K : PySem.W.Frag} {t : Option Addr} {H H' : Hp} {v : V} {ns : List Int} (s : Stp t H H') (h : IK K H v ns) : IK K H' v ns := by
  obtain ⟨p, e, h⟩ := h
  exact ⟨p, e, SqT.mvS s h⟩
theorem At.tup {t : Option Addr} {H H' : Hp} {p : Addr} {xs : List V} (s : Stp t H H') (h : H p = some (.tup xs)) : H' p = some (.tup xs) :=
  s.ge _ _ (fun _ xs z => by cases z) h
theorem At.ins {t : Option Addr} {H H' : Hp} {p C dx : Addr} {fs : List (Str × V)} (s : Stp t H H') (h : H p = some (.ins C dx fs)) : H' p = some (.ins C dx fs) :=
  s.ge _ _ (fun _ xs z => by cases z) h
theorem At.lst {H H' : Hp} {p : Addr} {xs : List V} (s : Stp none H H') (h : H p = some (.lst xs)) : H' p = some (.lst xs) := s.all _ _ h
theorem At.lstS {t : Addr} {H H' : Hp} {p : Addr} {xs : List V} (s : Stp (some t) H H') (n : p ≠ t) (h : H p = some (.lst xs)) : H' p = some (.lst xs) :=
  s.ge _ _ (fun z => absurd (Option.some.inj z).symm n) h

theorem dp_ints {K : PySem.W.Frag} {H : Hp} : ∀ ns : List Int, DpAll K H (ns.map V.int) (ns.map PyData.int)
  | [] => .nil
  | n :: r => .cons (.int n) (dp_ints r)
theorem IK.dp {K : PySem.W.Frag} {H : Hp} {v : V} {ns : List Int} (h : IK K H v ns) : Dp K H v (.tuple (ns.map PyData.int)) := by
  obtain ⟨p, rfl, h⟩ := h
  exact .tup h (dp_ints ns)
theorem canLay_ints : ∀ ns : List Int, PyData.canLayAll0 (ns.map PyData.int) = true
  | [] => by rw [List.map_nil, PyData.canLayAll0]
  | n :: r => by rw [List.map_cons, PyData.canLayAll0, canLay_ints r, PyData.canLay0]; rfl
theorem depth_ints : ∀ ns : List Int, PyData.depthAll (ns.map PyData.int) = 0
  | [] => by rw [List.map_nil, PyData.depthAll]
  | n :: r => by rw [List.map_cons, PyData.depthAll, depth_ints r, PyData.depth]; rfl
theorem shaped_int (ns : List Int) : SeqAt.shaped (.tuple (ns.map PyData.int)) = true := by
  unfold SeqAt.shaped
  rw [PyData.canLay0, canLay_ints, PyData.depth, depth_ints]
  rfl
theorem eqvAll_ints : ∀ ns ms : List Int, PyData.eqvAll (ns.map PyData.int) (ms.map PyData.int) = decide (ns = ms)
  | [], [] => by rw [List.map_nil, PyData.eqvAll]; rfl
  | [], _ :: _ => by rw [List.map_nil, List.map_cons, PyData.eqvAll]; rfl
  | _ :: _, [] => by rw [List.map_nil, List.map_cons, PyData.eqvAll]; rfl
  | n :: r, m :: q => by
    rw [List.map_cons, List.map_cons, PyData.eqvAll, PyData.eqv, eqvAll_ints r q]
    by_cases h : n = m
    · subst h
      by_cases h2 : r = q
      · subst h2; simp
      · simp [h2]
    · simp [h]
theorem eqv_ints (ns ms : List Int) : PyData.eqv (.tuple (ns.map PyData.int)) (.tuple (ms.map PyData.int)) = decide (ns = ms) := by
  rw [PyData.eqv, eqvAll_ints]

/-! ### readings -/
section
variable {K : PySem.W.Frag} {σ : L2.St} {H H1 H2 : Hp} {Q : VK} {v x y : V} {i j : Int} {n : Nat} {ta tb te tc : TE} {t u : TS} {D : Ends} {tt uu : TT} {a tr : TA} {r : R2} {g : TG} {gs : TGs}
theorem r_var (h : σ[n]? = some (some v)) (q : Q v H) : tVar n σ H Q := ⟨v, h, q⟩
theorem r_c (q : Q v H) : tC v σ H Q := q
theorem r_op (q : ta σ H fun x H1 => tb σ H1 fun y H2 => r x y H2 Q) : tOp r ta tb σ H Q := q
theorem r_un {r : V → Hp → VK → Prop} (q : ta σ H fun x H1 => r x H1 Q) : tUn r ta σ H Q := q
theorem r_nil {Q : List V → Hp → Prop} (q : Q [] H) : tNil σ H Q := q
theorem r_cons {Q : List V → Hp → Prop} (q : ta σ H fun x H1 => tr σ H1 fun xs H2 => Q (x :: xs) H2) : tCons ta tr σ H Q := q
/-- a new tuple, a new list of xs is handed to Q -/
def NewT (xs : List V) (H : Hp) (Q : VK) : Prop := xs.length ≤ sizeLine ∧ ∀ p, H p = none → Q (.ref p) (upd H p (.tup xs))
def NewL (xs : List V) (H : Hp) (Q : VK) : Prop := xs.length ≤ sizeLine ∧ ∀ p, H p = none → Q (.ref p) (upd H p (.lst xs))
theorem r_tup (q : a σ H fun xs H1 => NewT xs H1 Q) : tTup a σ H Q := q
theorem r_lst (q : a σ H fun xs H1 => NewL xs H1 Q) : tLst a σ H Q := q
theorem r_newT {xs : List V} (hl : xs.length ≤ sizeLine) (k : ∀ p H2, Stp none H H2 → H2 p = some (.tup xs) → H p = none → Q (.ref p) H2) :
    NewT xs H Q := ⟨hl, fun p hp => k p _ (Stp.new hp) upd_same hp⟩
theorem r_newL {xs : List V} (hl : xs.length ≤ sizeLine) (k : ∀ p H2, Stp none H H2 → H2 p = some (.lst xs) → H p = none → Q (.ref p) H2) :
    NewL xs H Q := ⟨hl, fun p hp => k p _ (Stp.new hp) upd_same hp⟩
theorem sz100 {n : Nat} (h : n ≤ 100) : n ≤ sizeLine := Nat.le_trans h (by decide)
theorem r_newI {ns : List Int} (hl : ns.length ≤ 100) (k : ∀ v H2, Stp none H H2 → IT H2 v ns → Q v H2) :
    NewT (ns.map V.int) H Q :=
  ⟨sz100 (by rw [List.length_map]; exact hl), fun p hp => k _ _ (Stp.new hp) ⟨p, rfl, upd_same⟩⟩
theorem r_newI2 (k : ∀ v H2, Stp none H H2 → IT H2 v [i, j] → Q v H2) : NewT [V.int i, V.int j] H Q := r_newI (ns := [i, j]) (Nat.le_of_ble_eq_true rfl) k
theorem r_newI3 {l : Int} (k : ∀ v H2, Stp none H H2 → IT H2 v [i, j, l] → Q v H2) : NewT [V.int i, V.int j, V.int l] H Q := r_newI (ns := [i, j, l]) (Nat.le_of_ble_eq_true rfl) k
theorem r_newL1 (k : ∀ p H2, Stp none H H2 → H2 p = some (.lst [x]) → H p = none → Q (.ref p) H2) : NewL [x] H Q := r_newL (sz100 (Nat.le_of_ble_eq_true rfl)) k
theorem r_newL2 (k : ∀ p H2, Stp none H H2 → H2 p = some (.lst [x, y]) → H p = none → Q (.ref p) H2) : NewL [x, y] H Q := r_newL (sz100 (Nat.le_of_ble_eq_true rfl)) k
theorem r_newL3 {z : V} (k : ∀ p H2, Stp none H H2 → H2 p = some (.lst [x, y, z]) → H p = none → Q (.ref p) H2) : NewL [x, y, z] H Q := r_newL (sz100 (Nat.le_of_ble_eq_true rfl)) k
theorem r_cb {r : List V → Hp → VK → Prop} (q : a σ H fun vs H1 => r vs H1 Q) : tCB r a σ H Q := q
theorem r_call {sp : Sp} {dvs : List V} {E : XK} (q : a σ H fun vs H1 => sp (vs ++ dvs) H1 Q E) : tCall sp dvs E a σ H Q := q
theorem r_prop {C : Addr} {sp : Sp} {dvs : List V} {E : XK} (q : ta σ H fun x H1 => ∃ a dx fs, x = .ref a ∧ H1 a = some (.ins C dx fs) ∧ sp (.ref a :: dvs) H1 Q E) : tProp C sp dvs E ta σ H Q := q
theorem r_meth {C : Addr} {m : Str} {sp : Sp} {dvs : List V} {E : XK} (q : ta σ H fun x H1 => ∃ b dx fs, x = .ref b ∧ H1 b = some (.ins C dx fs) ∧ fs.lookup m = none ∧ a σ H1 fun vs H2 => sp (x :: (vs ++ dvs)) H2 Q E) :
    tMeth C m sp dvs E ta a σ H Q := q
/-- C(..): a new object is handed to __init__ and then to Q -/
def MkR (C : Addr) (sp : Sp) (vs : List V) (H1 : Hp) (Q : VK) (E : XK) : Prop := ∀ x dx, H1 x = none → H1 dx = none → dx ≠ x →
    sp (.ref x :: vs) (upd (upd H1 dx (.own x)) x (.ins C dx [])) (fun v H2 => v = .non ∧ Q (.ref x) H2) E
theorem r_make {C : Addr} {sp : Sp} {dvs : List V} {E : XK} (q : a σ H fun vs H1 => MkR C sp (vs ++ dvs) H1 Q E) : tMake C sp dvs E a σ H Q := q
theorem r_andV (q : ta σ H fun x H1 => ∃ c, x = .bl c ∧ if c = true then tb σ H1 Q else Q (.bl false) H1) : tAndV ta tb σ H Q := q
theorem r_orV (q : ta σ H fun x H1 => ∃ c, x = .bl c ∧ if c = true then Q (.bl true) H1 else tb σ H1 Q) : tOrV ta tb σ H Q := q
theorem r_notV (q : ta σ H fun x H1 => ∃ c, x = .bl c ∧ Q (.bl (!c)) H1) : tNotV ta σ H Q := q
theorem r_chain {r' : R2} (q : ta σ H fun x H1 => tb σ H1 fun y H2 => r x y H2 fun z H3 => ∃ k, z = .bl k ∧ (if k = true then tc σ H3 fun w' H4 => r' y w' H4 Q else Q (.bl false) H3)) : tChain r r' ta tb tc σ H Q := q
theorem r_ifE (q : tt σ H fun c H1 => if c = true then ta σ H1 Q else tb σ H1 Q) : tIf tt ta tb σ H Q := q
section
variable {Q : Bool → Hp → Prop}
theorem r_test (q : te σ H fun x H' => ∃ k, x = .bl k ∧ Q k H') : tTest te σ H Q := q
theorem r_B (q : te σ H fun x H' => ∃ k, x = .bl k ∧ Q k H') : tB te σ H Q := q
theorem r_and (q : tt σ H fun c H1 => if c = true then uu σ H1 Q else Q false H1) : tAnd tt uu σ H Q := q
theorem r_or (q : tt σ H fun c H1 => if c = true then Q true H1 else uu σ H1 Q) : tOr tt uu σ H Q := q
theorem r_not (q : tt σ H fun c H1 => Q (!c) H1) : tNot tt σ H Q := q
theorem r_yes (q : Q true H) : tYes σ H Q := q
theorem r_k {b : Bool} (q : Q b H) : ∃ k, V.bl b = .bl k ∧ Q k H := ⟨b, rfl, q⟩
end
theorem r_kV {b : Bool} {P : Bool → Prop} (q : P b) : ∃ k, V.bl b = .bl k ∧ P k := ⟨b, rfl, q⟩
theorem r_seq (q : t { D with nx := u D } σ H) : tSeq t u D σ H := q
theorem r_next (q : D.nx σ H) : tNext D σ H := q
theorem r_asg (q : te σ H fun x H1 => g x σ H1 D.nx) : tAsg te g D σ H := q
theorem r_drop (q : te σ H fun _ H1 => D.nx σ H1) : tDrop te D σ H := q
theorem r_ret (q : te σ H D.rt) : tRet te D σ H := q
theorem r_ifS (q : tt σ H fun b H1 => if b = true then t D σ H1 else u D σ H1) : tIfS tt t u D σ H := q
theorem r_par {m : Nat} (q : a σ H fun vs H1 => ∃ v w, vs = [v, w] ∧ D.nx ((σ.set n (some v)).set m (some w)) H1) : tPar n m a D σ H := q
theorem r_par1 {m : Nat} (q : D.nx ((σ.set n (some x)).set m (some y)) H) : ∃ v w, [x, y] = [v, w] ∧ D.nx ((σ.set n (some v)).set m (some w)) H := ⟨x, y, rfl, q⟩
section
variable {Q : L2.St → Hp → Prop} {vs : List V}
theorem r_gname (q : Q (σ.set n (some v)) H) : gName n v σ H Q := q
theorem r_gnil (q : Q σ H) : gNil [] σ H Q := ⟨rfl, q⟩
theorem r_gcons (q : g v σ H fun σ' H' => gs vs σ' H' Q) : gCons g gs (v :: vs) σ H Q := ⟨v, vs, rfl, q⟩
theorem r_unpack {ns : List Int} (h : IK K H v ns) (hn : ns.length = n) (q : gs (ns.map V.int) σ H Q) : gTup K n gs v σ H Q := by
  obtain ⟨p, rfl, h⟩ := h
  exact ⟨p, _, rfl, h, by rw [List.length_map]; exact hn, q⟩
theorem r_unpack2 (h : IK K H v [i, j]) (q : gs [V.int i, V.int j] σ H Q) : gTup K 2 gs v σ H Q := r_unpack h rfl q
theorem r_unpack3 {l : Int} (h : IK K H v [i, j, l]) (q : gs [V.int i, V.int j, V.int l] σ H Q) : gTup K 3 gs v σ H Q := r_unpack h rfl q
end
-- operators by values
theorem r_add (q : Q (.int (i + j)) H) : rI0 (fun i j => .int (i + j)) (.int i) (.int j) H Q := ⟨i, j, rfl, rfl, q⟩
theorem r_sub (q : Q (.int (i - j)) H) : rI0 (fun i j => .int (i - j)) (.int i) (.int j) H Q := ⟨i, j, rfl, rfl, q⟩
theorem r_mod (h : 0 < j) (q : Q (.int (i % j)) H) : rI (fun _ j => 0 < j) (fun i j => .int (i % j)) (.int i) (.int j) H Q := ⟨i, j, rfl, rfl, h, q⟩
theorem r_div (h : CDivW i j) (q : Q (.int (i / j)) H) : rI CDivW (fun i j => .int (i / j)) (.int i) (.int j) H Q := ⟨i, j, rfl, rfl, h, q⟩
theorem r_mulW (h : CMulW i j) (q : Q (.int (i * j)) H) : rI CMulW (fun i j => .int (i * j)) (.int i) (.int j) H Q := ⟨i, j, rfl, rfl, h, q⟩
theorem r_mul (h : CMul i j) (q : Q (.int (i * j)) H) : rI CMul (fun i j => .int (i * j)) (.int i) (.int j) H Q := ⟨i, j, rfl, rfl, h, q⟩
theorem r_pow (h : CPow i j) (q : Q (.int (i ^ j.toNat)) H) : rI CPow (fun i j => .int (i ^ j.toNat)) (.int i) (.int j) H Q := ⟨i, j, rfl, rfl, h, q⟩
theorem r_neg (q : Q (.int (-i)) H) : rU (fun i => .int (-i)) (.int i) H Q := ⟨i, rfl, q⟩
theorem r_lt (q : Q (.bl (decide (i < j))) H) : rI0 (fun i j => .bl (decide (i < j))) (.int i) (.int j) H Q := ⟨i, j, rfl, rfl, q⟩
theorem r_le (q : Q (.bl (decide (i ≤ j))) H) : rI0 (fun i j => .bl (decide (i ≤ j))) (.int i) (.int j) H Q := ⟨i, j, rfl, rfl, q⟩
theorem r_gt (q : Q (.bl (decide (j < i))) H) : rI0 (fun i j => .bl (decide (j < i))) (.int i) (.int j) H Q := ⟨i, j, rfl, rfl, q⟩
theorem r_ge (q : Q (.bl (decide (j ≤ i))) H) : rI0 (fun i j => .bl (decide (j ≤ i))) (.int i) (.int j) H Q := ⟨i, j, rfl, rfl, q⟩
theorem dec_int : decide (V.int i = V.int j) = decide (i = j) := decide_eq_decide.mpr ⟨V.int.inj, congrArg V.int⟩
theorem r_eqI (q : Q (.bl (decide (i = j))) H) : rEq (.int i) (.int j) H Q := ⟨rfl, by rw [dec_int]; exact q⟩
theorem r_neI (q : Q (.bl (!decide (i = j))) H) : rNe (.int i) (.int j) H Q := ⟨rfl, by rw [dec_int]; exact q⟩
theorem dec_str {s z : Str} : decide (V.str s = V.str z) = decide (s = z) := decide_eq_decide.mpr ⟨V.str.inj, congrArg V.str⟩
theorem r_eqS {s z : Str} (q : Q (.bl (decide (s = z))) H) : rEq (.str s) (.str z) H Q := ⟨rfl, by rw [dec_str]; exact q⟩
theorem r_neS {s z : Str} (q : Q (.bl (!decide (s = z))) H) : rNe (.str s) (.str z) H Q := ⟨rfl, by rw [dec_str]; exact q⟩
/-- == and != of int tuples -/
theorem r_eqT {ns ms : List Int} (hx : IK K H x ns) (hy : IK K H y ms) (q : Q (.bl (decide (ns = ms))) H) : rEqD K x y H Q :=
  ⟨_, _, hx.dp, hy.dp, shaped_int ns, shaped_int ms, by rw [eqv_ints]; exact q⟩
theorem r_neT {ns ms : List Int} (hx : IK K H x ns) (hy : IK K H y ms) (q : Q (.bl (!decide (ns = ms))) H) : rNeD K x y H Q :=
  ⟨_, _, hx.dp, hy.dp, shaped_int ns, shaped_int ms, by rw [eqv_ints]; exact q⟩
/-- an item of an int tuple -/
theorem r_ixI {ns : List Int} {m : Int} (h : IK K H v ns) (hn : ns[n]? = some m) (q : Q (.int m) H) : rIx K v (.int (n : Nat)) H Q := by
  obtain ⟨p, rfl, h⟩ := h
  exact .inr (.inl ⟨p, _, _, _, rfl, rfl, h, atI_nat (by rw [List.getElem?_map, hn]; rfl), q⟩)
theorem r_ix0 {m : Int} {ns : List Int} (h : IK K H v (m :: ns)) (q : Q (.int m) H) : rIx K v (.int 0) H Q := r_ixI (n := 0) h rfl q
theorem r_ix1 {m k : Int} {ns : List Int} (h : IK K H v (k :: m :: ns)) (q : Q (.int m) H) : rIx K v (.int 1) H Q := r_ixI (n := 1) h rfl q
theorem r_ix2 {m k l : Int} {ns : List Int} (h : IK K H v (k :: l :: m :: ns)) (q : Q (.int m) H) : rIx K v (.int 2) H Q := r_ixI (n := 2) h rfl q
/-- an item of a list that stands in H -/
theorem r_ixL {p : Addr} {xs : List V} (h : H p = some (.lst xs)) (hn : xs[n]? = some v) (q : Q v H) : rIx K (.ref p) (.int (n : Nat)) H Q :=
  .inl ⟨p, xs, _, v, rfl, rfl, SqL.of h, atI_nat hn, q⟩
theorem r_ixLi {p : Addr} {xs : List V} {i : Int} (h : H p = some (.lst xs)) (h0 : 0 ≤ i) (hn : xs[i.toNat]? = some v) (q : Q v H) : rIx K (.ref p) (.int i) H Q := by
  have e : i = ((i.toNat : Nat) : Int) := (Int.toNat_of_nonneg h0).symm
  rw [e]
  exact r_ixL h hn q
theorem ixN_nat {m k : Nat} (h : k < m) : ixN m ((k : Nat) : Int) = some k := by
  unfold ixN
  rw [if_pos (Int.natCast_nonneg k), if_pos (by omega)]
  rfl
theorem r_setL {p : Addr} {xs : List V} {Q : Hp → Prop} (h : H p = some (.lst xs)) (hn : n < xs.length) (q : Q (upd H p (.lst (xs.set n v)))) : rSetL (.ref p) (.int (n : Nat)) v H Q :=
  ⟨p, xs, _, n, rfl, rfl, h, ixN_nat hn, q⟩
-- tests
theorem r_ite {p : Prop} [Decidable p] {A B : Prop} (h1 : p → A) (h2 : ¬ p → B) : if decide p = true then A else B := by
  by_cases h : p
  · rw [if_pos (decide_eq_true h)]; exact h1 h
  · rw [if_neg (by simp [h])]; exact h2 h
theorem r_iteN {p : Prop} [Decidable p] {A B : Prop} (h1 : ¬ p → A) (h2 : p → B) : if (!decide p) = true then A else B := by
  by_cases h : p
  · rw [if_neg (by simp [h])]; exact h2 h
  · rw [if_pos (by simp [h])]; exact h1 h
theorem r_T {A B : Prop} (q : A) : if true = true then A else B := q
theorem r_F {A B : Prop} (q : B) : if false = true then A else B := q
theorem r_iT {b : Bool} {A B : Prop} (h : b = true) (q : A) : if b = true then A else B := by rw [h]; exact q
theorem r_iF {b : Bool} {A B : Prop} (h : b = false) (q : B) : if b = true then A else B := by rw [h]; exact q

/-! ### more readings -/
theorem r_call0 {sp : Sp} {E : XK} (q : a σ H fun vs H1 => sp vs H1 Q E) : tCall sp [] E a σ H Q := by
  unfold tCall
  simp only [List.append_nil]
  exact q
theorem r_meth0 {C : Addr} {m : Str} {sp : Sp} {E : XK} (q : ta σ H fun x H1 => ∃ b dx fs, x = .ref b ∧ H1 b = some (.ins C dx fs) ∧ fs.lookup m = none ∧ a σ H1 fun vs H2 => sp (x :: vs) H2 Q E) :
    tMeth C m sp [] E ta a σ H Q := by
  unfold tMeth
  simp only [List.append_nil]
  exact q
theorem r_make0 {C : Addr} {sp : Sp} {E : XK} (q : a σ H fun vs H1 => MkR C sp vs H1 Q E) : tMake C sp [] E a σ H Q := by
  unfold tMake
  simp only [List.append_nil]
  exact q
theorem r_isi {c t u : _} {b : Bool} {x : V} (cl : ClsV c u) (ty : TyX K H x t) (e : PySem.W.kitOne K t u = some b) (q : Q (.bl b) H) : rIsi K [x, c] H Q :=
  ⟨x, c, t, u, b, rfl, cl, ty, e, q⟩
theorem r_isiII (q : Q (.bl true) H) : rIsi K [.int i, .ty "int"] H Q := r_isi (.ty _) (.base (.int i)) (kit_ty (by decide +kernel)) q
theorem r_isiIB (q : Q (.bl false) H) : rIsi K [.int i, .ty "bool"] H Q := r_isi (.ty _) (.base (.int i)) (kit_ty (by decide +kernel)) q
theorem ty_tup {p : Addr} {xs : List V} (h : SqT K H p xs) : TyX K H (.ref p) (.type "tuple") := by
  rcases h with h | ⟨o, _, _, h1, h2, _⟩
  · rcases h with h | ⟨o, h⟩
    · exact .base (.tup h)
    · exact .fTuple h
  · exact .kTuple h1 h2
theorem r_isiTT {ns : List Int} (h : IK K H v ns) (q : Q (.bl true) H) : rIsi K [v, .ty "tuple"] H Q := by
  obtain ⟨p, rfl, h⟩ := h
  exact r_isi (.ty _) (ty_tup h) (kit_ty (by decide +kernel)) q
def rLenV (K : PySem.W.Frag) : List V → Hp → VK → Prop := fun xs H Q => ∃ p ys, xs = [.ref p] ∧ (SqL K H p ys ∨ SqT K H p ys) ∧ Q (.int ys.length) H
theorem r_cbLen (q : a σ H fun vs H1 => rLenV K vs H1 Q) : tCB (fun xs H Q => ∃ p ys, xs = [.ref p] ∧ (SqL K H p ys ∨ SqT K H p ys) ∧ Q (.int ys.length) H) a σ H Q := q
theorem r_lenI {ns : List Int} {m : Int} (h : IK K H v ns) (e : (ns.length : Int) = m) (q : Q (.int m) H) : rLenV K [v] H Q := by
  obtain ⟨p, rfl, h⟩ := h
  refine ⟨p, _, rfl, .inr h, ?_⟩
  rw [List.length_map, e]
  exact q
theorem r_len2 (h : IK K H v [i, j]) (q : Q (.int 2) H) : rLenV K [v] H Q := r_lenI h rfl q
theorem r_len3 {l : Int} (h : IK K H v [i, j, l]) (q : Q (.int 3) H) : rLenV K [v] H Q := r_lenI h rfl q
theorem r_lenL {p : Addr} {xs : List V} (h : H p = some (.lst xs)) (q : Q (.int xs.length) H) : rLenV K [.ref p] H Q := ⟨p, xs, rfl, .inl (SqL.of h), q⟩
def rInt1 : List V → Hp → VK → Prop := fun xs H Q => (∃ i, xs = [.int i] ∧ Q (.int i) H) ∨ ∃ k, xs = [.bl k] ∧ Q (.int (if k then 1 else 0)) H
theorem r_cbInt (q : a σ H fun vs H1 => rInt1 vs H1 Q) : tCB (fun xs H Q => (∃ i, xs = [.int i] ∧ Q (.int i) H) ∨ ∃ k, xs = [.bl k] ∧ Q (.int (if k then 1 else 0)) H) a σ H Q := q
theorem r_int1 (q : Q (.int i) H) : rInt1 [.int i] H Q := .inl ⟨i, rfl, q⟩
theorem r_int1B {b : Bool} (q : Q (.int (if b then 1 else 0)) H) : rInt1 [.bl b] H Q := .inr ⟨b, rfl, q⟩
def rReprI : List V → Hp → VK → Prop := fun xs H Q => ∃ i, xs = [.int i] ∧ i.natAbs.log2 < 1920 ∧ Q (.str (toString i)) H
theorem r_cbRepr (q : a σ H fun vs H1 => rReprI vs H1 Q) : tCB (fun xs H Q => ∃ i, xs = [.int i] ∧ i.natAbs.log2 < 1920 ∧ Q (.str (toString i)) H) a σ H Q := q
theorem r_reprI (h : i.natAbs.log2 < 1920) (q : Q (.str (toString i)) H) : rReprI [.int i] H Q := ⟨i, rfl, h, q⟩
def rTupL (K : PySem.W.Frag) : List V → Hp → VK → Prop := fun xs H Q => ∃ p ys, xs = [.ref p] ∧ ((SqL K H p ys ∧ ∀ l, H l = none → Q (.ref l) (upd H l (.tup ys))) ∨ (SqT K H p ys ∧ Q (.ref p) H))
theorem r_cbTup (q : a σ H fun vs H1 => rTupL K vs H1 Q) : tCB (fun xs H Q => ∃ p ys, xs = [.ref p] ∧ ((SqL K H p ys ∧ ∀ l, H l = none → Q (.ref l) (upd H l (.tup ys))) ∨ (SqT K H p ys ∧ Q (.ref p) H))) a σ H Q := q
theorem r_tupL {p : Addr} {ns : List Int} (h : H p = some (.lst (ns.map V.int))) (k : ∀ v H2, Stp none H H2 → IT H2 v ns → Q v H2) : rTupL K [.ref p] H Q :=
  ⟨p, _, rfl, .inl ⟨SqL.of h, fun l hl => k _ _ (Stp.new hl) ⟨l, rfl, upd_same⟩⟩⟩
def rLstL (K : PySem.W.Frag) : List V → Hp → VK → Prop := fun xs H Q => ∃ p ys, xs = [.ref p] ∧ (SqL K H p ys ∨ SqT K H p ys) ∧ ∀ l, H l = none → Q (.ref l) (upd H l (.lst ys))
theorem r_cbLst (q : a σ H fun vs H1 => rLstL K vs H1 Q) : tCB (fun xs H Q => ∃ p ys, xs = [.ref p] ∧ (SqL K H p ys ∨ SqT K H p ys) ∧ ∀ l, H l = none → Q (.ref l) (upd H l (.lst ys))) a σ H Q := q
theorem r_lstL {p : Addr} {xs : List V} (h : SqL K H p xs) (k : ∀ l H2, Stp none H H2 → H2 l = some (.lst xs) → H l = none → Q (.ref l) H2) : rLstL K [.ref p] H Q :=
  ⟨p, xs, rfl, .inl h, fun l hl => k l _ (Stp.new hl) upd_same hl⟩
theorem r_nT {A B : Prop} (q : B) : if (!true) = true then A else B := q
theorem r_nF {A B : Prop} (q : A) : if (!false) = true then A else B := q
theorem r_gcd {i j : Int} (q : Q (.int ((Nat.gcd i.natAbs j.natAbs : Nat) : Int)) H) : rGcd [.int i, .int j] H Q := ⟨i, j, rfl, q⟩
theorem r_setLi {p : Addr} {xs : List V} {i : Int} {Q : Hp → Prop} (h : H p = some (.lst xs)) (h0 : 0 ≤ i) (hn : i.toNat < xs.length) (q : Q (upd H p (.lst (xs.set i.toNat v)))) : rSetL (.ref p) (.int i) v H Q := by
  have e : i = ((i.toNat : Nat) : Int) := (Int.toNat_of_nonneg h0).symm
  rw [e]
  exact r_setL h hn q
/-- xs[i] = v, both parts read -/
theorem r_gsub {to ti : TE} {t : TSet} {Q : L2.St → Hp → Prop} (q : to σ H fun o H1 => ti σ H1 fun i H2 => t o i v H2 fun H3 => Q σ H3) : gSub to ti t v σ H Q := q
/-- x.f handed to Q -/
def FldR (K : PySem.W.Frag) (f : Str) (x : V) (H : Hp) (Q : VK) : Prop := ∃ a C dx fs v, x = .ref a ∧ H a = some (.ins C dx fs) ∧ Cls K C ∧ NoAttr K C f ∧ fs.lookup f = some v ∧ Q v H
theorem r_fld {f : Str} (q : ta σ H fun x H1 => FldR K f x H1 Q) : tFld K ta f σ H Q := q
theorem mulW_of {i j : Int} (hi : i.natAbs < 10 ^ 70) (hj : j.natAbs < 10 ^ 70) : CMulW i j :=
  wide_mul (a := 240) (b := 240) (Nat.lt_of_lt_of_le hi (by decide)) (Nat.lt_of_lt_of_le hj (by decide)) (by decide) (by decide) (by decide)
theorem divW_of {i j : Int} (h : 0 < j) (hj : j.natAbs < 10 ^ 70) : CDivW i j :=
  wide_div (b := 240) h (Nat.lt_of_lt_of_le hj (by decide)) (by decide) (by decide)
theorem log2_of {i : Int} (h : i.natAbs < 10 ^ 500) : i.natAbs.log2 < 1920 := by
  have : i.natAbs < 2 ^ 1920 := Nat.lt_of_lt_of_le h (by decide +kernel)
  by_cases z : i.natAbs = 0
  · rw [z]; decide
  · exact (Nat.log2_lt z).mpr this
theorem r_p6 (q : Q (.int 1000000) H) : rI CPow (fun i j => .int (i ^ j.toNat)) (.int 10) (.int 6) H Q := ⟨10, 6, rfl, rfl, ⟨by decide, by decide, by decide⟩, q⟩
theorem r_p9 (q : Q (.int 1000000000) H) : rI CPow (fun i j => .int (i ^ j.toNat)) (.int 10) (.int 9) H Q := ⟨10, 9, rfl, rfl, ⟨by decide, by decide, by decide⟩, q⟩
theorem r_p10 (q : Q (.int 10000000000) H) : rI CPow (fun i j => .int (i ^ j.toNat)) (.int 10) (.int 10) H Q := ⟨10, 10, rfl, rfl, ⟨by decide, by decide, by decide⟩, q⟩
theorem r_p11 (q : Q (.int 100000000000) H) : rI CPow (fun i j => .int (i ^ j.toNat)) (.int 10) (.int 11) H Q := ⟨10, 11, rfl, rfl, ⟨by decide, by decide, by decide⟩, q⟩
theorem r_p12 (q : Q (.int 1000000000000) H) : rI CPow (fun i j => .int (i ^ j.toNat)) (.int 10) (.int 12) H Q := ⟨10, 12, rfl, rfl, ⟨by decide, by decide, by decide⟩, q⟩
theorem r_p18 (q : Q (.int 1000000000000000000) H) : rI CPow (fun i j => .int (i ^ j.toNat)) (.int 10) (.int 18) H Q := ⟨10, 18, rfl, rfl, ⟨by decide, by decide, by decide⟩, q⟩
theorem r_p20 (q : Q (.int 100000000000000000000) H) : rI CPow (fun i j => .int (i ^ j.toNat)) (.int 10) (.int 20) H Q := ⟨10, 20, rfl, rfl, ⟨by decide, by decide, by decide⟩, q⟩
theorem r_p26 (q : Q (.int 100000000000000000000000000) H) : rI CPow (fun i j => .int (i ^ j.toNat)) (.int 10) (.int 26) H Q := ⟨10, 26, rfl, rfl, ⟨by decide, by decide, by decide⟩, q⟩
theorem r_p27 (q : Q (.int 1000000000000000000000000000) H) : rI CPow (fun i j => .int (i ^ j.toNat)) (.int 10) (.int 27) H Q := ⟨10, 27, rfl, rfl, ⟨by decide, by decide, by decide⟩, q⟩
theorem r_p30 (q : Q (.int 1000000000000000000000000000000) H) : rI CPow (fun i j => .int (i ^ j.toNat)) (.int 10) (.int 30) H Q := ⟨10, 30, rfl, rfl, ⟨by decide, by decide, by decide⟩, q⟩
theorem r_sfld {f : Str} {tv : TE} (q : tv σ H fun y H1 => ta σ H1 fun x H2 => ∃ a C dx fs, x = .ref a ∧ H2 a = some (.ins C dx fs) ∧ Cls K C ∧ NoAttr K C f ∧ fs.length < 1000 ∧ D.nx σ (upd H2 a (.ins C dx (putF f y fs)))) :
    sFld K ta tv f D σ H := q
theorem r_unl2 {Q : L2.St → Hp → Prop} {p : Addr} (h : H p = some (.lst [x, y])) (q : gs [x, y] σ H Q) : gLst K 2 gs (.ref p) σ H Q := ⟨p, _, rfl, SqL.of h, rfl, q⟩
/-- what isinstance asks of a class of the text -/
structure IsC (K : PySem.W.Frag) (C : Addr) : Prop where
  ca : PySem.W.findIn K (.ref C) "__class__" = some (some (.builtin "object.__class__"))
  cn : PySem.W.specialIn K (.builtin "object.__class__") "__get__" = some (some (.builtin "getset_descriptor.__get__"))
  ct : PySem.W.takesIn K (.builtin "object.__class__") = some true
  cm : PySem.W.mroIn K C (.type "object") = some true
theorem IsC.ty {C p dx : Addr} {fs : List (Str × V)} (c : IsC K C) (cl : Cls K C) (h : H p = some (.ins C dx fs)) : TyX K H (.ref p) (.ref C) :=
  .base (.ins h cl c.ca c.cn c.ct c.cm)
theorem kit_self {C : Addr} : PySem.W.kitOne K (.ref C) (.ref C) = some true := by
  unfold PySem.W.kitOne
  rw [if_pos (by simp)]
theorem notFirst_self {C : Addr} : PySem.W.notFirst K C (.ref C) = true := by
  unfold PySem.W.notFirst
  simp
/-- a property's object is known -/
theorem r_propAt {C p dx : Addr} {fs : List (Str × V)} {sp : Sp} {E : XK} (h : H p = some (.ins C dx fs)) (q : sp [.ref p] H Q E) :
    ∃ a dx fs, V.ref p = .ref a ∧ H a = some (.ins C dx fs) ∧ sp (.ref a :: []) H Q E := ⟨p, dx, fs, rfl, h, q⟩
theorem r_sl {rs : V → Option Int → Option Int → Hp → VK → Prop} {tl th : TO} (q : te σ H fun x H1 => tl σ H1 fun l H2 => th σ H2 fun u H3 => rs x l u H3 Q) : tSl rs te tl th σ H Q := q
theorem r_noPart {Q : Option Int → Hp → Prop} (q : Q none H) : tNoPart σ H Q := q
theorem r_part {Q : Option Int → Hp → Prop} (q : te σ H fun x H1 => ∃ i, x = .int i ∧ Q (some i) H1) : tPart te σ H Q := q
theorem r_pk {P : Int → Prop} (q : P i) : ∃ i', V.int i = .int i' ∧ P i' := ⟨i, rfl, q⟩
theorem r_slL {p : Addr} {xs : List V} {lo hi : Option Int} (h : SqL K H p xs) (k : ∀ l H2, Stp none H H2 → H2 l = some (.lst (cutV xs lo hi)) → H l = none → Q (.ref l) H2) : rSlL K (.ref p) lo hi H Q :=
  ⟨p, xs, rfl, h, fun l hl => k l _ (Stp.new hl) upd_same hl⟩
theorem cutV_map (ns : List Int) (lo hi : Option Int) : ∃ ms : List Int, cutV (ns.map V.int) lo hi = ms.map V.int :=
  ⟨(ns.drop (HT.sIx ns.length 0 lo)).take (HT.sIx ns.length ns.length hi - HT.sIx ns.length 0 lo), by
    unfold cutV
    simp only [List.length_map, List.map_take, List.map_drop]⟩
theorem r_set1 {t : Addr} {p q r s : V} {Q : Hp → Prop} (h : H t = some (.lst [p, q, r, s])) (k : Q (upd H t (.lst [p, v, r, s]))) : rSetL (.ref t) (.int 1) v H Q := r_setLi h (by decide) (Nat.le_of_ble_eq_true rfl) k
theorem r_set2 {t : Addr} {p q r s : V} {Q : Hp → Prop} (h : H t = some (.lst [p, q, r, s])) (k : Q (upd H t (.lst [p, q, v, s]))) : rSetL (.ref t) (.int 2) v H Q := r_setLi h (by decide) (Nat.le_of_ble_eq_true rfl) k
theorem r_set3 {t : Addr} {p q r s : V} {Q : Hp → Prop} (h : H t = some (.lst [p, q, r, s])) (k : Q (upd H t (.lst [p, q, r, v]))) : rSetL (.ref t) (.int 3) v H Q := r_setLi h (by decide) (Nat.le_of_ble_eq_true rfl) k
/-- the tape at t, written out -/
structure TapeIs (H : Hp) (t l : Addr) (ns : List Int) (a b c : Int) : Prop where
  ne : l ≠ t
  at_ : H t = some (.lst [.ref l, .int a, .int b, .int c])
  li : H l = some (.lst (ns.map V.int))
  a0 : 0 ≤ a
  c0 : 0 ≤ c
  c1 : c < 2147483647
theorem Tape.is {t : Addr} (T : Tape H t) : ∃ l ns a b c, TapeIs H t l ns a b c := by
  obtain ⟨l, ns, a, b, c, h1, h2, h3, h4, h5, h6⟩ := T
  exact ⟨l, ns, a, b, c, h1, h2, h3, h4, h5, h6⟩
theorem TapeIs.put {t l : Addr} {ns : List Int} {a b c a' b' c' : Int} (T : TapeIs H t l ns a b c) (a0 : 0 ≤ a') (c0 : 0 ≤ c') (c1 : c' < 2147483647) :
    Stp (some t) H (upd H t (.lst [.ref l, .int a', .int b', .int c'])) ∧ TapeIs (upd H t (.lst [.ref l, .int a', .int b', .int c'])) t l ns a' b' c' := by
  have T' : TapeIs (upd H t (.lst [.ref l, .int a', .int b', .int c'])) t l ns a' b' c' := ⟨T.ne, upd_same, by rw [upd_ne T.ne]; exact T.li, a0, c0, c1⟩
  refine ⟨⟨fun x o n e => ?_, fun x l' e z => ?_⟩, T'⟩
  · by_cases h : x = t
    · subst h
      rw [T.at_] at e
      exact absurd (Option.some.inj e).symm (n rfl _)
    · rw [upd_ne h]; exact e
  · cases e
    have el : l' = l := by
      obtain ⟨_, _, _, _, _, h, _⟩ := z
      rw [T.at_] at h
      simp only [Option.some.injEq, HO.lst.injEq, List.cons.injEq, V.ref.injEq] at h
      exact h.1.symm
    subst el
    exact ⟨ns, a', b', c', T'.ne, T'.at_, T'.li, a0, c0, c1⟩
theorem r_while {c : TT} {tb : TS} (W : Nat → L2.St → Hp → Prop) (h0 : ∃ m, W m σ H) (hs : ∀ m σ H, W m σ H →
    c σ H fun b H1 => if b = true then ∃ N : L2.St → Hp → Prop, (∀ σ' H', N σ' H' → ∃ m', m' < m ∧ W m' σ' H') ∧ tb { D with nx := N, ct := N, bk := D.nx } σ H1 else D.nx σ H1) :
    tWhile c tb D σ H := ⟨W, h0, hs⟩
end
end MV

set_option Elab.async false
set_option linter.all false
set_option maxRecDepth 100000
set_option maxHeartbeats 2000000
/-! MVF: loops and comprehensions as readings. -/
namespace MV
open PySem PySem.Spec PyProof.Rows L2
section
variable {K : PySem.W.Frag} {σ : L2.St} {H : Hp} {n : Nat} {tl : TE} {g : TG} {tb : TS} {D : Ends} {ta : TA} {x : V}
/-- a loop over a list that stands still -/
def ForL (g : TG) (tb : TS) (D : Ends) (σ : L2.St) (x : V) (H1 : Hp) : Prop := ∃ (a : Addr) (xs : List V) (Pv : Nat → L2.St → Hp → Prop), x = .ref a ∧ Pv 0 σ H1 ∧
  (∀ i σ H, i ≤ xs.length → Pv i σ H → H a = some (.lst xs)) ∧
  (∀ i x σ H, xs[i]? = some x → Pv i σ H → g x σ H fun σ2 H2 => tb { D with nx := Pv (i + 1), ct := Pv (i + 1), bk := D.nx } σ2 H2) ∧ (∀ σ H, Pv xs.length σ H → D.nx σ H)
def ForLR (K : PySem.W.Frag) (g : TG) (tb : TS) (D : Ends) (σ : L2.St) (x : V) (H1 : Hp) : Prop := ∃ a, x = .ref a ∧ (∃ xs, SqL K H1 a xs) ∧ ∃ W : Nat → Nat → L2.St → Hp → Prop, (∃ m, W 0 m σ H1) ∧ ∀ i m σ H, W i m σ H →
  ((Itl K a).stop i H ∧ D.nx σ H) ∨ ((Itl K a).go i H ∧ ∃ N : L2.St → Hp → Prop, (∀ σ' H', N σ' H' → ∃ m', m' < m ∧ W (i + 1) m' σ' H') ∧ ∀ x H', (Itl K a).yld i H x H' → g x σ H' fun σ2 H2 => tb { D with nx := N, ct := N, bk := D.nx } σ2 H2)
theorem r_forL (q : tl σ H fun x H1 => ForLR K g tb D σ x H1) : tFor (iList K tl) g tb D σ H := q
theorem ForL.ok (q : ForL g tb D σ x H) : ForLR K g tb D σ x H := by
  obtain ⟨a, xs, Pv, rfl, h0, hl, hs, hd⟩ := q
  exact ⟨a, rfl, ⟨xs, SqL.of (hl 0 σ H (Nat.zero_le _) h0)⟩, for_list Pv h0 (fun i σ H h p => SqL.of (hl i σ H h p)) hs hd⟩
/-- range(n) -/
def ForR (g : TG) (tb : TS) (D : Ends) (σ : L2.St) (vs : List V) (H1 : Hp) : Prop := ∃ (n : Nat) (Pv : Nat → L2.St → Hp → Prop), vs = [.int n] ∧ n < 2 ^ 62 ∧ Pv 0 σ H1 ∧
  (∀ i σ H, i < n → Pv i σ H → g (.int i) σ H fun σ2 H2 => tb { D with nx := Pv (i + 1), ct := Pv (i + 1), bk := D.nx } σ2 H2) ∧ (∀ σ H, Pv n σ H → D.nx σ H)
def ForRn (g : TG) (tb : TS) (D : Ends) (σ : L2.St) (vs : List V) (H : Hp) : Prop := ∃ j : Int, vs = [.int j] ∧ -(2 ^ 62) ≤ j ∧ j < 2 ^ 62 ∧ ∃ W : Nat → Nat → L2.St → Hp → Prop, (∃ m, W 0 m σ H) ∧ ∀ i m σ H, W i m σ H →
      ((Itr 0 j.toNat).stop i H ∧ D.nx σ H) ∨ ((Itr 0 j.toNat).go i H ∧ ∃ N : L2.St → Hp → Prop, (∀ σ' H', N σ' H' → ∃ m', m' < m ∧ W (i + 1) m' σ' H') ∧ ∀ x H', (Itr 0 j.toNat).yld i H x H' → g x σ H' fun σ2 H2 => tb { D with nx := N, ct := N, bk := D.nx } σ2 H2)
theorem ForR.ok {vs : List V} (q : ForR g tb D σ vs H) : ForRn g tb D σ vs H := by
  obtain ⟨n, Pv, rfl, hn, h0, hs, hd⟩ := q
  refine ⟨n, rfl, by omega, by omega, for_range (lo := 0) (n := (n : Int).toNat) Pv h0 (fun i σ H h p => ?_) hd⟩
  rw [Int.zero_add]
  exact hs i σ H h p
theorem r_forR (q : ta σ H fun vs H1 => ForRn g tb D σ vs H1) : tFor (iRng1 ta) g tb D σ H := q
theorem r_forRc {i : Int} (q : ForR g tb D σ [.int i] H) : tFor (iRng1 (tCons (tC (.int i)) tNil)) g tb D σ H := ForR.ok q
theorem r_forRv {m : Nat} {v : V} (h : σ[m]? = some (some v)) (q : ForR g tb D σ [v] H) : tFor (iRng1 (tCons (tVar m) tNil)) g tb D σ H := ⟨v, h, ForR.ok q⟩

/-- [te for n in an int tuple], the terms made of ints alone -/
def LcI (K : PySem.W.Frag) (n : Nat) (te : TE) (vs : List Nat) (σ : L2.St) (Q : VK) (v : V) (H1 : Hp) : Prop := ∃ (ns : List Int) (f : Int → Int), IK K H1 v ns ∧ ns.length ≤ 100 ∧
  (∀ m H', m ∈ ns → Stp none H1 H' → wipe ((wipe σ vs).set n (some (.int m))) vs = wipe σ vs ∧ ∀ Q : VK, Q (.int (f m)) H' → te ((wipe σ vs).set n (some (.int m))) H' Q) ∧
  ∀ p H2, Stp none H1 H2 → H2 p = some (.lst ((ns.map f).map V.int)) → H1 p = none → Q (.ref p) H2
theorem LcI.ok {te : TE} {vs : List Nat} {Q : VK} {v : V} (q : LcI K n te vs σ Q v H) : ∃ a, v = .ref a ∧ (∃ xs, SqT K H a xs) ∧ ∀ D, H D = none → ∃ W : Nat → Nat → Hp → Prop, (∃ m, W 0 m (upd H D (.lst []))) ∧ ∀ i m H, W i m H →
  ((Itt K a).stop i H ∧ Q (.ref D) H) ∨ ((Itt K a).go i H ∧ ∃ Nx : Hp → Prop, (∀ H', Nx H' → ∃ m', m' < m ∧ W (i + 1) m' H') ∧ ∀ x H', (Itt K a).yld i H x H' → gName n x (wipe σ vs) H' fun σ2 H2 => wipe σ2 vs = wipe σ vs ∧ tYes σ2 H2 fun b H3 =>
    if b = true then te σ2 H3 fun y H4 => ∃ acc, H4 D = some (.lst acc) ∧ acc.length < sizeLine ∧ Nx (upd H4 D (.lst (acc ++ [y]))) else Nx H3) := by
  obtain ⟨ns, f, ⟨a, rfl, ha⟩, hl, hs, hd⟩ := q
  refine ⟨a, rfl, ⟨_, ha⟩, fun D hD => ?_⟩
  have up : ∀ {H' : Hp} {o : HO}, (∀ b o, H b = some o → H' b = some o) → ∀ b o', H b = some o' → upd H' D o b = some o' := fun s b o' e => by
    rw [upd_ne (ne_of_none e hD)]
    exact s b o' e
  refine lc_tup (fun i H' => (∀ b o, H b = some o → H' b = some o) ∧ H' D = some (.lst (((ns.take i).map f).map V.int))) ⟨up fun _ _ e => e, upd_same⟩
    (fun i H' _ p => SqT.mvS (Stp.of p.1 none) ha) (fun i x H' hx p => ?_) (fun H' p => hd D H' (Stp.of p.1 none) ?_ hD)
  · rw [List.getElem?_map] at hx
    obtain ⟨m, hm, rfl⟩ := Option.map_eq_some_iff.mp hx
    obtain ⟨w1, w2⟩ := hs m H' (List.mem_of_getElem? hm) (Stp.of p.1 none)
    refine ⟨w1, ?_⟩
    refine w2 _ ⟨_, p.2, ?_, up p.1, ?_⟩
    · rw [List.length_map, List.length_map, List.length_take]
      exact Nat.lt_of_le_of_lt (Nat.le_trans (Nat.min_le_right _ _) hl) (by decide)
    · rw [upd_same]
      have : i < ns.length := (List.getElem?_eq_some_iff.mp hm).1
      rw [List.take_succ, hm]
      simp
  · have e := p.2
    rw [List.length_map, List.take_length] at e
    exact e
theorem r_lcV {m : Nat} {te : TE} {vs : List Nat} {Q : VK} {v : V} (h : σ[m]? = some (some v)) (q : LcI K n te vs σ Q v H) : tLc (iTup K (tVar m)) (gName n) tYes te vs σ H Q := ⟨v, h, q.ok⟩
theorem r_nX {p : Prop} [Decidable p] {A B : Prop} (h : p) (q : B) : if (!decide p) = true then A else B := by
  rw [if_neg (by simp [h])]; exact q
theorem r_pX {p : Prop} [Decidable p] {A B : Prop} (h : p) (q : A) : if decide p = true then A else B := by
  rw [if_pos (by simp [h])]; exact q
theorem r_pN {p : Prop} [Decidable p] {A B : Prop} (h : ¬ p) (q : B) : if decide p = true then A else B := by
  rw [if_neg (by simp [h])]; exact q
end
theorem byTxt {α : Type} {p : α → Prop} {q : Prop} (h : ∃ a, p a) (k : ∀ a, p a → q) : q := (let ⟨a, z⟩ := h; k a z)
end MV

set_option Elab.async false
set_option linter.all false
set_option maxRecDepth 100000
set_option maxHeartbeats 2000000
/-! MVG: repr of data (none, bools, ints, texts, lists, tuples), where no repr is under way; how long such a text may be. -/
namespace MV
open PySem PySem.Spec PyProof.Rows L2
mutual
def bnd : PyData → Nat
  | .none => 4
  | .bool _ => 5
  | .int _ => 2000
  | .str x => (PySem.reprText x).length
  | .list ds => 2 + bndAll ds
  | .tuple ds => 3 + bndAll ds
  | .dict _ => 0
def bndAll : List PyData → Nat
  | [] => 0
  | d :: ds => bnd d + 2 + bndAll ds
end
theorem len_join : ∀ ts : List Str, (Str.join ", " ts).length ≤ piled ts
  | [] => by decide
  | t :: r => by
    have := join_length_add (t :: r) (by simp)
    omega
theorem len_list (ts : List Str) : (listText ts).length ≤ piled ts + 2 := by
  cases ts with
  | nil => decide
  | cons t r =>
    have h := textFrom_length_pos r 1 (("[" : Str) ++ (if (0 : Nat) > 0 then ", " else "" : String) ++ t) (Nat.succ_pos 0)
    have e : ((("[" : Str) ++ (if (0 : Nat) > 0 then ", " else "" : String) ++ t)).length = 1 + t.length := by
      rw [strLen_append, strLen_append]; rfl
    have hX : (listText (t :: r)).length = (textFrom 0 "[" (t :: r)).length + 1 := by
      unfold listText
      rw [strLen_append]; rfl
    have hY : textFrom 0 "[" (t :: r) = textFrom 1 (("[" : Str) ++ (if (0 : Nat) > 0 then ", " else "" : String) ++ t) r := rfl
    rw [hX, hY, h, e, piled_cons]
    omega
theorem len_tuple (ts : List Str) : (tupleText ts).length ≤ piled ts + 3 := by
  have := len_join ts
  unfold tupleText
  rw [strLen_append, strLen_append]
  have e1 : ((("(" : String) : Str)).length = 1 := rfl
  have e3 : (((if ts.length == 1 then ",)" else ")" : String) : Str)).length ≤ 2 := by split <;> decide
  rw [e1]
  omega
mutual
theorem bnd_ok : ∀ d : PyData, d.showable = true → d.hasDict = false → d.shown.length ≤ bnd d
  | .none, _, _ => by decide
  | .bool b, _, _ => by cases b <;> decide
  | .int i, h, _ => by
    rw [PyData.showable] at h
    have := PySem.int_text_length_le (a := i) (k := 1920) (by decide) (of_decide_eq_true h)
    rw [PyData.shown, bnd]
    have e : (PySem.Str.ofString (toString i)).length = (toString i).length := by exact PySem.ofString_length _
    omega
  | .str x, _, _ => by rw [PyData.shown, bnd]; exact Nat.le_refl _
  | .list ds, h, g => by
    rw [PyData.showable] at h
    rw [PyData.hasDict] at g
    have := bndAll_ok ds h g
    have := len_list (PyData.shownAll ds)
    rw [PyData.shown, bnd]
    omega
  | .tuple ds, h, g => by
    rw [PyData.showable] at h
    rw [PyData.hasDict] at g
    have := bndAll_ok ds h g
    have := len_tuple (PyData.shownAll ds)
    rw [PyData.shown, bnd]
    omega
  | .dict _, _, g => by rw [PyData.hasDict] at g; cases g
theorem bndAll_ok : ∀ ds : List PyData, PyData.showableAll ds = true → PyData.hasDictAll ds = false → piled (PyData.shownAll ds) ≤ bndAll ds
  | [], _, _ => by rw [PyData.shownAll]; exact Nat.zero_le _
  | d :: r, h, g => by
    rw [PyData.showableAll, Bool.and_eq_true] at h
    rw [PyData.hasDictAll, Bool.or_eq_false_iff] at g
    have h1 := bnd_ok d h.1 g.1
    have h2 := bndAll_ok r h.2 g.2
    rw [PyData.shownAll, piled_cons, bndAll]
    omega
end
/-- data that can be shown: ints of at most 500 digits, texts and depth within bounds -/
structure Shw (d : PyData) : Prop where
  sh : d.showable = true
  nd : d.hasDict = false
  dp : d.depth ≤ 50
  ln : bnd d ≤ sizeLine
def rRepr (K : PySem.W.Frag) : List V → Hp → VK → Prop := fun xs H Q => ∃ x d, xs = [x] ∧ Dp K H x d ∧ Shw d ∧ Q (.str d.shown) H
theorem callg_repr {X : Cx} (hg : X.A.guards = some []) (hu : X.A.units + 64 < cLine) : CallR X (.builtin "repr") (rRepr X.K) := by
  intro pins s σ H xs us Q I r h
  obtain ⟨x, d, rfl, hd, S, q⟩ := h
  obtain ⟨as, hr⟩ : ∃ as, us = [as] ∧ RelV x as := by
    cases r with
    | cons r rr => cases rr; exact ⟨_, rfl, r⟩
  obtain ⟨rfl, rv⟩ := hr
  obtain ⟨ps, R⟩ := Dp.reads I d x as hd rv
  have hl : d.shown.length ≤ sizeLine := Nat.le_trans (bnd_ok d S.sh S.nd) S.ln
  have fin : ∀ (h' : Heap) (u tk : Nat), (∀ b o, s.heap.get? b = some o → h'.get? b = some o) → EP X pins σ Q (.str d.shown u) { s with heap := h', toks := tk } :=
    fun h' u tk hk => ⟨.str d.shown, H, I.kept hk, ⟨u, rfl⟩, q⟩
  have dp := S.dp
  cases R with
  | none => exact PySem.P.repr_of_none (fin _ _ _ fun _ _ e => e)
  | bool b => exact PySem.P.repr_of_bool (by have := fin s.heap s.toks (s.toks + 1) fun _ _ e => e; cases b <;> exact this)
  | int i t => exact PySem.P.repr_of_int (by have z := S.sh; rw [PyData.showable] at z; exact of_decide_eq_true z) (fin _ _ _ fun _ _ e => e)
  | str x t => exact PySem.P.repr_of_str (fin _ _ _ fun _ _ e => e) hl
  | list h1 h2 h3 h4 => exact repr_of_reads' (.list h1 h2 h3 h4) S.sh (PyData.noDict_hsm S.nd) hg (by omega) (fun _ _ e => e) (fun h' u tk hk => fin h' u tk hk) hl
  | tuple h1 h2 h3 h4 => exact repr_of_reads' (.tuple h1 h2 h3 h4) S.sh (PyData.noDict_hsm S.nd) hg (by omega) (fun _ _ e => e) (fun h' u tk hk => fin h' u tk hk) hl
  | dict _ _ _ _ _ => exact absurd S.nd (by rw [PyData.hasDict]; decide)
end MV

set_option Elab.async false
set_option linter.all false
set_option maxRecDepth 100000
set_option maxHeartbeats 2000000
/-! MVH: own operators of two instances of a class, own ~, own calls. -/
namespace MV
open PySem PySem.Spec PySem.Calls PyProof.Rows L2
section
variable {X : Cx} {CX : CXT} {k i : Nat} {f C : Addr} {fd : FuncData} {ps : List Str} {sp : Sp} {E : XK} {x : Str} {p pos : Pos} {e : Expr} {es : List Expr} {t : TA}
/-- the class C has a def of that special name -/
structure HasS (K : PySem.W.Frag) (C f : Addr) (n : Str) : Prop where
  at_ : PySem.W.findIn K (.ref C) n = some (some (.ref f))
  fn : PySem.W.isFn K (.ref f) = true
def rOwnBin (K : PySem.W.Frag) (C : Addr) (sp : Sp) (E : XK) : R2 := fun x y H Q => ∃ a dx fs, x = .ref a ∧ H a = some (.ins C dx fs) ∧ TyX K H y (.ref C) ∧ sp [x, y] H Q E
theorem opg_bin {op : Operator} (h : HasS X.K C f (PySem.dunder op.info.2)) (hc : PySem.W.selfFirst X.K C = true) (F : FnG X.prog X.w X.K X.mg X.base CX k f fd ps sp) (hr : Room k X.A) (hg : X.A.guards = some [])
    (hb : Binds X.K fd ps []) (hx : Passes CX X E) : OpR X (binaryOp op) (rOwnBin X.K C sp E) := by
  intro pins s σ H x y v u Q I rx ry q
  obtain ⟨a, dx, fs, rfl, ea, ty, q⟩ := q
  cases rx
  obtain ⟨mA, O, _⟩ := ins_get I.hok ea
  obtain ⟨od, J, _⟩ := O.look
  obtain ⟨m, hF⟩ := I.fr
  obtain ⟨P, kx, hP, _⟩ := kit_of I ry ty
  refine PySem.W.binop_K hF I.ok.mod.kin J (kx.ty _ _ I.kIn hP) hc h.at_ h.fn (thn (callG (us := [.ref a, u]) (vs := [.ref a, y]) F hr hg hb .nil hx I (.cons rfl (.cons ry .nil)) q) ?_)
  rintro z s' ⟨v', H', I', rv, q'⟩
  have fin : EP X pins σ Q z s' := ⟨v', H', I', rv, q'⟩
  cases z <;> first | exact fin | (cases v' <;> first | exact False.elim rv | (obtain ⟨_, h⟩ := rv; cases h) | cases rv)
def rOwnInv (C : Addr) (sp : Sp) (E : XK) : V → Hp → VK → Prop := fun x H Q => ∃ a dx fs, x = .ref a ∧ H a = some (.ins C dx fs) ∧ sp [x] H Q E
theorem ung_inv (h : HasS X.K C f "__invert__") (F : FnG X.prog X.w X.K X.mg X.base CX k f fd ps sp) (hr : Room k X.A) (hg : X.A.guards = some [])
    (hb : Binds X.K fd ps []) (hx : Passes CX X E) : UnR X (unaryOp .Invert) (rOwnInv C sp E) := by
  intro pins s σ H x v Q I rx q
  obtain ⟨a, dx, fs, rfl, ea, q⟩ := q
  cases rx
  obtain ⟨mA, O, _⟩ := ins_get I.hok ea
  obtain ⟨od, J, _⟩ := O.look
  obtain ⟨m, hF⟩ := I.fr
  exact PySem.W.ksp_inv hF I.ok.mod.kin J h.at_ h.fn (callG (us := [.ref a]) (vs := [.ref a]) F hr hg hb .nil hx I (.cons rfl .nil) q)
theorem instPlain {C dx : Addr} : (PySem.W.instObj C dx).data = .plain := rfl
theorem keeper_of {M : Model} {h : Heap} {a : Addr} {o : Obj} (e : h.get? a = some o) (d : o.data = .plain) : PySem.W.Looks M h (keeperOf (.ref a)) .caller := by
  refine PySem.W.Looks.andThen (.ld (part := none) e) ?_
  rw [d]
  exact .now
/-- a call of an instance that stays where it is while the arguments are made -/
theorem callInst {M : Model} {A : Around} {z : Value → Shared → Prop} {s : Shared} {a : Addr} {o : Obj} {Q : Value → Shared → Prop} {ls : List (Bool × Sem Value)} {ks : List (Option Str × Sem Value)}
    (no : (ls.any (·.1) || ks.any (·.1.isNone)) = false) (d : o.data = .plain)
    (run : wpAny M A (evalArgs (.ref a) true ls ks) (fun g s1 => s1.heap.get? a = some o ∧ wpAny M A (call (.ref a) g.pos g.kw) Q z s1) z s) :
    wpAny M A (callWith pos (.ref a) [] ls ks) Q z s := by
  unfold callWith
  refine wpAny_bind (wpAny_holding (thn run ?_))
  intro g s1 w1
  obtain ⟨e1, w1⟩ := w1
  refine wpAny_bind (wpAny_standAt ?_)
  rw [no]
  refine wpAny_bind ((keeper_of e1 d).here (wpAny_bind (thn (wpAny_operateT w1) ?_)))
  intro r s2 q
  exact wpAny_bind (wpAny_holding (wpAny_point (wpAny_pure q)))
/-- x(..), x a local that holds an instance whose class has a def __call__ -/
def tCallI (i : Nat) (C : Addr) (sp : Sp) (E : XK) (t : TA) : TE := fun σ H Q => ∃ v a dx fs, σ[i]? = some (some v) ∧ v = .ref a ∧ H a = some (.ins C dx fs) ∧ t σ H fun vs H1 => (∃ fs', H1 a = some (.ins C dx fs')) ∧ sp (v :: vs) H1 Q E
theorem peg_calli (h : HasS X.K C f "__call__") (hfn : PySem.W.fnIn X.K f = true) (F : FnG X.prog X.w X.K X.mg X.base CX k f fd ps sp) (hr : Room k X.A) (hg : X.A.guards = some [])
    (hb : Binds X.K fd ps []) (hx : Passes CX X E) (hN : X.N[i]? = some x) (hv : Vis X.env.scope x) (ha : PA X (e :: es) t)
    (hdb : (x == ("__debug__" : Str)) = false := by decide) (hcd : (x == ("__classdict__" : Str)) = false := by decide)
    (he : starEach (e :: es) X.env = (false, eval e X.env) :: starEach es X.env := by rfl) (hpl : (backTo pos (starEach es X.env)).any (·.1) = false := by rfl) :
    PE X (.Call (.Name x p) (e :: es) [] pos) (tCallI i C sp E t) := by
  refine ⟨fun pins s σ H Q I h' => ?_⟩
  obtain ⟨v, a, dx, fs, hs, rfl, ea, ht⟩ := h'
  refine wpAny_Call_Name_kw (thn ((pe_var (pos := p) hN hv hdb hcd).run pins s σ H (fun v H1 => v = .ref a ∧ H1 = H) I ⟨.ref a, hs, rfl, rfl⟩) fun u s1 ⟨v, H1, I1, r1, q1⟩ => ?_)
  obtain ⟨rfl, rfl⟩ := q1
  cases r1
  obtain ⟨mA, O, _⟩ := ins_get I1.hok ea
  obtain ⟨od, J, _⟩ := O.look
  rw [he]
  refine callInst (o := PySem.W.instObj C dx) (by show ((false || (backTo pos (starEach es X.env)).any (·.1)) || false) = false; rw [hpl]; rfl) rfl (evalArgs_plain ?_)
  suffices go : wpAny (model X.prog X.w) X.A (spliced (backTo pos (starEach (e :: es) X.env))) (fun vs s' => s'.heap.get? a = some (PySem.W.instObj C dx) ∧ wpAny (model X.prog X.w) X.A (call (.ref a) vs) (EP X pins σ Q) X.xe s') X.xe s1 by
    rw [he] at go
    exact go
  refine thn (ha.run pos pins s1 σ _ _ I1 ht) fun us s2 ⟨vs, H2, I2, r, ⟨fs2, e2⟩, q⟩ => ?_
  obtain ⟨mA2, O2, _⟩ := ins_get I2.hok e2
  obtain ⟨od2, J2, _⟩ := O2.look
  refine ⟨J2.at_, wpAny_call ?_⟩
  refine PySem.W.kco_code I2.kIn J2 rfl h.at_ h.fn hfn ?_
  refine codeAny_mono (runG (us := .ref a :: us) (vs := .ref a :: vs) (Q := Q) F hr hg I2.env0 hb .nil hx I2 (.cons rfl r) ?_) fun z s' hq => ?_
  · rw [List.append_nil]
    exact q
  · match z, hq with
    | .ok (.ret _), hq => exact hq
    | .error _, hq => exact hq
theorem r_cval {K : PySem.W.Frag} {σ : L2.St} {H : Hp} {Q : VK} {ta : TE} {fn : Str} (q : ta σ H fun x H1 => ∃ C mc v u, x = .ref C ∧ ClX.CRead K C mc ∧ ClX.CVal K C mc fn v u ∧ Q v H1) : ClX.tCVal K ta fn σ H Q := q
theorem r_isiSS {K : PySem.W.Frag} {H : Hp} {Q : VK} {z : Str} (q : Q (.bl true) H) : rIsi K [.str z, .ty "str"] H Q := r_isi (.ty _) (.base (.str z)) (kit_ty (by decide +kernel)) q
end
end MV

set_option Elab.async false
set_option linter.all false
set_option maxRecDepth 100000
set_option maxHeartbeats 2000000
/-! MVI: static methods by their class; the keys of a dict of the text; a comprehension over known items. -/
namespace MV
open PySem PySem.Spec PySem.Calls PyProof.Rows L2
section
variable {X : Cx} {CX : CXT} {k : Nat} {f C p : Addr} {fd : FuncData} {ps : List Str} {sp : Sp} {dvs : List V} {ds : List Value} {E : XK} {m : Str} {pos apos : Pos} {o e : Expr} {es : List Expr} {ta : TE} {t : TA} {mc : Value}
/-- C.m is a static method: its record at p, its def at f -/
structure SMet (K : PySem.W.Frag) (C : Addr) (mc : Value) (m : Str) (p f : Addr) : Prop where
  rd : ClX.CRead K C mc
  at_ : PySem.W.findCls K (.ref C) mc m = some (.get (.builtin "staticmethod.__get__") (.ref p) .none (.ref C))
  rc : ∃ rest, PySem.W.recIn K p "staticmethod" = some (.ref f :: rest)
  kp : PySem.W.keepIn K (.ref f) = true
def tSMeth (C : Addr) (sp : Sp) (dvs : List V) (E : XK) (ta : TE) (t : TA) : TE := fun σ H Q => ta σ H fun x H1 => x = .ref C ∧ t σ H1 fun vs H2 => sp (vs ++ dvs) H2 Q E
theorem peg_smeth {pl : Sem Bool} (he : PE X o ta) (S : SMet X.K C mc m p f)
    (F : FnG X.prog X.w X.K X.mg X.base CX k f fd ps sp) (hr : Room k X.A) (hg : X.A.guards = some [])
    (hb : Binds X.K fd ps ds) (hd : Vals dvs ds) (hx : Passes CX X E) (ha : PA X (e :: es) t)
    (hst : starEach (e :: es) X.env = (false, eval e X.env) :: starEach es X.env := by rfl)
    (hpl : (backTo pos (starEach es X.env)).any (·.1) = false := by rfl)
    (ht : eval (.Call (.Attribute o m apos) (e :: es) [] pos) X.env = (do
      let ov ← eval o X.env
      standAt apos.atName
      let (g, first) ← holding [ov] (getMethod ov m pl)
      callWith pos g first (backTo pos (starEach (e :: es) X.env)) (backToKw pos (keywordEach [] X.env))) := by rfl) :
    PE X (.Call (.Attribute o m apos) (e :: es) [] pos) (tSMeth C sp dvs E ta t) := by
  constructor
  intro pins s σ H Q I h
  refine PySem.W.methodCall_KW (pl := pl) (thn (he.run pins s σ H _ I h) ?_) ht
  rintro u s1 ⟨_, H1, I1, rx, rfl, q⟩
  cases rx
  obtain ⟨rest, hrec⟩ := S.rc
  refine PySem.W.method_cls I1.kIn S.rd.ga (PySem.W.cls_bind I1.kIn S.rd.rd S.at_ (wpAny_call (PySem.W.sm_get (s := { s1 with toks := s1.toks + 1 }) I1.kIn hrec (PySem.W.handed_on rfl ?_))))
  have I2 := I1.tok (s1.toks + 1)
  refine PySem.W.callWith_K (first := []) (h₀ := X.base) I.ok.mod.kin S.kp ?_ hst hpl
  refine thn (ha.run pos pins _ σ H1 _ I2 q) fun us s2 ⟨vs, H2, I3, r, q2⟩ => ⟨I3.kIn, ?_⟩
  exact callG F hr hg hb hd hx I3 r q2
end

/-! ### the keys of a dict of the text -/
def KKeys (K : PySem.W.Frag) (d : Addr) (xs : List V) : Prop := ∃ (es : Array DictEntry) (n : Nat), K.lookup d = some ⟨.type "dict", none, .dict es n, #[]⟩ ∧ (d == sysModules) = false ∧ Vals xs (es.toList.map (·.key))
/-- known items, one behind another -/
def Itx (xs : List V) : It := ⟨fun i _ => i < xs.length, fun i H x H' => H' = H ∧ xs[i]? = some x, fun i _ => xs.length ≤ i⟩
def iKK (K : PySem.W.Frag) (td : TE) : TI := fun σ H R => td σ H fun x H1 => ∃ d xs, x = .ref d ∧ KKeys K d xs ∧ R (Itx xs) H1
theorem vals_at {xs : List V} {us : List Value} (r : Vals xs us) {i : Nat} {x : V} (h : xs[i]? = some x) : ∃ u, us[i]? = some u ∧ RelV x u := by
  induction r generalizing i with
  | nil => cases h
  | cons r _ ih =>
    cases i with
    | zero => cases h; exact ⟨_, rfl, r⟩
    | succ i => exact ih h
theorem turn_kk {P : Program} {w : World} {K : PySem.W.Frag} {tg : Expr} {d : Addr} {xs : List V} {es : Array DictEntry} {n : Nat} (it : Addr) (hl : K.lookup d = some ⟨.type "dict", none, .dict es n, #[]⟩)
    (r : Vals xs (es.toList.map (·.key))) : Turn P w K tg (Itx xs) [it] it (fun i h => h.IsKeyIter it d i xs.length n) where
  mem := List.mem_cons_self
  obj := by
    intro i h st b hb
    cases List.mem_singleton.mp hb
    obtain ⟨oi, e, c, dd⟩ := st
    exact ⟨oi, e, fun v z => by rw [dd] at z; cases z⟩
  keep := fun i h h' st k => st.at fun oi e => k it List.mem_cons_self oi e
  item := by
    intro X hP hw hK hc i pins s σ H E I hf st hg
    subst hP hw hK
    have hg : i < xs.length := hg
    obtain ⟨f0, f1, f2, f3, f4, f5⟩ := hf it List.mem_cons_self
    obtain ⟨x, hx⟩ : ∃ x, xs[i]? = some x := ⟨xs[i], List.getElem?_eq_getElem hg⟩
    obtain ⟨u, hu, ru⟩ := vals_at r hx
    rw [List.getElem?_map] at hu
    obtain ⟨en, hen, rfl⟩ := Option.map_eq_some_iff.mp hu
    have hsz : es.size = xs.length := by
      have := Paired.length r
      rw [List.length_map, Array.length_toList] at this
      exact this.symm
    refine next_key_item st (I.kIn _ _ hl) rfl hsz (by rw [← Array.getElem?_toList]; exact hen) fun h' st' sb => ?_
    have I1 : Inv X pins σ H { s with heap := h' } := I.turned (t' := s.toks) (fun b ob hb e => (sb.2 b hb).trans e) f0 f1 f3 f4 f5
    obtain ⟨oi, e, c, dd⟩ := id st'
    exact ⟨_, rfl, go_of (s := { s with heap := h' }) e c dd (by decide) ⟨x, H, I1, ru, ⟨rfl, hx⟩, st', fun b hb => (hf b hb).1⟩⟩
  done := by
    intro X hP hw hK hc i pins s σ H E I hf st hg
    subst hP hw hK
    have hg : xs.length ≤ i := hg
    obtain ⟨f0, f1, f2, f3, f4, f5⟩ := hf it List.mem_cons_self
    have hsz : es.size = xs.length := by
      have := Paired.length r
      rw [List.length_map, Array.length_toList] at this
      exact this.symm
    exact next_key_end (I.ok.hd hc) st (I.kIn _ _ hl) rfl hsz hg fun h' eb => ⟨rfl, I.turned (t' := s.toks) (fun b ob hb e => eb b ob hb e) f0 f1 f3 f4 f5⟩
  self := fun A i s Q E st h => wpAny_pyIter_keyiter st h
theorem pi_kk {X : Cx} {tg e : Expr} {td : TE} (he : PE X e td) : PI X tg e (iKK X.K td) := by
  constructor
  intro pins s σ H R I h
  refine thn (he.run pins s σ H _ I h) ?_
  rintro u s1 ⟨_, H1, I1, rx, d, xs, rfl, ⟨es, n, hl, hs, r⟩, q⟩
  cases rx
  have hsz : es.size = xs.length := by
    have := Paired.length r
    rw [List.length_map, Array.length_toList] at this
    exact this.symm
  refine iter_keys hs (I1.kIn _ _ hl) ⟨rfl, rfl, rfl⟩ rfl (pi_one (tk := s1.toks) I1 _ (turn_kk _ hl r) ⟨_, Heap.get?_push_size _ rfl, rfl, ?_⟩ q)
  rw [hsz]
  rfl

/-! ### [te for n in known items if tt] -/
theorem lc_known {xs : List V} {g : TG} {tt : TT} {te : TE} {vs : List Nat} {σ : L2.St} {H1 : Hp} {D : Addr} {Qd : Hp → Prop} (Pv : Nat → Hp → Prop) (h0 : Pv 0 (upd H1 D (.lst [])))
    (hs : ∀ i x H, xs[i]? = some x → Pv i H → g x (wipe σ vs) H fun σ2 H2 => wipe σ2 vs = wipe σ vs ∧ tt σ2 H2 fun b H3 =>
      if b = true then te σ2 H3 fun y H4 => ∃ acc, H4 D = some (.lst acc) ∧ acc.length < sizeLine ∧ Pv (i + 1) (upd H4 D (.lst (acc ++ [y]))) else Pv (i + 1) H3) (hd : ∀ H, Pv xs.length H → Qd H) :
    ∃ W : Nat → Nat → Hp → Prop, (∃ m, W 0 m (upd H1 D (.lst []))) ∧ ∀ i m H, W i m H →
      ((Itx xs).stop i H ∧ Qd H) ∨ ((Itx xs).go i H ∧ ∃ Nx : Hp → Prop, (∀ H', Nx H' → ∃ m', m' < m ∧ W (i + 1) m' H') ∧ ∀ x H', (Itx xs).yld i H x H' → g x (wipe σ vs) H' fun σ2 H2 => wipe σ2 vs = wipe σ vs ∧ tt σ2 H2 fun b H3 =>
        if b = true then te σ2 H3 fun y H4 => ∃ acc, H4 D = some (.lst acc) ∧ acc.length < sizeLine ∧ Nx (upd H4 D (.lst (acc ++ [y]))) else Nx H3) := by
  refine ⟨fun i m H => m = xs.length - i ∧ i ≤ xs.length ∧ Pv i H, ⟨_, rfl, Nat.zero_le _, h0⟩, ?_⟩
  rintro i m H ⟨rfl, hi, p⟩
  by_cases hlt : i < xs.length
  · refine .inr ⟨hlt, Pv (i + 1), fun H' p' => ⟨_, ?_, rfl, hlt, p'⟩, ?_⟩
    · omega
    · rintro x H' ⟨rfl, hx⟩
      exact hs i x _ hx p
  · have e : i = xs.length := by omega
    subst e
    exact .inl ⟨Nat.le_refl _, hd H p⟩
end MV

set_option Elab.async false
set_option linter.all false
set_option maxRecDepth 100000
set_option maxHeartbeats 2000000
/-! MVJ: defs with defaults; tuples and dicts of the text as facts. -/
namespace MV
open PySem PySem.Spec PySem.Calls PyProof.Rows L2
section
variable {P : Program} {w : World} {K : PySem.W.Frag} {mg : Str → Option Value} {base : Heap} {CX : CXT} {k : Nat} {f : Addr} {fd : FuncData} {ps : List Str} {sp : Sp}
  {x qual : Str} {params : Arguments} {body : List Stmt} {scope : Scope} {dvs : List V} {kws : List (Str × V)} {N : List Str}
/-- the rule of a def with defaults -/
theorem FunD.g (F : FunD K x qual params body scope dvs kws f fd) (S : FnScope N ps scope)
    (ln : ∀ vs H Q E, sp vs H Q E → vs.length = ps.length)
    (hb : ∀ (cdv : Value) (A : Around) (outer : List Env) (s : Shared) (H : Hp) (vs : List V) (Q : VK) (E : XK),
      Room k (A.deeper (envOfC qual scope s.heap.objs.size f cdv)) →
      (A.deeper (envOfC qual scope s.heap.objs.size f cdv)).guards = some [] → sp vs H Q E →
      ∃ t, PSs (cxOf CX P w K mg base N qual scope f cdv A outer s H E) body t ∧
        t { nx := fun _ H' => Q .non H', rt := Q } (start N vs) H) :
    FnG P w K mg base CX (k + 1) f fd ps sp := by
  obtain ⟨oc, od, dV, kV, doc, pm, an, cdv, ct, osl, rfl, lk, hcd, _, _⟩ := F.ex
  exact fng_of lk hcd S ln fun A outer s H vs Q E hr hg h => hb cdv A outer s H vs Q E hr hg h
end
/-- a tuple of the text -/
def KT (K : PySem.W.Frag) (p : Addr) (xs : List V) : Prop := ∃ (od : Option Addr) (its : Array Value) (n : Nat) (sl : Array (Option Value)), K.lookup p = some ⟨.type "tuple", od, .seq its n, sl⟩ ∧ its.size ≤ sizeLine ∧ Vals xs its.toList
theorem KT.t {K : PySem.W.Frag} {H : Hp} {p : Addr} {xs : List V} (h : KT K p xs) : SqT K H p xs := (let ⟨_, its, n, _, h1, h2, h3⟩ := h; .inr ⟨_, its, n, h1, rfl, rfl, h2, h3⟩)
theorem KT.k {K : PySem.W.Frag} {H : Hp} {p : Addr} {ns : List Int} (h : KT K p (ns.map V.int)) : IK K H (.ref p) ns := ⟨p, rfl, h.t⟩
/-- == of data at any depth, where the frame's K is given -/
theorem op_eqDk {X : Cx} {K : PySem.W.Frag} (e : X.K = K) (hu : X.A.units + 64 < cLine) : OpR X (compareOp .Eq) (rEqD K) := e ▸ op_eqD hu
theorem op_neDk {X : Cx} {K : PySem.W.Frag} (e : X.K = K) (hu : X.A.units + 64 < cLine) : OpR X (compareOp .NotEq) (rNeD K) := e ▸ op_neD hu
theorem kt_mk {K : PySem.W.Frag} {p : Addr} {xs : List V} {od : Option Addr} {its : Array Value} {n : Nat} {sl : Array (Option Value)} (h : K.lookup p = some ⟨.type "tuple", od, .seq its n, sl⟩) (z : its.size ≤ sizeLine) (v : Vals xs its.toList) : KT K p xs :=
  ⟨od, its, n, sl, h, z, v⟩
theorem kd_mk {K : PySem.W.Frag} {w : World} {a : Addr} {x : Str} {v : V} {es : Array DictEntry} {n : Nat} {u : Value} (h : K.lookup a = some ⟨.type "dict", none, .dict es n, #[]⟩) (l : PySem.W.KeysLit w.params es.toList)
    (e : PySem.W.nsIn K a x = some (some u)) (r : RelV v u) : KDct K w a x v := ⟨es, n, u, h, l, e, r⟩
theorem kk_mk {K : PySem.W.Frag} {d : Addr} {xs : List V} {es : Array DictEntry} {n : Nat} (h : K.lookup d = some ⟨.type "dict", none, .dict es n, #[]⟩) (e : (d == sysModules) = false) (r : Vals xs (es.toList.map (·.key))) : KKeys K d xs := ⟨es, n, h, e, r⟩
theorem binds_all {K : PySem.W.Frag} {fd : FuncData} {ps : List Str} (h : ∃ ds, Vals [] ds ∧ Binds K fd ps ds) : Binds K fd ps [] := by
  obtain ⟨ds, v, b⟩ := h
  cases v
  exact b
end MV

set_option Elab.async false
set_option linter.all false
set_option maxRecDepth 100000
set_option maxHeartbeats 2000000
/-! MVK: repr by an own __repr__; {x!r} of data. -/
namespace MV
open PySem PySem.Spec PySem.Calls PyProof.Rows L2
theorem ix_seqk {X : Cx} {K : PySem.W.Frag} (e : X.K = K) : IxR X (rIx K) := e ▸ ix_seq
section
variable {X : Cx} {CX : CXT} {k : Nat} {f C : Addr} {fd : FuncData} {ps : List Str} {sp : Sp} {E : XK} {e : Expr} {te : TE} {pos : Pos}
/-- repr(x), x an instance whose class has a def __repr__ -/
def rOwnRepr (C : Addr) (sp : Sp) (E : XK) : List V → Hp → VK → Prop := fun xs H Q => ∃ a dx fs, xs = [.ref a] ∧ H a = some (.ins C dx fs) ∧ sp xs H (fun z H' => ∃ t, z = .str t ∧ Q (.str t) H') E
theorem callg_own {K : PySem.W.Frag} (h : HasS X.K C f "__repr__") (F : FnG X.prog X.w X.K X.mg X.base CX k f fd ps sp) (hr : Room (k + 1) X.A) (hg : X.A.guards = some [])
    (hb : Binds X.K fd ps []) (hx : Passes CX X E) : CallR X (.builtin "repr") (rOwnRepr C sp E) := by
  intro pins s σ H xs us Q I r q
  obtain ⟨a, dx, fs, rfl, ea, q⟩ := q
  obtain ⟨u, rfl, rv⟩ : ∃ u, us = [u] ∧ RelV (.ref a) u := by
    cases r with
    | cons r rr => cases rr; exact ⟨_, rfl, r⟩
  cases rv
  obtain ⟨mA, O, _⟩ := ins_get I.hok ea
  obtain ⟨od, J, _⟩ := O.look
  obtain ⟨m, hF⟩ := I.fr
  have hu : X.A.in1.units < cLine := by
    have := hr.un
    show X.A.units + 1 < cLine
    omega
  refine PySem.W.repr_K hu hF I.ok.mod.kin J h.at_ h.fn (wpAny_call ?_)
  refine codeAny_mono (runG (us := [.ref a]) (vs := [.ref a]) F hr.in1 hg I.env0.in1 hb .nil hx I (.cons rfl .nil) q) fun z s' hq => ?_
  match z, hq with
  | .error _, hq => exact hq
  | .ok (.ret w), ⟨v, H', I', rv, t, ev, q'⟩ =>
    subst ev
    obtain ⟨tk, rfl⟩ := rv
    exact ⟨.str t, H', I', ⟨tk, rfl⟩, q'⟩
/-- {x!r} of data that stands at an address -/
def tFmtD (K : PySem.W.Frag) (te : TE) : TE := fun σ H Q => te σ H fun x H1 => ∃ a d, x = .ref a ∧ Dp K H1 x d ∧ Shw d ∧ Q (.str d.shown) H1
theorem pe_fmtD (hg : X.A.guards = some []) (hu : X.A.units + 64 < cLine) (he : PE X e te) : PE X (.FormattedValue e 114 none pos) (tFmtD X.K te) := by
  constructor
  intro pins s σ H Q I h
  refine wpAny_FormattedValue_repr (thn (he.run pins s σ H _ I h) ?_)
  rintro v s1 ⟨_, H1, I1, rv, a, d, rfl, hd, S, q⟩
  obtain ⟨as, R⟩ := Dp.reads I1 d _ v hd rv
  cases rv
  have dp := S.dp
  have hl : d.shown.length ≤ sizeLine := Nat.le_trans (bnd_ok d S.sh S.nd) S.ln
  refine pyReprObj_of_reads R S.sh (PyData.noDict_hsm S.nd) hg (by omega) (fun _ _ e => e) (fun h' u tk hk => ?_) hl
  have I2 : Inv X pins σ H1 { s1 with heap := h', toks := tk } := I1.kept hk
  exact wpAny_formatField_str ⟨.str d.shown, H1, I2, ⟨_, rfl⟩, q⟩ ⟨.str d.shown, H1, I2.tok _, ⟨_, rfl⟩, q⟩ hl
end
end MV

set_option Elab.async false
set_option linter.all false
set_option maxRecDepth 100000
set_option maxHeartbeats 2000000
/-! MVL: comprehensions over a list as readings; pairs unpacked; data of texts. -/
namespace MV
open PySem PySem.Spec PySem.Calls PyProof.Rows L2
section
variable {K : PySem.W.Frag} {σ : L2.St} {H H1 : Hp} {n : Nat} {tl te : TE} {tt : TT} {g : TG} {vs : List Nat} {Q : VK} {x : V}
/-- [te for .. in x if tt], x a list that is already read -/
def LcLR (K : PySem.W.Frag) (g : TG) (tt : TT) (te : TE) (vs : List Nat) (σ : L2.St) (Q : VK) (x : V) (H1 : Hp) : Prop := ∃ a, x = .ref a ∧ (∃ xs, SqL K H1 a xs) ∧ ∀ D, H1 D = none → ∃ W : Nat → Nat → Hp → Prop, (∃ m, W 0 m (upd H1 D (.lst []))) ∧ ∀ i m H, W i m H →
  ((Itl K a).stop i H ∧ Q (.ref D) H) ∨ ((Itl K a).go i H ∧ ∃ Nx : Hp → Prop, (∀ H', Nx H' → ∃ m', m' < m ∧ W (i + 1) m' H') ∧ ∀ x H', (Itl K a).yld i H x H' → g x (wipe σ vs) H' fun σ2 H2 => wipe σ2 vs = wipe σ vs ∧ tt σ2 H2 fun b H3 =>
    if b = true then te σ2 H3 fun y H4 => ∃ acc, H4 D = some (.lst acc) ∧ acc.length < sizeLine ∧ Nx (upd H4 D (.lst (acc ++ [y]))) else Nx H3)
theorem r_lcL (q : tl σ H fun x H1 => LcLR K g tt te vs σ Q x H1) : tLc (iList K tl) g tt te vs σ H Q := q
theorem lcl_ok {p : Addr} {xs : List V} (hp : H1 p = some (.lst xs)) (k : ∀ D, H1 D = none → ∃ Pv : Nat → Hp → Prop, Pv 0 (upd H1 D (.lst [])) ∧ (∀ i H, i ≤ xs.length → Pv i H → H p = some (.lst xs)) ∧
    (∀ i x H, xs[i]? = some x → Pv i H → g x (wipe σ vs) H fun σ2 H2 => wipe σ2 vs = wipe σ vs ∧ tt σ2 H2 fun b H3 =>
      if b = true then te σ2 H3 fun y H4 => ∃ acc, H4 D = some (.lst acc) ∧ acc.length < sizeLine ∧ Pv (i + 1) (upd H4 D (.lst (acc ++ [y]))) else Pv (i + 1) H3) ∧ ∀ H, Pv xs.length H → Q (.ref D) H) :
    LcLR K g tt te vs σ Q (.ref p) H1 := by
  refine ⟨p, rfl, ⟨_, SqL.of hp⟩, fun D hD => ?_⟩
  obtain ⟨Pv, h0, hl, hs, hd⟩ := k D hD
  exact lc_list (xs := xs) Pv h0 (fun i H hi pv => SqL.of (hl i H hi pv)) hs hd
theorem r_unT2 {gs : TGs} {Q : L2.St → Hp → Prop} {p : Addr} {a b : V} (h : H p = some (.tup [a, b])) (q : gs [a, b] σ H Q) : gTup K 2 gs (.ref p) σ H Q := ⟨p, _, rfl, SqT.of h, rfl, q⟩
/-- the heap of a comprehension's start: what stood stands, the new list is empty -/
theorem lc_keep {D : Addr} {o : HO} (hD : H1 D = none) : ∀ b o', H1 b = some o' → upd H1 D o b = some o' := fun b o' e => by
  rw [upd_ne (ne_of_none e hD)]
  exact e
end
theorem dp_strs {K : PySem.W.Frag} {H : Hp} : ∀ ns : List Str, DpAll K H (ns.map V.str) (ns.map PyData.str)
  | [] => .nil
  | n :: r => .cons (.str n) (dp_strs r)
theorem eqvAll_strs : ∀ ns ms : List Str, PyData.eqvAll (ns.map PyData.str) (ms.map PyData.str) = decide (ns = ms)
  | [], [] => by rw [List.map_nil, PyData.eqvAll]; rfl
  | [], _ :: _ => by rw [List.map_nil, List.map_cons, PyData.eqvAll]; rfl
  | _ :: _, [] => by rw [List.map_nil, List.map_cons, PyData.eqvAll]; rfl
  | n :: r, m :: q => by
    rw [List.map_cons, List.map_cons, PyData.eqvAll, PyData.eqv, eqvAll_strs r q]
    by_cases h : n = m
    · subst h
      by_cases h2 : r = q
      · subst h2; simp
      · simp [h2]
    · simp [h]
end MV

set_option Elab.async false
set_option linter.all false
set_option maxRecDepth 100000
set_option maxHeartbeats 2000000
/-! MVM: defs with *rest; class methods without arguments; a class held in a local; // by wide numbers of either sign. -/
namespace MV
open PySem PySem.Spec PySem.Calls PyProof.Rows L2
/-- a promise of what is called with any positions, where no repr is under way -/
def FnGR (P : Program) (w : World) (K : PySem.W.Frag) (mg : Str → Option Value) (base : Heap) (CX : CXT) (k : Nat) (f : Addr) (sp : Sp) : Prop :=
  ∀ (A : Around) (outer : List Env) (s : Shared) (H : Hp) (us : List Value) (vs : List V) (Q : VK) (E : XK), Room k A → A.guards = some [] → Env0 P w K mg base A outer s H → Vals vs us → sp vs H Q E →
    codeAny (model P w) A (.call (.ref f) ⟨us, []⟩) (CR CX outer P w H s Q E) s
/-- what a def with *rest alone promises, from what its body does with the tuple -/
def spStar (sp : Sp) : Sp := fun vs H Q E => vs.length ≤ sizeLine ∧ ∀ p, H p = none → sp [.ref p] (upd H p (.tup vs)) Q E
section
variable {P : Program} {w : World} {K : PySem.W.Frag} {mg : Str → Option Value} {base : Heap} {CX : CXT} {k : Nat} {f : Addr} {fd : FuncData} {ps : List Str} {sp : Sp}
theorem Fun.gs {x qual pv : Str} {st : Stmt} {N : List Str} (F : Fun K x qual st f fd) (S : FnScope N [pv] (defScope st)) (hCX : StX.CXUp CX)
    (hb : ∀ rest : List Value, bindArgs fd ⟨rest, []⟩ = (newTuple rest >>= fun t => pure [(pv, t)]))
    (hbody : ∀ (cdv : Value) (A : Around) (outer : List Env) (s : Shared) (H : Hp) (vs : List V) (Q : VK) (E : XK),
      Room k (A.deeper (envOfC qual (defScope st) s.heap.objs.size f cdv)) →
      (A.deeper (envOfC qual (defScope st) s.heap.objs.size f cdv)).guards = some [] → sp vs H Q E →
      ∃ t, PSs (cxOf CX P w K mg base N qual (defScope st) f cdv A outer s H E).nox (defBody st) t ∧
        t { nx := fun _ H' => Q .non H', rt := Q } (start N vs) H) :
    FnGR P w K mg base CX (k + 1) f (spStar sp) := by
  obtain ⟨oc, od, kV, doc, pm, an, cdv, ct, osl, rfl, lk, hcd⟩ := F.ex
  intro A outer s H us vs Q E hr hg e0 r ⟨hz, hq⟩
  have hn : H s.heap.objs.size = Option.none := e0.hok.fresh (Nat.le_refl _)
  have hl2 : us.length ≤ sizeLine := by rw [← r.length]; exact hz
  refine StX.run_bnd lk hcd S hr e0 (G := fun xs H2 => ∃ p, H p = Option.none ∧ xs = [V.ref p] ∧ H2 = upd H p (.tup vs)) (fun A' Ex Q' h => ?_) fun s2 H2 xs ⟨p, hp, ex, eH⟩ hr' => ?_
  · rw [hb us]
    refine wpAny_bind (wpAny_newTuple (wpAny_pure ?_) hl2)
    have new : ObjOk P w (upd H s.heap.objs.size (.tup vs)) (s.heap.push ({ cls := .type "tuple", data := .seq us.toArray } : Obj)) s.heap.objs.size (.tup vs) := ⟨hz, us, r, ⟨_, Heap.get?_push_size _ rfl, rfl, _, rfl⟩⟩
    have un := StX.un_laid (fs := frs outer) (s := s) (o := ({ cls := .type "tuple", data := .seq us.toArray } : Obj)) (u := .tup vs) hn
    exact h _ _ [V.ref s.heap.objs.size] [Value.ref s.heap.objs.size] (StX.env0_laid e0 new) un rfl (fun e s' => hCX outer s H _ _ E e s' un (fun b o q => Heap.get?_push_of_some _ q) rfl) (.cons rfl .nil) rfl ⟨_, hn, rfl, rfl⟩
  · subst ex eH
    obtain ⟨t, p1, q1⟩ := hbody cdv A outer s2 _ _ Q E hr' hg (hq p hp)
    exact ⟨t, p1.nox, q1⟩
end
section
variable {X : Cx} {CX : CXT} {k i : Nat} {f C p : Addr} {fd : FuncData} {ps : List Str} {sp : Sp} {E : XK} {x m : Str} {pos apos np : Pos} {o e : Expr} {es : List Expr} {ta : TE} {t : TA} {mc : Value}
theorem runGR {A : Around} {pins : List (Addr × Obj)} {σ : L2.St} {H : Hp} {s : Shared} {Q : VK} {us : List Value} {vs : List V}
    (F : FnGR X.prog X.w X.K X.mg X.base CX k f sp) (hr : Room k A) (hg : A.guards = some [])
    (e0 : Env0 X.prog X.w X.K X.mg X.base A X.stack s H) (hx : Passes CX X E)
    (I : Inv X pins σ H s) (r : Vals vs us) (h : sp vs H Q E) :
    codeAny (model X.prog X.w) A (.call (.ref f) ⟨us, []⟩) (Back X pins σ Q) s :=
  codeAny_mono (F A X.stack s H us vs Q E hr hg e0 r h) fun r s' hq => ended hx I hq
theorem callGR {pins : List (Addr × Obj)} {σ : L2.St} {H : Hp} {s : Shared} {Q : VK} {us : List Value} {vs : List V}
    (F : FnGR X.prog X.w X.K X.mg X.base CX k f sp) (hr : Room k X.A) (hg : X.A.guards = some []) (hx : Passes CX X E)
    (I : Inv X pins σ H s) (r : Vals vs us) (h : sp vs H Q E) :
    wpAny (model X.prog X.w) X.A (call (.ref f) us) (EP X pins σ Q) X.xe s := by
  refine wpAny_call (codeAny_mono (runGR F hr hg I.env0 hx I r h) fun z s' q => ?_)
  match z, q with
  | .ok (.ret _), q => exact q
  | .error _, q => exact q
/-- C.m(..), m a static method with *rest -/
theorem peg_smethR {pl : Sem Bool} (he : PE X o ta) (S : SMet X.K C mc m p f)
    (F : FnGR X.prog X.w X.K X.mg X.base CX k f sp) (hr : Room k X.A) (hg : X.A.guards = some []) (hx : Passes CX X E) (ha : PA X (e :: es) t)
    (hst : starEach (e :: es) X.env = (false, eval e X.env) :: starEach es X.env := by rfl)
    (hpl : (backTo pos (starEach es X.env)).any (·.1) = false := by rfl)
    (ht : eval (.Call (.Attribute o m apos) (e :: es) [] pos) X.env = (do
      let ov ← eval o X.env
      standAt apos.atName
      let (g, first) ← holding [ov] (getMethod ov m pl)
      callWith pos g first (backTo pos (starEach (e :: es) X.env)) (backToKw pos (keywordEach [] X.env))) := by rfl) :
    PE X (.Call (.Attribute o m apos) (e :: es) [] pos) (tSMeth C sp [] E ta t) := by
  constructor
  intro pins s σ H Q I h
  refine PySem.W.methodCall_KW (pl := pl) (thn (he.run pins s σ H _ I h) ?_) ht
  rintro u s1 ⟨_, H1, I1, rx, rfl, q⟩
  cases rx
  obtain ⟨rest, hrec⟩ := S.rc
  refine PySem.W.method_cls I1.kIn S.rd.ga (PySem.W.cls_bind I1.kIn S.rd.rd S.at_ (wpAny_call (PySem.W.sm_get (s := { s1 with toks := s1.toks + 1 }) I1.kIn hrec (PySem.W.handed_on rfl ?_))))
  have I2 := I1.tok (s1.toks + 1)
  refine PySem.W.callWith_K (first := []) (h₀ := X.base) I.ok.mod.kin S.kp ?_ hst hpl
  refine thn (ha.run pos pins _ σ H1 _ I2 q) fun us s2 ⟨vs, H2, I3, r, q2⟩ => ⟨I3.kIn, ?_⟩
  have q2 : sp (vs ++ []) H2 Q E := q2
  rw [List.append_nil] at q2
  exact callGR F hr hg hx I3 r q2
/-- C.m(), m a class method -/
def tCMeth0 (C : Addr) (sp : Sp) (E : XK) (ta : TE) : TE := fun σ H Q => ta σ H fun x H1 => x = .ref C ∧ sp [.ref C] H1 Q E
theorem peg_cmeth0 {pl : Sem Bool} (he : PE X o ta) (r : ClX.CRead X.K C mc) (c : ClX.CMet X.K C mc m p f)
    (F : FnG X.prog X.w X.K X.mg X.base CX k f fd ps sp) (hr : Room k X.A) (hg : X.A.guards = some []) (hb : Binds X.K fd ps []) (hx : Passes CX X E)
    (ht : eval (.Call (.Attribute o m apos) [] [] pos) X.env = (do
      let ov ← eval o X.env
      standAt apos.atName
      let (g, first) ← holding [ov] (getMethod ov m pl)
      callWith pos g first (backTo pos (starEach [] X.env)) (backToKw pos (keywordEach [] X.env))) := by rfl) :
    PE X (.Call (.Attribute o m apos) [] [] pos) (tCMeth0 C sp E ta) := by
  constructor
  intro pins s σ H Q I h
  refine PySem.W.methodCall_KW (pl := pl) (thn (he.run pins s σ H _ I h) ?_) ht
  rintro u s1 ⟨_, H1, I1, rx, rfl, q⟩
  cases rx
  refine ClX.getmethcm_ok I1 r c fun s2 I2 => ?_
  have hq := ClX.pin_at I2
  refine PySem.W.callWith_M0 (first := []) (g := f) (self := .ref C) ⟨hq, I2.kIn⟩ c.fi ?_
  have z : wpAny (model X.prog X.w) X.A (call (.ref s1.heap.objs.size) []) (EP X ((s1.heap.objs.size, PySem.W.methodObj (.ref f) (.ref C)) :: pins) σ Q) X.xe s2 := by
    refine wpAny_call (PySem.W.method_call hq ?_)
    refine codeAny_mono (runG (us := [.ref C]) (vs := [.ref C]) (Q := Q) F hr hg I2.env0 hb .nil hx I2 (.cons rfl .nil) q) fun z s' q' => ?_
    match z, q' with
    | .ok (.ret _), q' => exact q'
    | .error _, q' => exact q'
  exact thn z fun _ _ y => ClX.unpinE y
/-- x(..), x a local that holds the class C -/
def tMakeL (i : Nat) (C : Addr) (sp : Sp) (E : XK) (t : TA) : TE := fun σ H Q => σ[i]? = some (some (.ref C)) ∧ t σ H fun vs H1 => MkR C sp vs H1 Q E
theorem peg_makeL (M : Mk X.K C f) (F : FnG X.prog X.w X.K X.mg X.base CX k f fd ps sp) (hr : Room (k + 1) X.A) (hg : X.A.guards = some []) (hb : Binds X.K fd ps []) (hx : Passes CX X E)
    (hN : X.N[i]? = some x) (hv : Vis X.env.scope x) (ha : PA X (e :: es) t)
    (hdb : (x == ("__debug__" : Str)) = false := by decide) (hcd : (x == ("__classdict__" : Str)) = false := by decide)
    (he : starEach (e :: es) X.env = (false, eval e X.env) :: starEach es X.env := by rfl) (hpl : (backTo pos (starEach es X.env)).any (·.1) = false := by rfl) :
    PE X (.Call (.Name x np) (e :: es) [] pos) (tMakeL i C sp E t) := by
  refine ⟨fun pins s σ H Q I h' => ?_⟩
  obtain ⟨hs, ht⟩ := h'
  refine wpAny_Call_Name_kw (thn ((pe_var (pos := np) hN hv hdb hcd).run pins s σ H (fun v H1 => v = .ref C ∧ H1 = H) I ⟨.ref C, hs, rfl, rfl⟩) fun u s1 ⟨v, H1, I1, r1, q1⟩ => ?_)
  obtain ⟨rfl, rfl⟩ := q1
  cases r1
  refine PySem.W.callWith_K (h₀ := X.base) I1.ok.mod.kin M.kp ?_ he hpl
  refine thn (ha.run pos pins s1 σ _ _ I1 ht) fun us s2 ⟨vs, H2, I2, r, q⟩ => ⟨I2.kIn, ?_⟩
  refine makeG (dvs := []) M F hr hg hb .nil hx I2 r ?_
  rw [List.append_nil]
  exact q
end
/-- // of numbers whose divisor is not 0 and has fewer than 9000 bits -/
def CDivN9 (_ j : Int) : Prop := j ≠ 0 ∧ j.natAbs.log2 < 9000
theorem op_fdivN9 {X : Cx} : OpR X (binaryOp .FloorDiv) (rI CDivN9 fun i j => .int (i.fdiv j)) := opI fun i j _ _ _ _ _ hc q =>
  floordiv_int hc.1 q (.inl (PyProof.noPylong_of_log2 hc.2))
section
variable {K : PySem.W.Frag} {H : Hp} {Q : VK} {i j : Int}
theorem r_divN9 (h : CDivN9 i j) (q : Q (.int (i.fdiv j)) H) : rI CDivN9 (fun i j => .int (i.fdiv j)) (.int i) (.int j) H Q := ⟨i, j, rfl, rfl, h, q⟩
theorem r_modN (h : j ≠ 0) (q : Q (.int (i.fmod j)) H) : rI (fun _ j => j ≠ 0) (fun i j => .int (i.fmod j)) (.int i) (.int j) H Q := ⟨i, j, rfl, rfl, h, q⟩
theorem r_cmeth0 {C : Addr} {sp : Sp} {E : XK} {ta : TE} {σ : L2.St} (q : ta σ H fun x H1 => x = .ref C ∧ sp [.ref C] H1 Q E) : tCMeth0 C sp E ta σ H Q := q
end
section
variable {K : PySem.W.Frag} {σ : L2.St} {H : Hp} {n : Nat} {tl : TE} {g : TG} {tb : TS} {D : Ends} {x : V} {Q : VK} {i j l m : Int} {gs : TGs}
/-- a loop over a tuple -/
def ForT (K : PySem.W.Frag) (g : TG) (tb : TS) (D : Ends) (σ : L2.St) (x : V) (H1 : Hp) : Prop := ∃ (a : Addr) (xs : List V) (Pv : Nat → L2.St → Hp → Prop), x = .ref a ∧ Pv 0 σ H1 ∧
  (∀ i σ H, i ≤ xs.length → Pv i σ H → SqT K H a xs) ∧
  (∀ i x σ H, xs[i]? = some x → Pv i σ H → g x σ H fun σ2 H2 => tb { D with nx := Pv (i + 1), ct := Pv (i + 1), bk := D.nx } σ2 H2) ∧ (∀ σ H, Pv xs.length σ H → D.nx σ H)
def ForTR (K : PySem.W.Frag) (g : TG) (tb : TS) (D : Ends) (σ : L2.St) (x : V) (H1 : Hp) : Prop := ∃ a, x = .ref a ∧ (∃ xs, SqT K H1 a xs) ∧ ∃ W : Nat → Nat → L2.St → Hp → Prop, (∃ m, W 0 m σ H1) ∧ ∀ i m σ H, W i m σ H →
  ((Itt K a).stop i H ∧ D.nx σ H) ∨ ((Itt K a).go i H ∧ ∃ N : L2.St → Hp → Prop, (∀ σ' H', N σ' H' → ∃ m', m' < m ∧ W (i + 1) m' σ' H') ∧ ∀ x H', (Itt K a).yld i H x H' → g x σ H' fun σ2 H2 => tb { D with nx := N, ct := N, bk := D.nx } σ2 H2)
theorem r_forT (q : tl σ H fun x H1 => ForTR K g tb D σ x H1) : tFor (iTup K tl) g tb D σ H := q
theorem ForT.ok (q : ForT K g tb D σ x H) : ForTR K g tb D σ x H := by
  obtain ⟨a, xs, Pv, rfl, h0, hl, hs, hd⟩ := q
  exact ⟨a, rfl, ⟨xs, hl 0 σ H (Nat.zero_le _) h0⟩, for_tup Pv h0 (fun i σ H h p => hl i σ H h p) hs hd⟩
theorem r_newI4 (k : ∀ v H2, Stp none H H2 → IT H2 v [i, j, l, m] → Q v H2) : NewT [V.int i, V.int j, V.int l, V.int m] H Q := r_newI (ns := [i, j, l, m]) (Nat.le_of_ble_eq_true rfl) k
theorem r_unpack4 {v : V} {Q : L2.St → Hp → Prop} (h : IK K H v [i, j, l, m]) (q : gs [V.int i, V.int j, V.int l, V.int m] σ H Q) : gTup K 4 gs v σ H Q := r_unpack h rfl q
end
/-! ### a list of one's own is written -/
theorem Stp.put {t : Option Addr} {H H' : Hp} {f : Addr} {o : HO} (s : Stp t H H') (n : H f = none) : Stp t H (upd H' f o) := by
  refine ⟨fun b o' m e => ?_, fun a l e T => ?_⟩
  · rw [upd_ne (ne_of_none e n)]
    exact s.ge b o' m e
  · have T' := s.tp a l e T
    obtain ⟨_, _, _, _, _, h1, h2, _⟩ := T
    obtain ⟨ns, x, b, c, k0, k1, k2, k3⟩ := T'
    exact ⟨ns, x, b, c, k0, by rw [upd_ne (ne_of_none h1 n)]; exact k1, by rw [upd_ne (ne_of_none h2 n)]; exact k2, k3⟩
theorem IT.put {H : Hp} {f : Addr} {xs ys : List V} {v : V} {ns : List Int} (h : IT H v ns) (e : H f = some (.lst xs)) : IT (upd H f (.lst ys)) v ns := by
  obtain ⟨p, rfl, h⟩ := h
  exact ⟨p, rfl, by rw [upd_ne (by rintro rfl; rw [e] at h; cases h)]; exact h⟩
/-- xs.append(y) as a statement -/
theorem r_app {H : Hp} {Q : VK} {f : Addr} {xs : List V} {y : V} (h : H f = some (.lst xs)) (hl : xs.length < sizeLine) (q : Q .non (upd H f (.lst (xs ++ [y])))) : rAppend (.ref f) [y] H Q := ⟨f, xs, y, rfl, rfl, h, hl, q⟩
theorem r_bm {K : PySem.W.Frag} {T : String} {r : V → List V → Hp → VK → Prop} {ta : TE} {t : TA} {σ : L2.St} {H : Hp} {Q : VK} (q : ta σ H fun x H1 => tyV K T x H1 ∧ t σ H1 fun xs H2 => r x xs H2 Q) : tBM K T r ta t σ H Q := q
/-! ### a cut behind a statement -/
def tCut (t u : TS) : TS := fun D σ H => ∃ Pv : L2.St → Hp → Prop, t { D with nx := Pv } σ H ∧ ∀ σ' H', Pv σ' H' → u D σ' H'
theorem pss_cut {X : Cx} {st : Stmt} {rest : List Stmt} {t u : TS} (h1 : PS X st t) (h2 : PSs X rest u) : PSs X (st :: rest) (tCut t u) := by
  refine ⟨fun pins s σ H D I ⟨Pv, h, hk⟩ => ?_⟩
  refine wpAny_execs_cons (thn (h1.run pins s σ H { D with nx := Pv } I h) fun f s1 q => ?_)
  cases f with
  | next =>
    obtain ⟨σ', H', I', q⟩ := q
    exact h2.run pins s1 σ' H' D I' (hk _ _ q)
  | ret v => exact q
  | brk => exact q
  | cont => exact q
theorem r_cut {t u : TS} {D : Ends} {σ : L2.St} {H : Hp} (Pv : L2.St → Hp → Prop) (h1 : t { D with nx := Pv } σ H) (h2 : ∀ σ' H', Pv σ' H' → u D σ' H') : tCut t u D σ H := ⟨Pv, h1, h2⟩
end MV

set_option Elab.async false
set_option linter.all false
set_option maxRecDepth 100000
set_option maxHeartbeats 2000000
/-! MVN: ranges of two and three numbers; rules within a comprehension's block; bools compared; lists added and repeated. -/
namespace MV
open PySem PySem.Spec PySem.Calls PyProof.Rows L2
section
variable {X : Cx} {K : PySem.W.Frag} {tg e : Expr} {te : TE}
theorem pi_tupk (h : X.K = K) (he : PE X e te) : PI X tg e (iTup K te) := h ▸ pi_tup he
theorem pi_listk (h : X.K = K) (he : PE X e te) : PI X tg e (iList K te) := h ▸ pi_list he
theorem call_tuple_ofk (h : X.K = K) : CallR X (.type "tuple") (rTupL K) := by
  subst h
  exact call_tuple_of
end
section
variable {K : PySem.W.Frag} {σ : L2.St} {H H1 : Hp} {Q : VK} {g : TG} {tb : TS} {D : Ends} {ta : TA} {x y : V} {b c : Bool}
/-- range(i, j) -/
def ForR2 (g : TG) (tb : TS) (D : Ends) (σ : L2.St) (vs : List V) (H1 : Hp) : Prop := ∃ (i j : Int) (Pv : Nat → L2.St → Hp → Prop), vs = [.int i, .int j] ∧ -(2 ^ 62) ≤ i ∧ i < 2 ^ 62 ∧ -(2 ^ 62) ≤ j ∧ j < 2 ^ 62 ∧ Pv 0 σ H1 ∧
  (∀ n σ H, n < (j - i).toNat → Pv n σ H → g (.int (i + n)) σ H fun σ2 H2 => tb { D with nx := Pv (n + 1), ct := Pv (n + 1), bk := D.nx } σ2 H2) ∧ (∀ σ H, Pv (j - i).toNat σ H → D.nx σ H)
def ForR2n (g : TG) (tb : TS) (D : Ends) (σ : L2.St) (vs : List V) (H : Hp) : Prop := ∃ i j : Int, vs = [.int i, .int j] ∧ (-(2 ^ 62) ≤ i ∧ i < 2 ^ 62 ∧ -(2 ^ 62) ≤ j ∧ j < 2 ^ 62) ∧ ∃ W : Nat → Nat → L2.St → Hp → Prop, (∃ m, W 0 m σ H) ∧ ∀ n m σ H, W n m σ H →
      ((Itr i (j - i).toNat).stop n H ∧ D.nx σ H) ∨ ((Itr i (j - i).toNat).go n H ∧ ∃ N : L2.St → Hp → Prop, (∀ σ' H', N σ' H' → ∃ m', m' < m ∧ W (n + 1) m' σ' H') ∧ ∀ x H', (Itr i (j - i).toNat).yld n H x H' → g x σ H' fun σ2 H2 => tb { D with nx := N, ct := N, bk := D.nx } σ2 H2)
theorem ForR2.ok {vs : List V} (q : ForR2 g tb D σ vs H) : ForR2n g tb D σ vs H := by
  obtain ⟨i, j, Pv, rfl, a1, a2, a3, a4, h0, hs, hd⟩ := q
  exact ⟨i, j, rfl, ⟨a1, a2, a3, a4⟩, for_range Pv h0 hs hd⟩
theorem r_forR2 (q : ta σ H fun vs H1 => ForR2n g tb D σ vs H1) : tFor (iRng2 ta) g tb D σ H := q
/-- range(i, j, c) -/
def ForR3n (g : TG) (tb : TS) (D : Ends) (σ : L2.St) (vs : List V) (H : Hp) : Prop := ∃ (i j c : Int) (n : Nat), vs = [.int i, .int j, .int c] ∧ RgC i j c n ∧ ∃ W : Nat → Nat → L2.St → Hp → Prop, (∃ m, W 0 m σ H) ∧ ∀ k m σ H, W k m σ H →
      ((Itc i c n).stop k H ∧ D.nx σ H) ∨ ((Itc i c n).go k H ∧ ∃ N : L2.St → Hp → Prop, (∀ σ' H', N σ' H' → ∃ m', m' < m ∧ W (k + 1) m' σ' H') ∧ ∀ x H', (Itc i c n).yld k H x H' → g x σ H' fun σ2 H2 => tb { D with nx := N, ct := N, bk := D.nx } σ2 H2)
theorem for3_ok {i j c : Int} {n : Nat} (hr : RgC i j c n) (Pv : Nat → L2.St → Hp → Prop) (h0 : Pv 0 σ H)
    (hs : ∀ k σ H, k < n → Pv k σ H → g (.int (i + (k : Nat) * c)) σ H fun σ2 H2 => tb { D with nx := Pv (k + 1), ct := Pv (k + 1), bk := D.nx } σ2 H2) (hd : ∀ σ H, Pv n σ H → D.nx σ H) : ForR3n g tb D σ [.int i, .int j, .int c] H :=
  ⟨i, j, c, n, rfl, hr, for_rangeC Pv h0 hs hd⟩
theorem r_forR3 (q : ta σ H fun vs H1 => ForR3n g tb D σ vs H1) : tFor (iRng3 ta) g tb D σ H := q
theorem r_neB (q : Q (.bl (!decide (b = c))) H) : rNe (.bl b) (.bl c) H Q := ⟨rfl, by
  have e : decide (V.bl b = V.bl c) = decide (b = c) := decide_eq_decide.mpr ⟨V.bl.inj, congrArg V.bl⟩
  rw [e]; exact q⟩
theorem r_eqB (q : Q (.bl (decide (b = c))) H) : rEq (.bl b) (.bl c) H Q := ⟨rfl, by
  have e : decide (V.bl b = V.bl c) = decide (b = c) := decide_eq_decide.mpr ⟨V.bl.inj, congrArg V.bl⟩
  rw [e]; exact q⟩
theorem r_catL {l m : Addr} {xs ys : List V} (h : H l = some (.lst xs)) (h2 : H m = some (.lst ys)) (hl : xs.length + ys.length ≤ 100) (k : ∀ p H2, Stp none H H2 → H2 p = some (.lst (xs ++ ys)) → H p = none → Q (.ref p) H2) : rCat (.ref l) (.ref m) H Q :=
  ⟨l, m, xs, ys, rfl, rfl, h, h2, sz100 hl, fun p hp => k p _ (Stp.new hp) upd_same hp⟩
theorem r_rep3 {l : Addr} {x : V} (h : H l = some (.lst [x])) (k : ∀ p H2, Stp none H H2 → H2 p = some (.lst [x, x, x]) → H p = none → Q (.ref p) H2) : rRep (.ref l) (.int 3) H Q :=
  ⟨l, 3, [x], rfl, rfl, h, by decide, by decide, (show (1 : Nat) * 3 ≤ sizeLine by decide), fun p hp => k p _ (Stp.new hp) upd_same hp⟩
end
/-- three bools in a list -/
abbrev b3 (b c d : Bool) : PyData := .list [.bool b, .bool c, .bool d]
theorem shw_b3 (b c d : Bool) : Shw (b3 b c d) where
  sh := by
    rw [PyData.showable, PyData.showableAll, PyData.showableAll, PyData.showableAll, PyData.showableAll, PyData.showable, PyData.showable, PyData.showable]
    rfl
  nd := by
    rw [PyData.hasDict, PyData.hasDictAll, PyData.hasDictAll, PyData.hasDictAll, PyData.hasDictAll, PyData.hasDict, PyData.hasDict, PyData.hasDict]
    rfl
  dp := by
    rw [PyData.depth, PyData.depthAll, PyData.depthAll, PyData.depthAll, PyData.depthAll, PyData.depth, PyData.depth, PyData.depth]
    decide
  ln := by
    rw [bnd, bndAll, bndAll, bndAll, bndAll, bnd, bnd, bnd]
    decide
theorem shaped_b3 {b c d : Bool} : SeqAt.shaped (b3 b c d) = true := by
  simp [SeqAt.shaped, PyData.canLay0, PyData.canLayAll0, PyData.depth, PyData.depthAll]
theorem eqv_b3 {b c d : Bool} : PyData.eqv (b3 b c d) (b3 b c d) = true := by
  simp [PyData.eqv, PyData.eqvAll]
end MV

set_option Elab.async false
set_option linter.all false
set_option maxRecDepth 100000
set_option maxHeartbeats 2000000
/-! MVO: own binary operators of instances of two classes. -/
namespace PySem.W
open PySem PySem.Spec PyProof.Rows
section
variable {prog : Program} {w : World} {A : Around} {E : Value → Shared → Prop} {s : Shared} {K : Frag} {x C D L f f' : Addr} {h₀ : Heap} {m : Str → Option Value} {ox : Obj} {od : Option Obj}
theorem mv_binTwo {op : Operator} {b : Value} {Q : Value → Shared → Prop} (F : Fr h₀ L s.heap m) (X₀ : K.In h₀) (I : InstAt s.heap x ox C od) (hb : Looks (model prog w) s.heap (typeOf b) (.ref D)) (hcd : (C == D) = false) (hc : selfFirst K C = true) (hd : selfFirst K D = true)
    (hs : findIn K (.ref C) (PySem.dunder op.info.2) = some (some (.ref f))) (hf : isFn K (.ref f) = true) (hr : findIn K (.ref C) (dunderR op.info.2) = some none)
    (hs' : findIn K (.ref D) (PySem.dunder op.info.2) = some (some (.ref f'))) (hr' : findIn K (.ref D) (dunderR op.info.2) = some none) (hsub : subIn K (.ref D) (.ref C) = some false)
    (h : wpAny (model prog w) A (call (.ref f) [.ref x, b]) (CmpBack Q) E s) : wpAny (model prog w) A (binaryOp op (.ref x) b) Q E s := by
  have X := X₀.keeps F.keep
  obtain ⟨cd, rest, hcl, hm⟩ := ksp_first hc
  obtain ⟨cd', rest', hcl', hm'⟩ := ksp_first hd
  rcases hi : op.info with ⟨sym, nm'⟩
  rw [hi] at hs hr hs' hr'
  dsimp only at hs hr hs' hr'
  have one := ksp_try X I hs hf h
  obtain ⟨hh, g, d, tt, os⟩ := s
  have L1 : Looks (model prog w) hh (typeOf (.ref x)) (.ref C) := I.type
  have L2 : Looks (model prog w) hh (typeOf b) (.ref D) := hb
  have L3 : Looks (model prog w) hh (fillsNumberSlot (.ref C) nm') true := fills_K X hcl hm hs
  have L4 : Looks (model prog w) hh (fillsNumberSlot (.ref D) nm') true := fills_K X hcl' hm' hs'
  have L5 : Looks (model prog w) hh (isSubtype (.ref D) (.ref C)) false := looks_subIn X hsub
  have L6 : Looks (model prog w) hh (numberSlotInPython (.ref C) nm') true := ksp_inPy X hs hr (.inl rfl)
  have L7 : Looks (model prog w) hh (numberSlotInPython (.ref D) nm') true := ksp_inPy X hs' hr' (.inl rfl)
  have hne : (Value.ref C == Value.ref D) = false := Bool.eq_false_iff.mpr fun q => by
    cases beq_iff_eq.mp q
    rw [beq_self_eq_true] at hcd
    cases hcd
  simp only [binaryOp, hi]
  refine wpAny_holding (wpAny_bind ?_)
  unfold binaryOp1
  refine wpAny_bind (L1.at (wpAny_bind (L2.at (wpAny_bind (L3.at ?_)))))
  simp only [hne, Bool.false_eq_true, if_false]
  ksp_lk
  refine wpAny_mono one (fun r s' hr' => ?_) fun _ _ e => e
  obtain ⟨v, rfl, hq⟩ := hr'
  ksp_lk
  exact hq
end
end PySem.W
namespace MV
open PySem PySem.Spec PySem.Calls PyProof.Rows L2
section
variable {X : Cx} {CX : CXT} {k : Nat} {f f' C D : Addr} {fd : FuncData} {ps : List Str} {sp : Sp} {E : XK}
/-- what an operator of two classes asks of the text -/
structure Two (K : PySem.W.Frag) (C D f f' : Addr) (n r : Str) : Prop where
  ne : (C == D) = false
  c : PySem.W.selfFirst K C = true
  d : PySem.W.selfFirst K D = true
  at_ : PySem.W.findIn K (.ref C) n = some (some (.ref f))
  fn : PySem.W.isFn K (.ref f) = true
  nr : PySem.W.findIn K (.ref C) r = some none
  at' : PySem.W.findIn K (.ref D) n = some (some (.ref f'))
  nr' : PySem.W.findIn K (.ref D) r = some none
  sub : PySem.W.subIn K (.ref D) (.ref C) = some false
def rOwnTwo (K : PySem.W.Frag) (C D : Addr) (sp : Sp) (E : XK) : R2 := fun x y H Q => ∃ a dx fs, x = .ref a ∧ H a = some (.ins C dx fs) ∧ TyX K H y (.ref D) ∧ sp [x, y] H Q E
theorem opg_two {op : Operator} (h : Two X.K C D f f' (PySem.dunder op.info.2) (PySem.dunderR op.info.2)) (F : FnG X.prog X.w X.K X.mg X.base CX k f fd ps sp) (hr : Room k X.A) (hg : X.A.guards = some [])
    (hb : Binds X.K fd ps []) (hx : Passes CX X E) : OpR X (binaryOp op) (rOwnTwo X.K C D sp E) := by
  intro pins s σ H x y v u Q I rx ry q
  obtain ⟨a, dx, fs, rfl, ea, ty, q⟩ := q
  cases rx
  obtain ⟨mA, O, _⟩ := ins_get I.hok ea
  obtain ⟨od, J, _⟩ := O.look
  obtain ⟨m, hF⟩ := I.fr
  obtain ⟨P, kx, hP, _⟩ := kit_of I ry ty
  refine PySem.W.mv_binTwo hF I.ok.mod.kin J (kx.ty _ _ I.kIn hP) h.ne h.c h.d h.at_ h.fn h.nr h.at' h.nr' h.sub (thn (callG (us := [.ref a, u]) (vs := [.ref a, y]) F hr hg hb .nil hx I (.cons rfl (.cons ry .nil)) q) ?_)
  rintro z s' ⟨v', H', I', rv, q'⟩
  have fin : EP X pins σ Q z s' := ⟨v', H', I', rv, q'⟩
  cases z <;> first | exact fin | (cases v' <;> first | exact False.elim rv | (obtain ⟨_, h⟩ := rv; cases h) | cases rv)
end
end MV

set_option Elab.async false
set_option linter.all false
set_option maxRecDepth 100000
set_option maxHeartbeats 2000000
/-! MVP: own exceptions with one field, made and raised. -/
namespace MV
open PySem PySem.Spec PyProof.Rows L2

/-- an own exception class C, one parameter, which its __init__ keeps in the field f -/
structure Xc (K : PySem.W.Frag) (C fI : Addr) (f : Str) : Prop where
  c : OexC K C
  i : PySem.W.findIn K (.ref C) "__init__" = some (some (.ref fI))
  t : PySem.W.typeIn K (.ref fI) = some (.type "function")
  n : PySem.W.findIn K (.ref C) f = some none

/-- what such an __init__ promises -/
def spX (K : PySem.W.Frag) (f : Str) : Sp := fun vs H Q _ => ∃ (a C : Addr) (y : V), vs = [.ref a, y] ∧ OexC K C ∧ PySem.W.findIn K (.ref C) f = some none ∧
  H a = some (exo a C none) ∧ ∀ dx, H dx = none → dx ≠ a → Q .non (upd (upd H dx (exd dx [(f, y)])) a (exo a C (some dx)))

section
variable {P : Program} {w : World} {K : PySem.W.Frag} {mg : Str → Option Value} {base : Heap} {k : Nat} {f fI : Addr} {fd : FuncData}
/-- def __init__(self, v): self.v = v -/
theorem xinit_ok {qual v : Str} {st : Stmt} {p1 p2 p3 p4 : Pos} (F : Fun K "__init__" qual st fI fd) (S : FnScope ["self", v] ["self", v] (defScope st))
    (hb : defBody st = [.Assign [.Attribute (.Name "self" p1) v p2] (.Name v p3) p4])
    (h1 : Vis (defScope st) "self") (h2 : Vis (defScope st) v)
    (d1 : (v == ("__debug__" : Str)) = false) (d2 : (v == ("__classdict__" : Str)) = false) :
    FnOk P w K mg base CX0 (k + 1) fI fd ["self", v] (spX K v) := by
  refine F.ok S (fun vs H Q E h => ?_) fun cdv A outer s H vs Q E hr h => ?_
  · obtain ⟨a, C, y, rfl, _⟩ := h
    rfl
  · obtain ⟨a, C, y, rfl, hC, hn, ha, q⟩ := h
    rw [hb]
    refine ⟨_, pss_one (ps_ost (pe_var (i := 0) rfl h1 (by decide) (by decide)) (pe_var (i := 1) rfl h2 d1 d2)), ?_⟩
    exact ⟨y, rfl, .ref a, rfl, a, C, rfl, hC, hn, .inl ⟨ha, q⟩⟩

/-- C(e), to be raised -/
def tXm (C : Addr) (f : Str) (te : TE) : L2.St → Hp → XK → Prop := fun σ H Q => te σ H fun y H1 => ∀ d, H1 d = none → Q (.ref C) (some d) (upd H1 d (.xd [(f, y)]))
end

theorem upd_xd {H : Hp} {a d : Addr} {o o1 o2 o3 : HO} (ha : H a = none) (hd : d ≠ a) :
    upd (del (upd (upd (upd H a o) d o1) a o2) a) d o3 = upd H d o3 := by
  funext b
  by_cases e : b = d
  · rw [e, upd_same, upd_same]
  · rw [upd_ne e, upd_ne e]
    by_cases e2 : b = a
    · rw [e2, del_same, ha]
    · rw [del_ne e2, upd_ne e2, upd_ne e, upd_ne e2]

section
variable {X : Cx} {C fI : Addr} {fd : FuncData} {k : Nat} {f x : Str} {e : Expr} {te : TE} {p pos pos2 : Pos} {W : WX}
theorem pe_mono (he : PE X e te) : PE X e (fun σ H Q => ∃ Q0 : VK, te σ H Q0 ∧ ∀ v H1, Q0 v H1 → Q v H1) :=
  ⟨fun pins s σ H Q I ⟨Q0, h, m⟩ => wpAny_mono (he.run pins s σ H Q0 I h) (fun _ _ ⟨v, H1, I1, r, q⟩ => ⟨v, H1, I1, r, m v H1 q⟩) fun _ _ z => z⟩
theorem pmk_x (T : Xc X.K C fI f) (F : FnOk X.prog X.w X.K X.mg X.base CX0 k fI fd ["self", f] (spX X.K f)) (hr : Room (k + 1) X.A)
    (hb : Binds X.K fd ["self", f] []) (hg : Gl X x) (hm : X.mg x = some (.ref C)) (he : PE X e te)
    (hdb : (x == ("__debug__" : Str)) = false := by decide) (hs : starEach [e] X.env = (false, eval e X.env) :: starEach [] X.env := by rfl) :
    PMk X (.Call (.Name x p) [e] [] pos) (tXm C f te) := by
  intro pins s σ H Q I h
  refine pmk_oex T.c T.i T.t F hr hb .nil (fun _ _ _ _ _ _ _ z => z.elim) hg hm (pa_cons (pe_mono he) pa_nil hs) hdb hs rfl pins s σ H Q I ?_
  refine ⟨_, h, fun y H1 q => ⟨by show 1 ≤ 1000; decide, fun a ha => ⟨a, C, y, rfl, T.c, T.n, upd_same, fun dx n1 ne => ⟨rfl, dx, [(f, y)], upd_same, ?_, ?_, ?_⟩⟩⟩⟩
  · exact (upd_ne ne).trans upd_same
  · rw [upd_ne ne] at n1
    exact n1
  · rw [upd_xd ha ne]
    rw [upd_ne ne] at n1
    exact q dx n1

/-- raise C(e) -/
theorem ps_x (hc : X.calm = true) (tk : Takes X W) (hk : PMk X (.Call (.Name x p) [e] [] pos) (tXm C f te)) :
    PS X (.Raise (some (.Call (.Name x p) [e] [] pos)) none pos2) (fun _ σ H => te σ H fun y H1 => ∀ d, H1 d = none → W (.ref C) (some d) σ (upd H1 d (.xd [(f, y)]))) :=
  ps_raise hc tk hk
end
end MV

set_option Elab.async false
set_option linter.all false
set_option maxRecDepth 100000
set_option maxHeartbeats 2000000
/-! MVQ: a lambda handed to a def, where no repr is under way. -/
namespace MV
open PySem PySem.Spec PyProof.Rows L2 LamX
section
variable {X : Cx} {pins : List (Addr × Obj)} {σ : L2.St} {H HZ : Hp} {s s1 : Shared}
/-- x(), the def's parameter a lambda of the caller, no repr under way -/
theorem peg_act {CXg : CXT} {Eg : XK} {Ng : List Str} {qg : Str} {sg : Scope} {g f c' : Addr} {cdg pm ctv : Value} {params : Arguments} {body : Expr} {scope : Scope} {k i : Nat} {a : Str} {pn : List (Addr × Obj)}
    {xe : Value → Shared → Prop} {W : WX} {E : XK} {tb : TE} {p1 p2 : Pos} (hG : X.A.guards = some [])
    (I : Inv X pins σ H s) (L : LamS X.env.scope scope)
    (hf : s.heap.get? f = some (PySem.W.kla_obj "<lambda>" (X.env.qual ++ "<lambda>") params body scope (cloFrom X.env.cells scope.names []) pm c' ctv)) (hfn : H f = none) (hfr : f ∉ frs X.stack)
    (hbind : bindArgs (PySem.W.kla_fn "<lambda>" (X.env.qual ++ "<lambda>") params body scope (cloFrom X.env.cells scope.names []) pm (.ref c') ctv) ⟨[], []⟩ = pure [])
    (tk : Takes ((cxOf CXg X.prog X.w X.K X.mg X.base Ng qg sg g cdg X.A X.stack s H Eg).tr pn xe) W) (hW : ∀ cls d σ' H', E cls d H' → W cls d σ' H')
    (hr : Room (k + 1) (X.A.deeper (envOfC qg sg s.heap.objs.size g cdg)))
    (hbody : ∀ (A : Around) (outer : List Env) (s : Shared) (H : Hp), A.guards = some [] → Room k (A.deeper (lamEnv X scope s.heap.objs.size f c')) → PE (lamCx X A outer s H E scope f c') body tb)
    (hN : Ng[i]? = some a) (hv : Vis sg a) (hd : (a == ("__debug__" : Str)) = false := by decide) (hcd : (a == ("__classdict__" : Str)) = false := by decide) :
    PE ((cxOf CXg X.prog X.w X.K X.mg X.base Ng qg sg g cdg X.A X.stack s H Eg).tr pn xe) (.Call (.Name a p1) [] [] p2)
      (fun σZ HZ Q => σZ[i]? = some (some (.ref f)) ∧ HZ c' = some (CodeO c' (X.env.qual ++ "<lambda>")) ∧ tb σ HZ Q) := by
  constructor
  rintro pinsZ sZ σZ HZ Q IZ ⟨h1, h2, h3⟩
  apply wpAny_Call_Name_kw
  refine thn ((pe_var (pos := p1) (i := i) hN hv hd hcd).run pinsZ sZ σZ HZ (fun v H1 => v = .ref f ∧ H1 = HZ) IZ ⟨.ref f, h1, rfl, rfl⟩) ?_
  rintro u s1 ⟨v, H1, I1, r1, rfl, rfl⟩
  cases r1
  have there := I1.base.keep f _ hf hfn hfr (fun z => nomatch (show f ∈ ([] : List Addr) from z))
  refine PySem.W.callWith_F0 ⟨_, _, _, _, there⟩ ?_
  obtain ⟨⟨oc, vs, t, e1, e2, e3⟩, _, _⟩ := I1.hok c' _ h2
  have run : codeAny (model X.prog X.w) (X.A.deeper (envOfC qg sg s.heap.objs.size g cdg)) (.call (.ref f) ⟨[], []⟩)
      (CR (L2.CX X.prog X.w) (envOfC qg sg s.heap.objs.size g cdg :: X.stack) X.prog X.w H1 s1 Q E) s1 := by
    refine PySem.W.kla_callFunE hr.depth there rfl L.co L.gen rfl ⟨c', oc, vs, t, rfl, e1, e2, e3⟩ ?_
    rw [hbind]
    refine wpAny_pure (wpAny_newFunctionEnv (fun y hy => (L.own y hy).2) (fun y hy => nomatch hy) (fun h₁ hns hsb => ⟨I1.nolimit.fresh _ hsb, ?_⟩) L.kind)
    have kp : ∀ b o, s1.heap.get? b = some o → h₁.get? b = some o := fun b o e =>
      hsb.extBut b o (Nat.ne_of_lt (Heap.lt_size e)) (Heap.get?_push_of_some _ e)
    have J := lam_start2 (E := E) (f := f) (c' := c') (tk := s1.toks + ([] : List (Str × Value)).length) I L I1.env0 hr.hd I1.base hns kp
    refine PySem.W.kla_codeExpr (wpAny_mono ((hbody (X.A.deeper (envOfC qg sg s.heap.objs.size g cdg)) _ s1 H1 hG (hr.deeper _)).run [] _ _ H1 Q J h3) ?_ fun _ _ z => z)
    rintro v s' ⟨w', H', J', rv, q⟩
    exact ⟨w', H', J'.os, J'.bare, J'.base, J'.hok, rv, q⟩
  have out := passes_call tk hW
  refine wpAny_call (codeAny_mono run ?_)
  rintro (e | (_ | _ | _ | u)) s' hq
  · exact out pinsZ σZ H1 s1 e s' I1 hq
  · exact hq.elim
  · exact hq.elim
  · exact hq.elim
  · exact I1.after hq

/-- x(lambda: body), no repr under way -/
theorem peg_lamcall {T : List (Addr × Str)} {TT : (XK → Hp → VK → Prop) → Hp → VK → Prop} {x a : Str} {g c P : Addr} {k : Nat} {pg : Arguments} {bg : List Stmt} {sg : Scope} {dV kV doc pm cdv ct oc : Value} {an od : Option Addr} {osl : Array (Option Value)}
    {Ng : List Str} {params : Arguments} {body : Expr} {scope : Scope} {t : XK → TE} {p lpos pos : Pos} (hG : X.A.guards = some []) (hg : Gl X x) (hm : X.mg x = some (.ref g)) (hk : PySem.W.keepIn X.K (.ref g) = true)
    (lk : X.K.lookup g = some ⟨oc, od, .func (PySem.W.fnOf x x pg bg sg dV kV doc pm an cdv ct), osl⟩) (hcg : PySem.W.codeIn X.K cdv x = true) (hb : L2.Binds X.K (PySem.W.fnOf x x pg bg sg dV kV doc pm an cdv ct) [a] [])
    (Sg : FnScope Ng [a] sg) (hNg : Ng[0]? = some a) (hva : Vis sg a) (hgv : GivesTo X Ng x sg g cdv bg a (X.env.qual ++ "<lambda>") TT)
    (TB : TabB X.base X.mg c P) (hcode : X.env.code = .ref c) (hmT : (P, X.env.qual ++ "<lambda>") ∈ T) (hu : ∀ p ∈ T, p.1 = P → p.2 = X.env.qual ++ "<lambda>") (hr : Room (k + 2) X.A) (L : LamS X.env.scope scope)
    (hdef : defaultsOf params X.env = ([], []))
    (hbind : ∀ (q : Str) (cl : List (Str × Addr)) (pm cv ctv : Value), bindArgs (PySem.W.kla_fn "<lambda>" q params body scope cl pm cv ctv) ⟨[], []⟩ = pure [])
    (hbody : ∀ (A : Around) (outer : List Env) (s : Shared) (H : Hp) (E : XK) (f c' : Addr), A.guards = some [] → Room k (A.deeper (lamEnv X scope s.heap.objs.size f c')) → PE (lamCx X A outer s H E scope f c') body (t E))
    (hdb : (x == ("__debug__" : Str)) = false := by decide) (hd : (a == ("__debug__" : Str)) = false := by decide) (hcd : (a == ("__classdict__" : Str)) = false := by decide) :
    PE X (.Call (.Name x p) [.Lambda params body scope lpos] [] pos) (tLam T TT t) := by
  constructor
  rintro pins s σ H Q I ⟨hT, h⟩
  apply wpAny_Call_Name_kw
  refine ld_glob I hg hm (PySem.W.callWith_K (h₀ := X.base) I.ok.mod.kin hk ?_ (by rfl) (by rfl)) hdb
  show wpAny _ _ (spliced ((false, eval (.Lambda params body scope lpos) X.env) :: backTo pos (starEach [] X.env))) _ _ s
  refine Calls.spliced_cons (lam_make2 I TB hcode hmT hu hT hdef (L.has I.ok) fun f c' pm' ctv H1 s' I1 eN T1 hf hfn hfr hco => Calls.spliced_nil ⟨I1.kIn, ?_⟩)
  have run : codeAny (model X.prog X.w) X.A (.call (.ref g) ⟨[.ref f], []⟩) (CR C8.CX0 X.stack X.prog X.w H1 s' Q C8.E0) s' := by
    refine run_ofS (N := Ng) (ps := [a]) (us := [.ref f]) (vs := [.ref f]) lk hcg Sg hr I1.env0 (hb s' [.ref f] I1.kIn rfl) (.cons rfl .nil) rfl fun hr' => ?_
    obtain ⟨t', ht', q'⟩ := hgv f c' s' H1 Q (fun E H' Q' => t E σ H' Q')
      (fun W pn xe E p1 p2 tk hW => peg_act (i := 0) hG I1 L hf hfn hfr (hbind _ _ _ _ _) tk hW hr' (fun A outer s H hA hr2 => hbody A outer s H E f c' hA hr2) hNg hva hd hcd) hco (h H1 eN T1)
    exact ⟨t', ht'.nox, q'⟩
  refine wpAny_call (codeAny_mono run ?_)
  rintro (e | (_ | _ | _ | u)) s2 hq
  · exact False.elim hq
  · exact hq.elim
  · exact hq.elim
  · exact hq.elim
  · exact I1.after hq
end
end MV

set_option Elab.async false
set_option linter.all false
set_option maxRecDepth 100000
set_option maxHeartbeats 2000000
/-! MVR: several clauses `except C as e`. -/
namespace MV
open PySem PySem.Spec PyProof.Rows L2

/-- a clause's class, and what its suite asks -/
abbrev Cl := Value × (Addr → Value → Option Addr → TS)
/-- what is asked behind a suite whose name stands in slot i: the name is gone -/
def behind (i : Nat) (D : Ends) : Ends := { nx := fun σ H => D.nx (σ.set i none) H, rt := D.rt, bk := fun σ H => D.bk (σ.set i none) H, ct := fun σ H => D.ct (σ.set i none) H }
/-- what the clauses ask of an exception, one after the other -/
def wAsN (K : PySem.W.Frag) (i : Nat) (Wout : WX) (D : Ends) : List Cl → WX
  | [] => Wout
  | (c, ts) :: r => fun cls d σ H => ∃ b, PySem.W.exmOne K cls c = some b ∧ (b = true → ∀ a, H a = none → ts a cls d (behind i D) (σ.set i (some (.ref a))) H) ∧ (b = false → wAsN K i Wout D r cls d σ H)
inductive HdsAs (X : Cx) (n : Str) : List ExceptHandler → List Cl → Prop
  | nil : HdsAs X n [] []
  | cons {x : Str} {c : Value} {ts : Addr → Value → Option Addr → TS} {b₀ : Stmt} {suite : List Stmt} {np pos' : Pos} {hds : List ExceptHandler} {l : List Cl} (hc : Names X x c)
      (hsu : ∀ (a : Addr) (oe : Obj) (cls : Value) (d : Option Addr) (pn : List (Addr × Obj)), Zc cls d oe → (∃ vs, oe.data = .fields vs) → PSs (X.suite a ((a, oe) :: pn)) (b₀ :: suite) (ts a cls d)) (r : HdsAs X n hds l) :
      HdsAs X n (.ExceptHandler (some (.Name x np)) (some n) (b₀ :: suite) pos' :: hds) ((c, ts) :: l)

section
variable {X : Cx} {n : Str} {i : Nat} {body : List Stmt} {h₀ : ExceptHandler} {hds : List ExceptHandler} {l : List Cl} {pos : Pos} {tb : WX → TS} {Wout : WX}
theorem ps_try_asN (hs : X.stack = X.env :: X.outer) (hf : X.env.frame = some X.env.locals) (hN : X.N.Nodup) (hi : X.N[i]? = some n) (hln : X.env.kindOf n = some .local) (tk : Takes X Wout)
    (hb : ∀ (W : WX) (pn : List (Addr × Obj)) (xe : Value → Shared → Prop), Takes (X.tr pn xe) W → PassesOwn (model X.prog X.w) X.A X.env xe → PSs (X.tr pn xe) body (tb W))
    (hh : HdsAs X n (h₀ :: hds) l) : PS X (.Try body (h₀ :: hds) [] [] pos) (fun D σ H => tb (wAsN X.K i Wout D l) D σ H) := by
  constructor
  intro pins s σ H D I h
  have ok := I.ok
  have frames : X.A.frames = some (X.env :: X.outer) := by rw [ok.frames, hs]
  apply wpAny_Try_except
  refine wpAny_mono ((hb (wAsN X.K i Wout D l) (X.pn ++ pins)
    (fun e s₁ => wpAny (model X.prog X.w) X.A (noteFrame e X.env) (fun _ s₂ => wpAny (model X.prog X.w) X.A (setFlight e none) (fun _ s₃ => wpAny (model X.prog X.w) X.A (handleBy e X.env (h₀ :: hds)) (SP X pins D) X.xe s₃) X.xe s₂) X.xe s₁)
    (fun u s' xx => ?_) PassesOwn.looking).run [] s σ H D (I.toTry _) h) ?_ fun _ _ z => z
  · obtain ⟨a, B, sI, pins', σ', H', cls, d, rfl, J', nb, up, sky, na, os, ag, w⟩ := xx
    have J : Inv X pins σ' H' sI := J'.ofTry ok
    have sky' : Sky B (X.env :: X.outer) a (Zc cls d) X.env.locals s'.heap := hs ▸ sky
    refine Sky.land Zc.steady frames hf sky' fun h3 fl3 up3 => ?_
    have J3 : Inv X pins σ' H' { s' with heap := h3 } := J.landed nb fl3.1 (up.trans up3) os ag
    obtain ⟨oe3, vs3, he3, hz3, hd3⟩ := fl3.there
    have nfr : a ∉ frs (X.env :: X.outer) := fun hm => by
      obtain ⟨_, o', e', hnf⟩ := fl3.2.2.1.mem hm
      rw [he3] at e'
      cases e'
      exact hnf _ hd3
    have nL : a ≠ X.env.locals := fun z => nfr (List.mem_filterMap.mpr ⟨X.env, List.mem_cons_self, by rw [hf, z]⟩)
    have nF : a ∉ X.fs := fun hm => by
      obtain ⟨e, he, q⟩ := List.mem_filterMap.mp hm
      exact nfr (List.mem_filterMap.mpr ⟨e, List.mem_cons_of_mem _ he, q⟩)
    have S3 := J3.suite he3 hd3 na nL nF
    have go : ∀ {hds' : List ExceptHandler} {l' : List Cl}, HdsAs X n hds' l' → wAsN X.K i Wout D l' cls d σ' H' →
        wpAny (model X.prog X.w) X.A (handleBy (.ref a) X.env hds') (SP X pins D) X.xe { s' with heap := h3 } := by
      intro hds' l' hk
      induction hk with
      | nil =>
        intro w
        apply wpAny_handleBy_nil
        obtain ⟨_, _, _, oe, vs, T, oT, ts', he, hz, hd, h1, hr⟩ := id fl3
        have fin : wpAny (model X.prog X.w) X.A (setFlight (.ref a) X.env.frame) (fun _ s4 => wpAny (model X.prog X.w) X.A (throw (.ref a) : Sem Flow) (SP X pins D) X.xe s4) X.xe { s' with heap := h3 } := by
          rw [hf]
          exact HandSPX.setFlight_upZ fl3 fun h4 hh4 up4 => wpAny_throw (tk _ _ ⟨a, B, sI, pins, σ', H', cls, d, rfl, J, nb, (up.trans up3).trans up4, .inr (.inr (by rw [hs]; exact hh4)), na, os, ag, w⟩)
        unfold PySem.passOn
        refine wpAny_bind (wpAny_field he hd h1 ?_)
        rw [if_neg (by simp)]
        first
          | exact wpAny_bind (wpAny_pure (wpAny_bind fin))
          | exact wpAny_bind fin
      | @cons x c ts b₀ suite np pos' hds2 l2 hc hsu r ih =>
        rintro ⟨b, hb1, hyes, hno⟩
        refine wpAny_handleBy_cons (codeAny_handlers_test ?_) (by intro q; cases q)
        have LT : PySem.W.Looks (model X.prog X.w) h3 (typeOf (.ref a)) cls := fun A Q E s k q => wpAny_typeOf_ref (k _ _ he3) (by rw [hz3.1]; exact q)
        have LM := PySem.W.exm_one (M := model X.prog X.w) (J3.kIn) LT hb1
        have test : ∀ {Q : Value → Shared → Prop} {E : Value → Shared → Prop}, Q c { s' with heap := h3 } →
            wpAny (model X.prog X.w) (X.A.mark (some (.ref a))) (eval (.Name x np) X.env) Q E { s' with heap := h3 } := by
          intro Q E q
          obtain ⟨hg, hdbg, hm | ⟨hm, hv, hnn⟩⟩ := hc
          · exact ld_glob (X := X.suite a ((a, oe3) :: (X.pn ++ pins))) S3 hg hm q hdbg
          · exact ld_blt (X := X.suite a ((a, oe3) :: (X.pn ++ pins))) S3 hg hm hv q hnn hdbg
        refine test (LM.here ?_)
        cases b with
        | false => exact ih (hno rfl)
        | true =>
          apply codeAny_handlers_suite_as
          refine HandSPX.lands_againZ fl3 fun h4 fl4 up4 => ?_
          have J4 : Inv X pins σ' H' { s' with heap := h4 } := J.landed nb fl4.1 ((up.trans up3).trans up4) os ag
          obtain ⟨oe4, vs4, he4, hz4, hd4⟩ := fl4.there
          have S4 := J4.suite he4 hd4 na nL nF
          refine store_ok (X := X.suite a ((a, oe4) :: (X.pn ++ pins))) (v := .ref a) S4 hN hi (.inl hln) rfl (fun s5 S5 => ?_) (.inr hln)
          refine wpAny_mono ((hsu a oe4 cls d (X.pn ++ pins) hz4 ⟨_, hd4⟩).run [] s5 _ H' _ S5 (hyes rfl a na)) (fun f s6 hsp => ?_) (fun _ _ z => False.elim z)
          have last : ∀ {σ6 : L2.St} {H6 : Hp} {Q : Shared → Prop}, Inv (X.suite a ((a, oe4) :: (X.pn ++ pins))) [] σ6 H6 s6 → (∀ s7, Inv X pins (σ6.set i none) H6 s7 → Q s7) →
              wpAny (model X.prog X.w) X.A (do bindName X.env n .none; unbindBehindTheSuite X.env n pos') (fun _ s7 => Q s7) X.xe s6 := fun S6 hq => gone_ok (S6.unsuite ok) hN hi hln hq
          match f, hsp with
          | .next, ⟨σ6, H6, S6, q6⟩ => exact last S6 fun s7 J7 => ⟨_, _, J7, q6⟩
          | .brk, ⟨σ6, H6, S6, q6⟩ => exact last S6 fun s7 J7 => ⟨_, _, J7, q6⟩
          | .cont, ⟨σ6, H6, S6, q6⟩ => exact last S6 fun s7 J7 => ⟨_, _, J7, q6⟩
          | .ret u, ⟨v6, σ6, H6, S6, r6, q6⟩ => exact last S6 fun s7 J7 => ⟨_, _, _, J7, r6, q6⟩
    exact go hh w
  · intro f s1 hsp
    match f, hsp with
    | .next, ⟨σ', H', J', q⟩ => exact wpAny_execs_nil ⟨σ', H', J'.ofTry ok, q⟩
    | .brk, ⟨σ', H', J', q⟩ => exact ⟨σ', H', J'.ofTry ok, q⟩
    | .cont, ⟨σ', H', J', q⟩ => exact ⟨σ', H', J'.ofTry ok, q⟩
    | .ret u, ⟨v, σ', H', J', r, q⟩ => exact ⟨v, σ', H', J'.ofTry ok, r, q⟩
end
end MV

set_option Elab.async false
set_option linter.all false
set_option maxRecDepth 100000
set_option maxHeartbeats 2000000
/-! MVS: the end of a law whose defs make lambdas: tables of code objects stand in the heap. -/
namespace MV
open PySem PySem.Spec PyProof.Rows L2 LamX

/-- nothing is tracked but the script and tables -/
structure OnlyT (K : PySem.W.Frag) (cs : List (Addr × Addr)) (H : Hp) : Prop where
  k : ∀ b u, H b = some u → K.lookup b = none
  u : ∀ b u, H b = some u → (∃ o xs, u = .frz o (.lst xs)) ∨ (u = .tbl #[] ∧ ∃ p ∈ cs, p.2 = b)

theorem law_coreT {P : Program} {w : World} {K : PySem.W.Frag} {mg mb : Str → Option Value} {k : Nat} {fa a : Addr} {fd : FuncData}
    {x : Str} {sp : Sp} {s₁ : Shared} {H : Hp} {CX : CXT} {cs : List (Addr × Addr)}
    (KX : K.In s₁.heap) (hns : s₁.heap.Ns mainGlobals mg) (hb : s₁.heap.Ns builtinsNs mb) (hbb : ∀ x : Str, x ≠ "__name__" → mb x = bootBuiltins x)
    (hlim : s₁.heap.NoLimit) (hg : s₁.gens = #[]) (hT : ∀ p ∈ cs, s₁.heap.get? p.2 = some { cls := .none, data := .fields #[] })
    (C : ∀ p ∈ cs, PySem.W.CodeHd s₁.heap p.1 p.2)
    (hbm : ∃ (bm : Addr) (ob : Obj), mg "__builtins__" = some (.ref bm) ∧ bm ≠ builtinsNs ∧ s₁.heap.get? bm = some ob ∧ ob.cls = .type "module" ∧ ob.dict = some builtinsNs ∧ ob.data = .plain)
    (hr : Room k callerA)
    (F : ∀ base : Heap, K.In base → base.Ns mainGlobals mg → (∀ p ∈ cs, TabB base mg p.1 p.2) → FnG P w K mg base CX k fa fd [x] sp)
    (hbind : ∀ (s : Shared) (u : Value), BindsTo s fd ⟨[u], []⟩ [(x, u)])
    (hsp : sp [.ref a] H (fun v _ => v = .bl true) fun _ _ _ => False)
    (hCX : ∀ e s', CX [] H s₁ (fun _ _ _ => False) e s' → False)
    (ok : HOk P w H s₁.heap) (only : OnlyT K cs H) :
    codeAny (model P w) callerA (.call (.ref fa) ⟨[.ref a], []⟩)
      (fun r s' => r = .ok (.ret (.bool true)) ∧ OldK s₁.heap s'.heap ∧ s'.os = s₁.os ∧ AllBare s'.gens) s₁ := by
  -- what is neither a list nor an empty table is not tracked
  have free : ∀ {b : Addr} {o : Obj}, s₁.heap.get? b = some o → (∀ vs n, o.data ≠ .seq vs n) → o.data ≠ .fields #[] → H b = none := by
    intro b o e n1 n2
    match q : H b with
    | none => rfl
    | some u =>
      rcases only.u b u q with ⟨ob, xs, rfl⟩ | ⟨rfl, p, hp, rfl⟩
      · obtain ⟨e2, _, its, n, _, e3⟩ := ok b _ q
        rw [e2] at e3
        cases e3
        rw [e2] at e
        cases e
        exact (n1 _ _ rfl).elim
      · rw [hT p hp] at e
        cases e
        exact (n2 rfl).elim
  have ns : ∀ {b : Addr} {m : Str → Option Value}, s₁.heap.Ns b m → (hidT s₁.heap H).Ns b m := by
    rintro b m ⟨o, es, ep, e, d, r⟩
    exact ⟨o, es, ep, hidT_get e (free e (fun _ _ z => by rw [d] at z; cases z) (fun z => by rw [d] at z; cases z)), d, r⟩
  have kin : K.In (hidT s₁.heap H) := by
    intro b o e
    refine hidT_get (KX b o e) ?_
    match q : H b with
    | none => rfl
    | some u => exact absurd e (by rw [only.k b u q]; simp)
  have TB : ∀ p ∈ cs, TabB (hidT s₁.heap H) mg p.1 p.2 := by
    intro p hp
    have here := hT p hp
    constructor
    · obtain ⟨o, us, file, tf, flags, tg, inF, text, tt, e1, r1, r2, r3, r⟩ := C p hp
      refine ⟨o, us, file, tf, flags, tg, inF, text, tt, hidT_get e1 (free e1 (fun _ _ z => by rw [r2] at z; cases z) (fun z => ?_)), r1, r2, r3, r⟩
      rw [r2] at z
      cases z
      simp at r3
    · obtain ⟨bm, ob, b1, b2, b3, b4, b5, b6⟩ := hbm
      refine ⟨bm, ob, b1, b2, ?_, ?_, hidT_get b3 (free b3 (fun _ _ z => by rw [b6] at z; cases z) (fun z => by rw [b6] at z; cases z)), b4, b5, b6⟩
      · rintro rfl
        obtain ⟨o, es, ep, e, hd, _⟩ := hns
        rw [e] at b3
        cases b3
        rw [hd] at b6
        cases b6
      · rintro rfl
        rw [here] at b3
        cases b3
        cases b6
    · intro z
      obtain ⟨o, es, ep, e, hd, _⟩ := hns
      rw [z, here] at e
      cases e
      cases hd
  obtain ⟨ml, l1, l2⟩ := hlim
  have e0 : Env0 P w K mg (hidT s₁.heap H) callerA [] s₁ H :=
    { frames := rfl
      mod := ⟨kin, ns hns, ⟨mb, ns hb, hbb⟩, ⟨ml, ns l1, l2⟩⟩
      bs := fun b o e => of_hidT e
      bsz := Nat.le_of_eq (hidT_size _ _)
      funs := trivial
      frf := fun b z => absurd z List.not_mem_nil
      hok := ok
      bare := .of_eq hg }
  refine codeAny_mono ((F _ kin (ns hns) TB).go callerA [] s₁ H _ [.ref a] [.ref a] _ _ hr rfl e0 (hbind s₁ (.ref a)) (.cons rfl .nil) hsp) ?_
  intro r s' h
  match r, h with
  | .error e, h => exact (hCX e s' h).elim
  | .ok (.ret u), h =>
    obtain ⟨v, H', os, bare, un, hok', rv, q⟩ := h
    have e1 : v = .bl true := q
    subst e1
    have e2 : u = Value.bool true := rv
    subst e2
    have old : ∀ b o, s₁.heap.get? b = some o → s'.heap.get? b = some o ∨ (∃ p ∈ cs, p.2 = b ∧ o = { cls := .none, data := .fields #[] } ∧ ∃ more : Array Value, s'.heap.get? b = some { cls := .none, data := .fields more }) := by
      intro b o e
      match q : H b with
      | none => exact .inl (un.keep b o e q List.not_mem_nil List.not_mem_nil)
      | some z =>
        rcases only.u b z q with ⟨ob, xs, rfl⟩ | ⟨rfl, p, hp, rfl⟩
        · have e3 := (ok b _ q).1
          rw [e] at e3
          cases e3
          exact .inl (hok' b _ (un.frzs b o _ q)).1
        · rw [hT p hp] at e
          cases e
          obtain ⟨more, z⟩ := un.tbls p.2 #[] q
          exact .inr ⟨p, hp, rfl, rfl, _, hok' p.2 _ z⟩
    refine ⟨rfl, ⟨fun b o e => ?_, fun b o e => ?_⟩, os, bare⟩
    · rcases old b o e with z | ⟨p, hp, rfl, rfl, more, z⟩
      · exact .inl z
      · exact .inr (.inl ⟨((C p hp).tab (hT p hp)).isCodeTable, rfl, #[], more, rfl, by rw [Array.empty_append]; exact z⟩)
    · rcases old b o e with z | ⟨p, hp, rfl, rfl, more, z⟩
      · exact ⟨_, z⟩
      · exact ⟨_, z⟩

/-- the heap of a law's start: the script, perhaps, and the tables -/
def startT (s : Option (Addr × HO)) (cs : List (Addr × Addr)) : Hp := fun b => if b ∈ cs.map (·.2) then some (.tbl #[]) else match s with | some (a, o) => if b = a then some o else none | none => none

theorem law_callT {P : Program} {w : World} {K : PySem.W.Frag} {mg mb : Str → Option Value} {k : Nat} {fa a : Addr} {fd : FuncData}
    {x : Str} {sp : Sp} {s₁ : Shared} {vs : List Value} {ns : List Int} {CX : CXT} {cs : List (Addr × Addr)}
    (KX : K.In s₁.heap) (hns : s₁.heap.Ns mainGlobals mg) (hb : s₁.heap.Ns builtinsNs mb) (hbb : ∀ x : Str, x ≠ "__name__" → mb x = bootBuiltins x)
    (hlim : s₁.heap.NoLimit) (hg : s₁.gens = #[]) (hT : ∀ p ∈ cs, s₁.heap.get? p.2 = some { cls := .none, data := .fields #[] }) (nT : ∀ p ∈ cs, K.lookup p.2 = none)
    (C : ∀ p ∈ cs, PySem.W.CodeHd s₁.heap p.1 p.2)
    (hbm : ∃ (bm : Addr) (ob : Obj), mg "__builtins__" = some (.ref bm) ∧ bm ≠ builtinsNs ∧ s₁.heap.get? bm = some ob ∧ ob.cls = .type "module" ∧ ob.dict = some builtinsNs ∧ ob.data = .plain)
    (ha : s₁.heap.get? a = some { cls := .type "list", data := .seq vs.toArray }) (hi : IntsAre vs ns) (hl : ns.length ≤ sizeLine) (hr : Room k callerA)
    (F : ∀ base : Heap, K.In base → base.Ns mainGlobals mg → (∀ p ∈ cs, TabB base mg p.1 p.2) → FnG P w K mg base CX k fa fd [x] sp)
    (hbind : ∀ (s : Shared) (u : Value), BindsTo s fd ⟨[u], []⟩ [(x, u)])
    (hsp : ∀ H : Hp, (∀ p ∈ cs, H p.2 = some (.tbl #[])) → SqL K H a (ns.map V.int) → sp [.ref a] H (fun v _ => v = .bl true) fun _ _ _ => False)
    (hCX : ∀ H e s', CX [] H s₁ (fun _ _ _ => False) e s' → False) :
    codeAny (model P w) callerA (.call (.ref fa) ⟨[.ref a], []⟩)
      (fun r s' => r = .ok (.ret (.bool true)) ∧ OldK s₁.heap s'.heap ∧ s'.os = s₁.os ∧ AllBare s'.gens) s₁ := by
  have rv := vals_ints hi
  have n1 := hi.length
  have mem : ∀ {b}, b ∈ cs.map (·.2) → ∃ p ∈ cs, p.2 = b := fun hb => List.mem_map.mp hb
  have atT : ∀ (z : Option (Addr × HO)) (p : Addr × Addr), p ∈ cs → startT z cs p.2 = some (.tbl #[]) := fun z p hp => if_pos (List.mem_map.mpr ⟨p, hp, rfl⟩)
  have aT : a ∉ cs.map (·.2) := fun z => by
    obtain ⟨p, hp, e⟩ := mem z
    have q := hT p hp
    rw [e, ha] at q
    cases q
  match hk : K.lookup a with
  | some o =>
    have e := (KX a o hk).symm.trans ha
    cases e
    have at_ : ∀ b u, startT none cs b = some u → u = .tbl #[] ∧ ∃ p ∈ cs, p.2 = b := fun b u z => by
      unfold startT at z
      split at z
      · rename_i hb
        cases z
        exact ⟨rfl, mem hb⟩
      · cases z
    refine law_coreT (H := startT none cs) KX hns hb hbb hlim hg hT C hbm hr F hbind (hsp _ (atT none) (.inr ⟨_, vs.toArray, _, hk, rfl, rfl, rfl, ?_, by simpa using rv⟩)) (hCX _) (fun b u z => ?_) ⟨fun b u z => ?_, fun b u z => .inr (at_ b u z)⟩
    · rw [List.size_toArray]
      omega
    · obtain ⟨rfl, p, hp, rfl⟩ := at_ b u z
      exact hT p hp
    · obtain ⟨rfl, p, hp, rfl⟩ := at_ b u z
      exact nT p hp
  | none =>
    have at_ : ∀ b u, startT (some (a, .frz { cls := .type "list", data := .seq vs.toArray } (.lst (ns.map V.int)))) cs b = some u →
        (b = a ∧ u = .frz { cls := .type "list", data := .seq vs.toArray } (.lst (ns.map V.int))) ∨ (u = .tbl #[] ∧ ∃ p ∈ cs, p.2 = b) := fun b u z => by
      unfold startT at z
      split at z
      · rename_i hb
        cases z
        exact .inr ⟨rfl, mem hb⟩
      · dsimp only at z
        split at z
        · rename_i hb
          cases z
          exact .inl ⟨hb, rfl⟩
        · cases z
    have ata : startT (some (a, .frz { cls := .type "list", data := .seq vs.toArray } (.lst (ns.map V.int)))) cs a = some (.frz { cls := .type "list", data := .seq vs.toArray } (.lst (ns.map V.int))) := by
      unfold startT
      rw [if_neg aT]
      exact if_pos rfl
    refine law_coreT (H := startT (some (a, .frz { cls := .type "list", data := .seq vs.toArray } (.lst (ns.map V.int)))) cs) KX hns hb hbb hlim hg hT C hbm hr F hbind
      (hsp _ (atT _) (.inl (.inr ⟨_, ata⟩))) (hCX _) (fun b u z => ?_) ⟨fun b u z => ?_, fun b u z => ?_⟩
    · rcases at_ b u z with ⟨rfl, rfl⟩ | ⟨rfl, p, hp, rfl⟩
      · exact ⟨ha, by rw [List.length_map]; exact hl, vs, _, rv, ha⟩
      · exact hT p hp
    · rcases at_ b u z with ⟨rfl, rfl⟩ | ⟨rfl, p, hp, rfl⟩
      · exact hk
      · exact nT p hp
    · rcases at_ b u z with ⟨rfl, rfl⟩ | h
      · exact .inl ⟨_, _, rfl⟩
      · exact .inr h

/-- what is known of the law's promise where tables stand -/
def LawT (l : PySem.W.OpenLaw) (w : World) (K : PySem.W.Frag) (CX : CXT) (k n : Nat) (x : Str) (mg : Str → Option Value) (fa : Addr) (h : Heap) : Prop :=
  ∃ (fd : FuncData) (cs : List (Addr × Addr)) (sp : Sp), (∀ p ∈ cs, h.get? p.2 = some { cls := .none, data := .fields #[] }) ∧ (∀ p ∈ cs, K.lookup p.2 = none) ∧ (∀ p ∈ cs, PySem.W.CodeHd h p.1 p.2) ∧
    (∀ (s : Shared) (u : Value), BindsTo s fd ⟨[u], []⟩ [(x, u)]) ∧
    (∀ (H : Hp) (a : Addr) (ns : List Int), ns.length ≤ n → (∀ p ∈ cs, H p.2 = some (.tbl #[])) → SqL K H a (ns.map V.int) → sp [.ref a] H (fun v _ => v = .bl true) fun _ _ _ => False) ∧
    ∀ base : Heap, K.In base → base.Ns mainGlobals mg → (∀ p ∈ cs, TabB base mg p.1 p.2) → FnG l.prog w K mg base CX k fa fd [x] sp

/-- the law's row from the promise of its def, the tables of all defs of the text being known to be empty at the start -/
theorem walkT {l : PySem.W.OpenLaw} {n k : Nat} {q : Program} {loose : List Str} {XP : (Str → Option Value) → Heap → Prop} {YP : World → Heap → Prop}
    {d : DefRec} {K : Params → PySem.W.Frag} {CX : World → CXT} {x : Str}
    (hn : l.most = some n) (hn2 : n ≤ sizeLine) (hdf : d.params.defaults = []) (hr : Room k callerA)
    (hY : ∀ (w : World) (h : Heap), YP w h → (K w.params).In h)
    (F : ∀ (w : World) (mg : Str → Option Value) (fa : Addr) (h : Heap), (K w.params).In h → h.Ns mainGlobals mg → mg d.name = some (.ref fa) →
      (∀ (y : Str) (fy : Addr), ((recsOf q).any fun e => e.name == y) = true → mg y = some (.ref fy) → OwnTab (K w.params) fy h) → LawT l w (K w.params) (CX w) k n x mg fa h)
    (hCX : ∀ (w : World) (H : Hp) (s : Shared) (e : Value) (s' : Shared), CX w [] H s (fun _ _ _ => False) e s' → False) :
    PySem.W.WalkO q loose XP YP l.row.toRowW d [] (fun f vs => PySem.call f vs) := by
  refine Att.attach_callB hn hdf ?_
  intro w s₀ s₁ mg mb fa o pm cd doc a vs ns G Y ho hd hcd hmg hobj hints hlen hbits hg
  have KX := hY w _ Y
  have tabs : ∀ (y : Str) (fy : Addr), ((recsOf q).any fun e => e.name == y) = true → mg y = some (.ref fy) → OwnTab (K w.params) fy s₁.heap := by
    intro y fy hy hm c P o1 fd1 e dd vs1 sl k1 k2 k3 k4 k5
    obtain ⟨dL, hdL, hn1⟩ := List.any_eq_true.mp hy
    obtain ⟨a', o', fd', c', P', h1, h2, h3, h4, h5, h6⟩ := G.T.tab dL hdL
    rw [show dL.name = y from beq_iff_eq.mp hn1, hm] at h1
    cases h1
    have g1 := KX _ _ k1
    rw [g1] at h2
    cases h2
    rw [k2] at h3
    cases h3
    rw [k3] at h4
    cases h4
    obtain ⟨⟨oc, vc, e1, _, e3, e4⟩, hP⟩ := h6
    have g2 := KX _ _ k4
    rw [g2] at e1
    cases e1
    cases e3
    rw [k5] at e4
    cases e4
    exact hP
  obtain ⟨fd, cs, sp, hT, nT, C, hb, hsp, hF⟩ := F w mg fa _ KX G.T.g hmg tabs
  exact law_callT KX G.T.g G.T.b G.T.builtins G.T.nolimit hg hT nT C G.T.bmain hobj hints (Nat.le_trans hlen hn2) hr hF hb
    (fun H hH hS => hsp H a ns hlen hH hS) fun H e s' => hCX w H s₁ e s'
end MV

set_option Elab.async false
set_option linter.all false
set_option maxRecDepth 100000
set_option maxHeartbeats 2000000
/-! MVT: in an except suite: isinstance of the caught error, which keeps a field. -/
namespace MV
open PySem PySem.Spec PyProof.Rows L2

/-- isinstance(e, c), e the exception that the suite holds, of the class D, its dict at d -/
def rIsX (K : PySem.W.Frag) (D a d : Addr) : List V → Hp → VK → Prop := fun xs H Q =>
  ∃ (c : V) (cv : Value) (b : Bool) (fs : List (Str × V)), xs = [.ref a, c] ∧ (∀ u, RelV c u → u = cv) ∧ PySem.W.kitOne K (.ref D) cv = some b ∧ H d = some (.xd fs) ∧ Q (.bl b) H
theorem call_isX {X : Cx} {a D d : Addr} {oe : Obj} {pn : List (Addr × Obj)} (C : ExcC X.K D) (hz : Zc (.ref D) (some d) oe) (hf : ∃ vs, oe.data = .fields vs) :
    CallR (X.suite a ((a, oe) :: pn)) (.builtin "isinstance") (rIsX X.K D a d) := by
  rintro pins s σ H xs us Q I r ⟨c, cv, b, fs, rfl, hcv, e, ed, q⟩
  match r with
  | .cons rx (.cons rt .nil) =>
    cases rx
    have ec := hcv _ rt
    subst ec
    obtain ⟨hget, _⟩ := I.pin (a, oe) (List.mem_append.mpr (.inl List.mem_cons_self))
    obtain ⟨vs, hv⟩ := hf
    have hx : ObjOk X.prog X.w H s.heap d (.xd fs) := I.hok d _ ed
    obtain ⟨mA, hns, hr⟩ := hx
    obtain ⟨od, ho, hl⟩ := lookIn_ns hns
    have J : PySem.W.InstAt s.heap a oe D (some od) := ⟨hget, hz.1, by unfold PySem.W.notCls; rw [hv] <;> rfl, by rw [hz.2]; exact ho⟩
    obtain ⟨cd, hcd, _⟩ := PySem.W.any_some C.hd
    exact PySem.W.kia_one (PySem.W.kitx_exc (by rw [hcd]; rfl) C.hg C.hk C.hs C.ha C.hn C.ht C.hm) I.kIn J e (fun z => nomatch z) fun tk => ⟨.bl b, H, I.kept (t' := tk) fun _ _ z => z, rfl, q⟩

/-- .. where the class and the dict are told by the reading -/
def rIsY (K : PySem.W.Frag) (D a : Addr) (cls : Value) (d : Option Addr) : List V → Hp → VK → Prop := fun xs H Q => ∃ dd, cls = .ref D ∧ d = some dd ∧ rIsX K D a dd xs H Q
theorem call_isY {X : Cx} {a D : Addr} {cls : Value} {d : Option Addr} {oe : Obj} {pn : List (Addr × Obj)} (C : ExcC X.K D) (hz : Zc cls d oe) (hf : ∃ vs, oe.data = .fields vs) :
    CallR (X.suite a ((a, oe) :: pn)) (.builtin "isinstance") (rIsY X.K D a cls d) := by
  rintro pins s σ H xs us Q I r ⟨dd, rfl, rfl, h⟩
  exact call_isX C hz hf pins s σ H xs us Q I r h
end MV

set_option Elab.async false
set_option linter.all false
set_option maxRecDepth 100000
set_option maxHeartbeats 2000000
/-! MVU: defs that let exceptions out. -/
namespace MV
open PySem PySem.Spec PyProof.Rows L2
section
variable {P : Program} {w : World} {K : PySem.W.Frag} {mg : Str → Option Value} {base : Heap} {N : List Str} {qual : Str} {scope : Scope} {f : Addr} {cd : Value} {A : Around} {outer : List Env} {s : Shared} {H : Hp} {E : XK}
theorem takes_cx : Takes (cxOf (L2.CX P w) P w K mg base N qual scope f cd A outer s H E) (fun cls d _ H' => E cls d H') :=
  takes_of rfl rfl rfl rfl
/-- what a callee lets out, the def lets out -/
theorem passX : Passes (L2.CX P w) (cxOf (L2.CX P w) P w K mg base N qual scope f cd A outer s H E) E :=
  passes_call takes_cx fun _ _ _ _ h => h
end
section
variable {X : Cx} {W : WX} {E : XK}
/-- .. within the body of a try -/
theorem passT (tk : Takes X W) (h : ∀ cls d σ H, E cls d H → W cls d σ H) : Passes (L2.CX X.prog X.w) X E := passes_call tk h
end

/-- what is taken is taken of frames with all their slots -/
theorem takes_len {X : Cx} {W : WX} (tk : Takes X W) : Takes X (fun cls d σ H => σ.length = X.N.length → W cls d σ H) :=
  fun u s' ⟨a, B, sI, pins, σ, H, cls, d, e, I, nb, up, sky, na, os, ag, w⟩ => tk u s' ⟨a, B, sI, pins, σ, H, cls, d, e, I, nb, up, sky, na, os, ag, w I.len⟩

/-- try: a() / except C as e: .. / rest: what it makes of the lambda's reading -/
def TTas (K : PySem.W.Frag) (Ng : List Str) (i : Nat) (l : List Cl) (tr : TS) : (XK → Hp → VK → Prop) → Hp → VK → Prop := fun tl H Q => ∀ f : Addr,
  tl (fun cls d H' => ∀ σ' : L2.St, σ'.length = Ng.length → wAsN K i (fun _ _ _ _ => False) { nx := tr { nx := fun _ H' => Q .non H', rt := Q }, rt := Q } l cls d σ' H') H
    (fun _ H' => tr { nx := fun _ H' => Q .non H', rt := Q } (L2.start Ng [.ref f]) H')
theorem gives_as {X : Cx} {Ng : List Str} {x a n q : Str} {sg : Scope} {g : Addr} {cdg : Value} {i : Nat} {l : List Cl} {tr : TS} {h₀ : ExceptHandler} {hds : List ExceptHandler} {rest : List Stmt} {p1 p2 p3 p4 : Pos}
    (nd : Ng.Nodup) (hi : Ng[i]? = some n) (hln : sg.names.lookup n = some .local) (h0 : ∀ f : Addr, (L2.start Ng [V.ref f])[0]? = some (some (V.ref f)))
    (hh : ∀ (s : Shared) (H : Hp), HdsAs (cxOf C8.CX0 X.prog X.w X.K X.mg X.base Ng x sg g cdg X.A X.stack s H C8.E0).nox n (h₀ :: hds) l)
    (hr : ∀ (s : Shared) (H : Hp), PSs (cxOf C8.CX0 X.prog X.w X.K X.mg X.base Ng x sg g cdg X.A X.stack s H C8.E0).nox rest tr) :
    LamX.GivesTo X Ng x sg g cdg (.Try [.Expr (.Call (.Name a p1) [] [] p2) p3] (h₀ :: hds) [] [] p4 :: rest) a q (TTas X.K Ng i l tr) := by
  intro f c' s H Q tl act hc h
  refine ⟨_, pss_cons (ps_try_asN (X := (cxOf C8.CX0 X.prog X.w X.K X.mg X.base Ng x sg g cdg X.A X.stack s H C8.E0).nox) (n := n) (i := i) (l := l)
      (tb := fun W D σ H => ∃ Ech : XK, (∀ cls d σ' H', Ech cls d H' → σ'.length = Ng.length → W cls d σ' H') ∧ σ[0]? = some (some (.ref f)) ∧ H c' = some (LamX.CodeO c' q) ∧ tl Ech H (fun _ H' => D.nx σ H'))
      rfl rfl nd hi hln takes_none5 (fun W pn xe tk _ => ?_) (hh s H)) (hr s H), ?_⟩
  · refine ⟨fun pins s' σ H' D I h' => ?_⟩
    obtain ⟨Ech, hW, h1, h2, h3⟩ := h'
    have hp := act _ pn xe Ech p1 p2 (takes_len tk) (fun cls d σ' H' e => hW cls d σ' H' e)
    exact (pss_one (ps_expr (pos := p3) hp)).run pins s' σ H' D I ⟨h1, h2, h3⟩
  · exact ⟨fun cls d H' => ∀ σ' : L2.St, σ'.length = Ng.length → wAsN X.K i (fun _ _ _ _ => False) { nx := tr { nx := fun _ H' => Q .non H', rt := Q }, rt := Q } l cls d σ' H', fun cls d σ' H' e hl => e σ' hl, h0 f, hc, h f⟩
end MV

set_option Elab.async false
set_option linter.all false
set_option maxRecDepth 100000
set_option maxHeartbeats 2000000
/-! MVV: a def whose code object is known (its lambdas lie in that one's table). -/
namespace MV
open PySem PySem.Spec PyProof.Rows L2
section
variable {P : Program} {w : World} {K : PySem.W.Frag} {mg : Str → Option Value} {base : Heap} {CX : CXT} {k : Nat} {f : Addr} {fd : FuncData} {ps : List Str} {sp : Sp}
/-- as Fun, the code object at c -/
structure FunC (K : PySem.W.Frag) (x qual : Str) (st : Stmt) (f : Addr) (fd : FuncData) (c : Addr) : Prop where
  ex : ∃ (oc : Value) (od : Option Addr) (kV doc pm : Value) (an : Option Addr) (ct : Value) (osl : Array (Option Value)),
    fd = PySem.W.fnOf x qual (defArgs st) (defBody st) (defScope st) .none kV doc pm an (.ref c) ct ∧ K.lookup f = some ⟨oc, od, .func fd, osl⟩ ∧ PySem.W.codeIn K (.ref c) qual = true
theorem FunC.g {x qual : Str} {st : Stmt} {N : List Str} {c : Addr} (F : FunC K x qual st f fd c) (S : FnScope N ps (defScope st))
    (ln : ∀ vs H Q E, sp vs H Q E → vs.length = ps.length)
    (hb : ∀ (A : Around) (outer : List Env) (s : Shared) (H : Hp) (vs : List V) (Q : VK) (E : XK),
      Room k (A.deeper (envOfC qual (defScope st) s.heap.objs.size f (.ref c))) →
      (A.deeper (envOfC qual (defScope st) s.heap.objs.size f (.ref c))).guards = some [] → sp vs H Q E →
      ∃ t, PSs (cxOf CX P w K mg base N qual (defScope st) f (.ref c) A outer s H E) (defBody st) t ∧
        t { nx := fun _ H' => Q .non H', rt := Q } (start N vs) H) :
    FnG P w K mg base CX (k + 1) f fd ps sp := by
  obtain ⟨oc, od, kV, doc, pm, an, ct, osl, rfl, lk, hcd⟩ := F.ex
  exact fng_of lk hcd S ln hb
theorem code_row {c Pt : Addr} (h : PySem.W.codeHdIn K c Pt = true) : ∃ (e : Value) (dd : Option Addr) (vs : Array Value) (sl : Array (Option Value)), K.lookup c = some ⟨e, dd, .fields vs, sl⟩ ∧ vs[11]? = some (.ref Pt) := by
  unfold PySem.W.codeHdIn at h
  split at h
  · rename_i dd vs n sl e
    simp only [Bool.and_eq_true] at h
    obtain ⟨⟨⟨⟨⟨h1, _⟩, _⟩, _⟩, _⟩, _⟩ := h
    split at h1
    · rename_i P' e2
      rw [beq_iff_eq.mp h1] at e2
      exact ⟨_, _, _, _, e, e2⟩
    · cases h1
  · cases h
theorem own_tab {x qual : Str} {st : Stmt} {c Pt : Addr} {h : Heap} (O : LamX.OwnTab K f h) (F : FunC K x qual st f fd c) (ch : PySem.W.codeHdIn K c Pt = true) : h.get? Pt = some { cls := .none, data := .fields #[] } := by
  obtain ⟨oc, od, kV, doc, pm, an, ct, osl, rfl, lk, hcd⟩ := F.ex
  obtain ⟨e, dd, vs, sl, e1, e2⟩ := code_row ch
  exact O c Pt _ _ e dd vs sl lk rfl rfl e1 e2
/-- what a law's end wants, from the facts of the text: one table -/
theorem lawT_one {l : PySem.W.OpenLaw} {n : Nat} {fa c Pt : Addr} {x qual y : Str} {st : Stmt} {h : Heap} (X : K.In h) (O : LamX.OwnTab K fa h) (F : FunC K x qual st fa fd c) (ch : PySem.W.codeHdIn K c Pt = true) (nP : K.lookup Pt = none)
    (hb : ∀ (s : Shared) (u : Value), BindsTo s fd ⟨[u], []⟩ [(y, u)])
    (hsp : ∀ (H : Hp) (a : Addr) (ns : List Int), ns.length ≤ n → H Pt = some (.tbl #[]) → SqL K H a (ns.map V.int) → sp [.ref a] H (fun v _ => v = .bl true) fun _ _ _ => False)
    (hF : ∀ base : Heap, LamX.TabB base mg c Pt → FnG l.prog w K mg base CX k fa fd [y] sp) : LawT l w K CX k n y mg fa h :=
  ⟨fd, [(c, Pt)], sp, fun p hp => by rw [List.mem_singleton.mp hp]; exact own_tab O F ch, fun p hp => by rw [List.mem_singleton.mp hp]; exact nP,
    fun p hp => by rw [List.mem_singleton.mp hp]; exact PySem.W.codeHd_of_K X ch, hb, fun H a ns hl hH hS => hsp H a ns hl (hH _ List.mem_cons_self) hS,
    fun base _ _ hT => hF base (hT _ List.mem_cons_self)⟩
end
section
variable {X : Cx} {A : Around} {outer : List Env} {s : Shared} {H : Hp} {E : XK} {scope : Scope} {f c' : Addr}
/-- what a lambda's body lets out -/
theorem passLam : Passes (L2.CX X.prog X.w) (LamX.lamCx X A outer s H E scope f c') E :=
  passes_call (W := fun cls d _ H' => E cls d H') (takes_of rfl rfl rfl rfl) fun _ _ _ _ h => h
end
end MV

set_option Elab.async false
set_option linter.all false
set_option maxRecDepth 100000
set_option maxHeartbeats 2000000
/-! MVW: loops and comprehensions over any walk; enumerate over a list or a tuple; a text repeated; C(k = v). -/
namespace PySem
open Sem (wp)
open Builtin Builtin.Str
/-- enumerate of a tuple -/
theorem mv_meets_enumerate_tup (l : Addr) (items : Array Value) (n : Nat) (od : Option Addr) (sl : Array (Option Value)) :
    Meets (Builtin.«enumerate.__new__» ⟨[.type "enumerate", .ref l], []⟩) (fun _ R s => s.heap.get? l = some { cls := .type "tuple", dict := od, data := .seq items n, slots := sl } ∧
      R (.ok (.ret (.ref (s.heap.push { cls := .type "tuple_iterator", data := .fields #[.ref l, .int 0 0] }).objs.size)))
        { s with heap := (s.heap.push { cls := .type "tuple_iterator", data := .fields #[.ref l, .int 0 0] }).push { cls := .type "enumerate", data := .fields #[.none, .bool false, .ref s.heap.objs.size, rawInt 0, .none, .none] } }) :=
  .of_wp fun prog w A R s h => by
    obtain ⟨hp, g, d, tk, os⟩ := s; obtain ⟨hl, h⟩ := h
    have hsub := sub_enumerate
    have hL : Heap.IsTuple (Shared.heap ⟨hp, g, d, tk, os⟩) l items := ⟨_, hl, rfl, n, rfl⟩
    wp_walk using wpAny_loadPart' hl
    refine wpAny_stack_any fun st => wpAny_pure ?_
    split
    · rename_i c _ _ _ _ _
      cases (c == Value.type "enumerate")
      · wp_walk using wpAny_loadPart' hl, wpAny_pyIter_tuple hL
        exact ⟨_, rfl, h⟩
      · wp_walk using wpAny_loadPart' hl, wpAny_pyIter_tuple hL
        exact ⟨_, rfl, h⟩
    · wp_walk using wpAny_loadPart' hl, wpAny_pyIter_tuple hL
      exact ⟨_, rfl, h⟩
section
variable {prog : Program} {w : World} {A : Around} {E : Value → Shared → Prop} {s : Shared}
theorem mv_call_enumerate_tup {l : Addr} {items : Array Value} {Q : Value → Shared → Prop} (hL : s.heap.IsTuple l items)
    (h : ∀ h', IsEnum h' (s.heap.objs.size + 1) s.heap.objs.size 0 .none → h'.IsTupleIter s.heap.objs.size l 0 → h'.objs.size = s.heap.objs.size + 2 →
      (∀ b o, s.heap.get? b = some o → h'.get? b = some o) → Q (.ref (s.heap.objs.size + 1)) { s with heap := h' }) :
    wpAny (model prog w) A (call (.type "enumerate") [.ref l]) Q E s := by
  obtain ⟨⟨c, dct, dt, sl⟩, hl, hc, n, hd⟩ := hL
  replace hc : c = .type "tuple" := hc
  replace hd : dt = .seq items n := hd
  subst hc hd
  refine callType_new F.called_enumerate (by decide) (F.typeCall_enumerate_1 _) (F.newCall_enumerate_1 _) (fun obj => F.args_object_init_2 obj _) F.entry_enumerate_new
    (mv_meets_enumerate_tup l items n dct sl) ⟨hl, ?_⟩
  have hz : (s.heap.push { cls := .type "tuple_iterator", data := .fields #[.ref l, .int 0 0] }).objs.size = s.heap.objs.size + 1 := Heap.size_push ..
  show _ ∧ _
  rw [hz]
  have he : IsEnum ((s.heap.push { cls := .type "tuple_iterator", data := .fields #[.ref l, .int 0 0] }).push
      { cls := .type "enumerate", data := .fields #[.none, .bool false, .ref s.heap.objs.size, rawInt 0, .none, .none] }) (s.heap.objs.size + 1) s.heap.objs.size 0 .none := by
    have := Heap.get?_push_size (s.heap.push { cls := .type "tuple_iterator", data := .fields #[.ref l, .int 0 0] })
      (o := { cls := .type "enumerate", data := .fields #[.none, .bool false, .ref s.heap.objs.size, rawInt 0, .none, .none] }) rfl
    rw [hz] at this; exact this
  refine ⟨⟨_, he, rfl⟩, h _ he ⟨_, Heap.get?_push_of_some _ (Heap.get?_push_size _ rfl), rfl, rfl⟩ (by rw [Heap.size_push, hz]) fun b o x => Heap.get?_push_of_some _ (Heap.get?_push_of_some _ x)⟩
end
end PySem
namespace MV
open PySem PySem.Spec PySem.Calls PyProof.Rows L2
/-! ### enumerate -/
def IteT (K : PySem.W.Frag) (a : Addr) : It :=
  ⟨fun i H => ∃ (xs : List V) (x : V), SqT K H a xs ∧ xs[i]? = some x, fun i H v H' => ∃ T x, v = .ref T ∧ H T = none ∧ H' = upd H T (.tup [.int (i : Nat), x]) ∧ ∀ xs, SqT K H a xs → xs[i]? = some x, fun i H => ∃ xs : List V, SqT K H a xs ∧ xs.length ≤ i⟩
theorem turn_enumT {P : Program} {w : World} {K : PySem.W.Frag} {elts : List Expr} {kk : Nat} {tpos : Pos} (a e it : Addr) :
    Turn P w K (.Tuple elts kk tpos) (IteT K a) [e, it] e (fun i h => (∃ old, IsEnum h e it ((i : Nat) : Int) old) ∧ h.IsTupleIter it a i ∧ e ≠ it) where
  mem := by simp
  obj := fun i h st b hb => by
    obtain ⟨⟨old, he⟩, ⟨o, ho, hc, hd⟩, _⟩ := st
    have e' : b = e ∨ b = it := by simpa using hb
    rcases e' with z | z
    · rw [z]; exact ⟨_, he, fun v q => nomatch q⟩
    · rw [z]; exact ⟨o, ho, fun v q => by rw [hd] at q; cases q⟩
  keep := fun i h h' st k => let ⟨⟨old, he⟩, hi, hne⟩ := st; ⟨⟨old, k e (by simp) _ he⟩, hi.at fun o q => k it (by simp) o q, hne⟩
  item := by
    intro X hP hw hK hc i pins s σ H E I hf st hg
    subst hP hw hK
    obtain ⟨⟨old, he⟩, hit, hne⟩ := st
    obtain ⟨xs, x, hq, hx⟩ := hg
    obtain ⟨its, rv, p, hz⟩ := I.tuple hq
    have pT : s.heap.IsTuple a its.toArray := p
    obtain ⟨u, hu, ru⟩ := rv.get hx
    have hel : e < s.heap.objs.size := Heap.lt_size he
    have hil : it < s.heap.objs.size := by obtain ⟨_, q, _⟩ := hit; exact Heap.lt_size q
    have hai : a ≠ it := by
      obtain ⟨o, e1, c1, _⟩ := pT
      obtain ⟨o', e2, c2, _⟩ := hit
      rintro rfl
      rw [e1] at e2
      cases e2
      rw [c1] at c2
      exact absurd (Value.type.inj c2) (by decide)
    have hea : e ≠ a := by
      obtain ⟨o, e1, c1, _⟩ := pT
      rintro rfl
      have he' := he
      unfold IsEnum at he'
      rw [e1] at he'
      cases he'
      exact absurd (Value.type.inj c1) (by decide)
    have hin : i < its.toArray.size := by
      have := (List.getElem?_eq_some_iff.mp hu).1
      simpa using this
    refine wpAny_pyNext_enum_itemD (Draws.tuple (A := X.A.in1) (I.ok.hd hc) it a hai its.toArray) he ⟨hit, pT⟩ hin hne (by simp [hne, hea]) fun v h' tk hv ho hst hT hsz hk => ?_
    have ev : v = u := by
      have e1 : its[i]? = some v := by simpa using hv
      rw [hu] at e1
      exact (Option.some.inj e1).symm
    subst ev
    obtain ⟨hit', _⟩ := hst
    refine ⟨_, rfl, wpAny_letOwnedTupleGo_enum (s := { s with heap := h', toks := tk + 1 }) ho fun h'' he' sb => ?_⟩
    have hT2 : h''.get? s.heap.objs.size = some { cls := .type "tuple", data := .seq #[.int i tk, v] } := (sb.2 _ (Nat.ne_of_gt hel)).trans hT
    have new : ObjOk X.prog X.w (upd H s.heap.objs.size (.tup [.int (i : Nat), x])) h'' s.heap.objs.size (.tup [.int (i : Nat), x]) :=
      ⟨by show 2 ≤ sizeLine; decide, [.int i tk, v], .cons ⟨_, rfl⟩ (.cons ru .nil), ⟨_, hT2, rfl, _, rfl⟩⟩
    have I1 : Inv X pins σ (upd H s.heap.objs.size (.tup [.int (i : Nat), x])) { s with heap := h'', toks := tk + 1 } :=
      I.turnedNew (ch := [e, it]) (fun b ob hb q => (sb.2 b (fun z => hb (by simp [z]))).trans (hk b ob (fun z => hb (by simp [z])) (fun z => hb (by simp [z])) q)) hf (Nat.le_refl _) new
    refine ⟨.ref s.heap.objs.size, _, I1, rfl, ⟨_, x, rfl, I.hok.fresh (Nat.le_refl _), rfl, fun ys hy => by rw [I.tuple_inj hy hq]; exact hx⟩, ⟨⟨v, ?_⟩, hit'.at fun o q => (sb.2 it (Ne.symm hne)).trans q, hne⟩, fun b hb => ?_⟩
    · have e1 : ((i + 1 : Nat) : Int) = (i : Int) + 1 := by omega
      rw [e1]; exact he'
    · have hb' : b < s.heap.objs.size := by
        have e' : b = e ∨ b = it := by simpa using hb
        rcases e' with z | z
        · rw [z]; exact hel
        · rw [z]; exact hil
      rw [upd_ne (Nat.ne_of_lt hb')]
      exact (hf b hb).1
  done := by
    intro X hP hw hK hc i pins s σ H E I hf st hg
    subst hP hw hK
    obtain ⟨⟨old, he⟩, hit, hne⟩ := st
    obtain ⟨xs, hq, hx⟩ := hg
    obtain ⟨its, rv, p, hz⟩ := I.tuple hq
    have pT : s.heap.IsTuple a its.toArray := p
    obtain ⟨f0, f1, f2, f3, f4, f5⟩ := hf it (by simp)
    have hl := rv.length
    have hai : a ≠ it := by
      obtain ⟨o, e1, c1, _⟩ := pT
      obtain ⟨o', e2, c2, _⟩ := hit
      rintro rfl
      rw [e1] at e2
      cases e2
      rw [c1] at c2
      exact absurd (Value.type.inj c2) (by decide)
    have hnone : its.toArray[i]? = none := by
      have : its[i]? = none := List.getElem?_eq_none_iff.mpr (by omega)
      simpa using this
    have hT : s.TypeIs (.ref e) "enumerate" := ⟨_, he, rfl⟩
    unfold pyNext
    refine wpAny_bind (wpAny_attempt (wpAny_callSpecial?_slot (name := Str.ofString "__next__") hT F.slot_enumerate_next
      (wpAny_call_entry F.slot_enumerate_next hT F.entry_enumerate_next ?_ (F.args_enumerate_next_1 _))))
    show wpAny _ _ (field (.ref e) 2 >>= _) _ _ _
    refine wpAny_bind (wpAny_field he rfl (x := .ref it) rfl ?_)
    refine wpAny_bind (wpAny_nextOf_tuple_end (A := X.A.in1) (I.ok.hd hc) hit pT hnone fun h' x eb hx' => ?_)
    obtain ⟨o, ho, hc'⟩ := hx'
    refine wpAny_bind (wpAny_isInstance (T := "StopIteration") (b := true) ⟨o, ho, hc'⟩ isSubtype_stop ?_)
    exact wpAny_pure ⟨rfl, I.turned (t' := s.toks) (fun b o hb q => eb b o hb q) f0 f1 f3 f4 f5⟩
  self := fun A i s Q E st h => let ⟨⟨_, he⟩, _⟩ := st; wpAny_pyIter_enum he h
/-- enumerate(x), x a list or a tuple -/
def iEnumA (K : PySem.W.Frag) (ta : TA) : TI := fun σ H R => ta σ H fun vs H1 => ∃ a xs, vs = [.ref a] ∧ ((SqL K H1 a xs ∧ R (Ite K a) H1) ∨ (SqT K H1 a xs ∧ R (IteT K a) H1))
theorem pi_enumA {X : Cx} {e : Expr} {ta : TA} {p pos tpos : Pos} {elts : List Expr} {kk : Nat} (hg : Gl X "enumerate") (hm : X.mg "enumerate" = none) (ha : PA X [e] ta) (hs : starEach [e] X.env = [(false, eval e X.env)] := by rfl) :
    PI X (.Tuple elts kk tpos) (.Call (.Name "enumerate" p) [e] [] pos) (iEnumA X.K ta) := by
  refine ⟨fun pins s σ H R I h => ?_⟩
  refine Call_ (ld_blt I hg hm boot_enumerate (PyProof.Rows.callWith_type1 (thn (ha.run pos pins s σ H _ I h) fun us s1 ⟨vs, H1, I1, r1, q1⟩ => ?_) hs rfl))
  obtain ⟨a, xs, ex, q⟩ := q1
  subst ex
  cases r1 with
  | cons r rr =>
    cases rr
    cases r
    have fp : ∀ b ∈ [s1.heap.objs.size + 1, s1.heap.objs.size], s1.heap.objs.size ≤ b := fun b hb => by
      have e' : b = s1.heap.objs.size + 1 ∨ b = s1.heap.objs.size := by simpa using hb
      rcases e' with z | z
      · rw [z]; exact Nat.le_add_right _ _
      · rw [z]; exact Nat.le_refl _
    rcases q with ⟨hq, q⟩ | ⟨hq, q⟩
    · obtain ⟨its, rv, p', hz⟩ := I1.list hq
      refine call_enumerate_list p'.isList fun h' he hit hsz hk => wpAny_pyIter_enum he ?_
      have I2 : Inv X pins σ H1 { s1 with heap := h' } := I1.kept (t' := s1.toks) hk
      exact ⟨s1.heap.objs.size + 1, [s1.heap.objs.size + 1, s1.heap.objs.size], _, _, H1, rfl, I2, turn_enum a (s1.heap.objs.size + 1) s1.heap.objs.size, ⟨⟨.none, he⟩, hit, Nat.succ_ne_self _⟩, fun b hb => I1.fpOk (fp b hb) (I1.hok.fresh (fp b hb)), q⟩
    · obtain ⟨its, rv, p', hz⟩ := I1.tuple hq
      have pT : s1.heap.IsTuple a its.toArray := p'
      refine mv_call_enumerate_tup pT fun h' he hit hsz hk => wpAny_pyIter_enum he ?_
      have I2 : Inv X pins σ H1 { s1 with heap := h' } := I1.kept (t' := s1.toks) hk
      exact ⟨s1.heap.objs.size + 1, [s1.heap.objs.size + 1, s1.heap.objs.size], _, _, H1, rfl, I2, turn_enumT a (s1.heap.objs.size + 1) s1.heap.objs.size, ⟨⟨.none, he⟩, hit, Nat.succ_ne_self _⟩, fun b hb => I1.fpOk (fp b hb) (I1.hok.fresh (fp b hb)), q⟩
theorem walk_enumT {K : PySem.W.Frag} {a : Addr} {xs : List V} : Walk (IteT K a) xs.length (fun H => SqT K H a xs) (YPair (fun i => some (.int (i : Nat))) (fun i => xs[i]?)) := by
  refine ⟨fun i _ hi q => ⟨xs, xs[i], q, by simp [hi]⟩, fun _ q => ⟨xs, q, Nat.le_refl _⟩, fun i H v H' _ q y => ?_⟩
  obtain ⟨T, x, h1, h2, h3, h4⟩ := y
  exact ⟨T, .int (i : Nat), x, h1, h2, h3, rfl, h4 xs q⟩
end MV

set_option Elab.async false
set_option linter.all false
set_option maxRecDepth 100000
set_option maxHeartbeats 2000000
/-! MVX: loops and comprehensions over any walk as readings; a text repeated; C(k = v); try .. except one class. -/
namespace MV
open PySem PySem.Spec PySem.Calls PyProof.Rows L2 TL
/-! ### loops, comprehensions -/
section
variable {K : PySem.W.Frag} {σ : L2.St} {H H1 : Hp} {tl te : TE} {ta : TA} {g : TG} {tb : TS} {D : Ends} {Q : VK} {tt : TT} {vs : List Nat} {J : It} {n : Nat} {G : Hp → Prop} {Y : Nat → Hp → V → Hp → Prop} {R : It → Hp → Prop} {a : Addr} {xs : List V} {x : V}
def ForJ (g : TG) (tb : TS) (D : Ends) (σ : L2.St) (J : It) (H : Hp) : Prop := ∃ W : Nat → Nat → L2.St → Hp → Prop, (∃ m, W 0 m σ H) ∧ ∀ i m σ H, W i m σ H →
  (J.stop i H ∧ D.nx σ H) ∨ (J.go i H ∧ ∃ N : L2.St → Hp → Prop, (∀ σ' H', N σ' H' → ∃ m', m' < m ∧ W (i + 1) m' σ' H') ∧ ∀ x H', J.yld i H x H' → g x σ H' fun σ2 H2 => tb { D with nx := N, ct := N, bk := D.nx } σ2 H2)
theorem r_for {wi : TI} (q : wi σ H (ForJ g tb D σ)) : tFor wi g tb D σ H := q
theorem ForJ.ok (w : Walk J n G Y) (Pv : Nat → L2.St → Hp → Prop) (h0 : Pv 0 σ H) (hG : ∀ i σ H, i ≤ n → Pv i σ H → G H)
    (hs : ∀ i x σ H H', i < n → Pv i σ H → Y i H x H' → g x σ H' fun σ2 H2 => tb { D with nx := Pv (i + 1), ct := Pv (i + 1), bk := D.nx } σ2 H2) (hd : ∀ σ H, Pv n σ H → D.nx σ H) : ForJ g tb D σ J H :=
  for_it w Pv h0 hG hs hd
def LcJ (g : TG) (tt : TT) (te : TE) (vs : List Nat) (σ : L2.St) (Q : VK) (J : It) (H1 : Hp) : Prop := ∀ D, H1 D = none → ∃ W : Nat → Nat → Hp → Prop, (∃ m, W 0 m (upd H1 D (.lst []))) ∧ ∀ i m H, W i m H →
  (J.stop i H ∧ Q (.ref D) H) ∨ (J.go i H ∧ ∃ Nx : Hp → Prop, (∀ H', Nx H' → ∃ m', m' < m ∧ W (i + 1) m' H') ∧ ∀ x H', J.yld i H x H' → g x (wipe σ vs) H' fun σ2 H2 => wipe σ2 vs = wipe σ vs ∧ tt σ2 H2 fun b H3 =>
    if b = true then te σ2 H3 fun y H4 => ∃ acc, H4 D = some (.lst acc) ∧ acc.length < sizeLine ∧ Nx (upd H4 D (.lst (acc ++ [y]))) else Nx H3)
theorem r_lc {wi : TI} (q : wi σ H (LcJ g tt te vs σ Q)) : tLc wi g tt te vs σ H Q := q
theorem LcJ.ok (w : Walk J n G Y) (k : ∀ D, H1 D = none → ∃ Pv : Nat → Hp → Prop, Pv 0 (upd H1 D (.lst [])) ∧ (∀ i H, i ≤ n → Pv i H → G H) ∧
    (∀ i x H H', i < n → Pv i H → Y i H x H' → g x (wipe σ vs) H' fun σ2 H2 => wipe σ2 vs = wipe σ vs ∧ tt σ2 H2 fun b H3 =>
      if b = true then te σ2 H3 fun y H4 => ∃ acc, H4 D = some (.lst acc) ∧ acc.length < sizeLine ∧ Pv (i + 1) (upd H4 D (.lst (acc ++ [y]))) else Pv (i + 1) H3) ∧ ∀ H, Pv n H → Q (.ref D) H) : LcJ g tt te vs σ Q J H1 := by
  intro D hD
  obtain ⟨Pv, h0, hG, hs, hd⟩ := k D hD
  exact lc_it w Pv h0 hG hs hd
/-- what a step leaves, seen from a heap in which D is free -/
theorem Stp.up0 {t : Option Addr} {D : Addr} {o : HO} (hD : H1 D = none) : Stp t H1 (upd H1 D o) := (Stp.refl t H1).put hD
theorem tp_ne {t : Option Addr} {D : Addr} (hD : H1 D = none) (ht : ∀ b, t = some b → H1 b ≠ none) : t = some D → False := fun e => ht D e hD
theorem Stp.at_new {t : Option Addr} {H H' : Hp} {D : Addr} {xs : List V} (s : Stp t H H') (n : t = some D → False) (h : H D = some (.lst xs)) : H' D = some (.lst xs) :=
  s.ge _ _ (fun e => (n e).elim) h
/-- a comprehension whose items are told by P (i turns, what is kept so far); t: the tape, if its steps draw -/
theorem LcJ.run (t : Option Addr) (ht : ∀ b, t = some b → H1 b ≠ none) (w : Walk J n G Y) (hG : ∀ H', Stp t H1 H' → G H') (hn : n < sizeLine) (P : Nat → List V → Hp → Prop) (p0 : P 0 [] H1)
    (pl : ∀ i acc H, P i acc H → acc.length ≤ i)
    (pm : ∀ i acc H H' (D : Addr), H1 D = none → P i acc H → (∀ b o, b ≠ D → H b = some o → H' b = some o) → P i acc H')
    (hs : ∀ i x H H' acc, i < n → Stp t H1 H → P i acc H → Y i H x H' → ∀ (Y1 : VK) (N1 : Hp → Prop), (∀ y H4, Stp t H H4 → P (i + 1) (acc ++ [y]) H4 → Y1 y H4) → (∀ H3, Stp t H H3 → P (i + 1) acc H3 → N1 H3) →
      g x (wipe σ vs) H' fun σ2 H2 => wipe σ2 vs = wipe σ vs ∧ tt σ2 H2 fun b H3 => if b = true then te σ2 H3 Y1 else N1 H3)
    (hd : ∀ p H2 acc, Stp t H1 H2 → H2 p = some (.lst acc) → H1 p = none → P n acc H2 → Q (.ref p) H2) : LcJ g tt te vs σ Q J H1 := by
  refine LcJ.ok w fun D hD => ⟨fun i H => Stp t H1 H ∧ ∃ acc, H D = some (.lst acc) ∧ P i acc H, ⟨Stp.up0 hD, [], upd_same, pm _ _ _ _ D hD p0 fun b o hb e => by rw [upd_ne hb]; exact e⟩, fun i H _ pv => hG H pv.1, fun i x H H' hi pv y => ?_, fun H pv => ?_⟩
  · obtain ⟨s, acc, ha, p⟩ := pv
    refine hs i x H H' acc hi s p y _ _ (fun v H4 s4 p4 => ?_) (fun H3 s3 p3 => ⟨s.trans s3, acc, s3.at_new (tp_ne hD ht) ha, p3⟩)
    have hl := pl _ _ _ p
    refine ⟨acc, s4.at_new (tp_ne hD ht) ha, by omega, (s.trans s4).put hD, _, upd_same, pm _ _ _ _ D hD p4 fun b o hb e => by rw [upd_ne hb]; exact e⟩
  · obtain ⟨s, acc, ha, p⟩ := pv
    exact hd D H acc s ha hD p
/-- .. the values themselves are told: those with keep, each f of its turn -/
theorem LcJ.flat (w : Walk J n G Y) (hG : ∀ H', Stp none H1 H' → G H') (hn : n < sizeLine) (keep : Nat → Bool) (f : Nat → V)
    (hs : ∀ i x H H', i < n → Stp none H1 H → Y i H x H' → ∀ (Y1 : VK) (N1 : Hp → Prop), (keep i = true → ∀ H4, Stp none H H4 → Y1 (f i) H4) → (keep i = false → ∀ H3, Stp none H H3 → N1 H3) →
      g x (wipe σ vs) H' fun σ2 H2 => wipe σ2 vs = wipe σ vs ∧ tt σ2 H2 fun b H3 => if b = true then te σ2 H3 Y1 else N1 H3)
    (hd : ∀ p H2, Stp none H1 H2 → H2 p = some (.lst (((List.range n).filter keep).map f)) → H1 p = none → Q (.ref p) H2) : LcJ g tt te vs σ Q J H1 := by
  refine LcJ.run none (fun _ e => nomatch e) w hG hn (fun i acc _ => acc = ((List.range i).filter keep).map f) rfl (fun i acc _ e => ?_) (fun _ _ _ _ _ _ e _ => e) (fun i x H H' acc hi s e y Y1 N1 h1 h2 => ?_) (fun p H2 acc s h np e => ?_)
  · subst e
    rw [List.length_map]
    exact Nat.le_trans (List.length_filter_le _ _) (by rw [List.length_range]; exact Nat.le_refl _)
  · subst e
    refine hs i x H H' hi s y Y1 N1 (fun k H4 s4 => h1 _ H4 s4 ?_) (fun k H3 s3 => h2 H3 s3 ?_)
    · rw [List.range_succ, List.filter_append, List.map_append, List.filter_cons, if_pos k]; rfl
    · rw [List.range_succ, List.filter_append, List.map_append, List.filter_cons, if_neg (by rw [k]; decide)]; simp
  · subst e
    exact hd p H2 s h np
end
theorem SqL.mvN {K : PySem.W.Frag} {H H' : Hp} {a : Addr} {xs : List V} (s : Stp none H H') (h : SqL K H a xs) : SqL K H' a xs := by
  rcases h with (h | ⟨o, h⟩) | h
  · exact .inl (.inl (s.all _ _ h))
  · exact .inl (.inr ⟨o, s.all _ _ h⟩)
  · exact .inr h
section
variable {K : PySem.W.Frag} {σ : L2.St} {H : Hp} {ta : TA} {te : TE} {R : It → Hp → Prop} {a : Addr} {xs : List V} {x : V} {i j : Int}
/-- what is walked is a list, a tuple: already read -/
def ItL (K : PySem.W.Frag) (x : V) (H1 : Hp) (R : It → Hp → Prop) : Prop := ∃ a, x = .ref a ∧ (∃ xs, SqL K H1 a xs) ∧ R (Itl K a) H1
def ItT (K : PySem.W.Frag) (x : V) (H1 : Hp) (R : It → Hp → Prop) : Prop := ∃ a, x = .ref a ∧ (∃ xs, SqT K H1 a xs) ∧ R (Itt K a) H1
theorem r_iList (q : te σ H fun x H1 => ItL K x H1 R) : iList K te σ H R := q
theorem r_iTup (q : te σ H fun x H1 => ItT K x H1 R) : iTup K te σ H R := q
theorem it_l (h : SqL K H a xs) (q : R (Itl K a) H) : ItL K (.ref a) H R := ⟨a, rfl, ⟨xs, h⟩, q⟩
theorem it_t (h : SqT K H a xs) (q : R (Itt K a) H) : ItT K (.ref a) H R := ⟨a, rfl, ⟨xs, h⟩, q⟩
def ItS (x : V) (H1 : Hp) (R : It → Hp → Prop) : Prop := ∃ z, x = .str z ∧ R (Its z) H1
theorem r_iStr (q : te σ H fun x H1 => ItS x H1 R) : iStr te σ H R := q
theorem it_s {z : Str} (q : R (Its z) H) : ItS (.str z) H R := ⟨z, rfl, q⟩
def ItR1 (vs : List V) (H1 : Hp) (R : It → Hp → Prop) : Prop := ∃ j : Int, vs = [.int j] ∧ -(2 ^ 62) ≤ j ∧ j < 2 ^ 62 ∧ R (Itr 0 j.toNat) H1
theorem r_iRng1 (q : ta σ H fun vs H1 => ItR1 vs H1 R) : iRng1 ta σ H R := q
theorem it_r1 (h0 : 0 ≤ j) (h1 : j ≤ 1000000) (q : R (Itr 0 j.toNat) H) : ItR1 [.int j] H R := ⟨j, rfl, by omega, by omega, q⟩
def ItR2 (vs : List V) (H1 : Hp) (R : It → Hp → Prop) : Prop := ∃ i j : Int, vs = [.int i, .int j] ∧ (-(2 ^ 62) ≤ i ∧ i < 2 ^ 62 ∧ -(2 ^ 62) ≤ j ∧ j < 2 ^ 62) ∧ R (Itr i (j - i).toNat) H1
theorem r_iRng2 (q : ta σ H fun vs H1 => ItR2 vs H1 R) : iRng2 ta σ H R := q
theorem it_r2 (h0 : -(2 ^ 62) ≤ i) (h1 : i < 2 ^ 62) (h2 : -(2 ^ 62) ≤ j) (h3 : j < 2 ^ 62) (q : R (Itr i (j - i).toNat) H) : ItR2 [.int i, .int j] H R := ⟨i, j, rfl, ⟨h0, h1, h2, h3⟩, q⟩
def ItE (K : PySem.W.Frag) (vs : List V) (H1 : Hp) (R : It → Hp → Prop) : Prop := ∃ a xs, vs = [.ref a] ∧ ((SqL K H1 a xs ∧ R (Ite K a) H1) ∨ (SqT K H1 a xs ∧ R (IteT K a) H1))
theorem r_iEnumA (q : ta σ H fun vs H1 => ItE K vs H1 R) : iEnumA K ta σ H R := q
/-- enumerate is walked, over a list or over a tuple -/
theorem it_e (hx : SqL K H a xs ∨ SqT K H a xs) (q : ∀ (J : It) (G : Hp → Prop), Walk J xs.length G (YPair (fun i => some (.int (i : Nat))) (fun i => xs[i]?)) → (∀ H', Stp none H H' → G H') → R J H) : ItE K [.ref a] H R := by
  rcases hx with h | h
  · exact ⟨a, xs, rfl, .inl ⟨h, q _ _ walk_enum fun H' s => SqL.mvN s h⟩⟩
  · exact ⟨a, xs, rfl, .inr ⟨h, q _ _ walk_enumT fun H' s => SqT.mvS s h⟩⟩
end
/-! ### texts added -/
def rAddS : R2 := fun x y H Q => ∃ i j, x = .str i ∧ y = .str j ∧ i.length + j.length ≤ sizeLine ∧ Q (.str (i ++ j)) H
theorem op_addS {X : Cx} : OpR X (binaryOp .Add) rAddS := op_add_str
theorem r_addS {s z : Str} {H : Hp} {Q : VK} (h : s.length + z.length ≤ 100000) (q : Q (.str (s ++ z)) H) : rAddS (.str s) (.str z) H Q := ⟨s, z, rfl, rfl, Nat.le_trans h (by decide), q⟩
/-! ### a text repeated -/
/-- z * k -/
def repS (z : Str) (k : Int) : Str := if k < 1 then Str.empty else if (k == 1 || z.length == 0) = true then z else ⟨(List.replicate k.toNat z.cps).foldl (· ++ ·) #[]⟩
theorem cat_fold (l : List (Array Nat)) : ∀ a : Array Nat, (l.foldl (· ++ ·) a).toList = a.toList ++ (l.map Array.toList).flatten := by
  induction l with
  | nil => intro a; simp
  | cons b r ih => intro a; rw [List.foldl_cons, ih]; simp
theorem tl_repS (z : Str) {k : Int} : tl (repS z k) = (List.replicate k.toNat (tl z)).flatten := by
  unfold repS
  split
  · rename_i c
    have e : k.toNat = 0 := by omega
    rw [e]; rfl
  · rename_i c
    split
    · rename_i c2
      simp only [Bool.or_eq_true, beq_iff_eq] at c2
      rcases c2 with c2 | c2
      · subst c2
        show tl z = [tl z].flatten
        simp
      · have e : tl z = [] := (len0_tl z).mp c2
        rw [e]
        simp
    · show (List.foldl (· ++ ·) (#[] : Array Nat) (List.replicate k.toNat z.cps)).toList = _
      rw [cat_fold, List.map_replicate]
      rfl
theorem len_repS (z : Str) {k : Int} : (repS z k).length = k.toNat * z.length := by
  rw [len_tl, tl_repS, len_tl]
  simp
def rMulS : R2 := fun x y H Q => ∃ z k, x = .str z ∧ y = .int k ∧ k ≤ 1000 ∧ -1000 ≤ k ∧ z.length ≤ 1000 ∧ Q (.str (repS z k)) H
theorem op_mulS {X : Cx} : OpR X (binaryOp .Mult) rMulS := by
  intro pins s σ H x y v u Q I rx ry h
  obtain ⟨z, k, rfl, rfl, h1, h0, h2, q⟩ := h
  obtain ⟨t, rfl⟩ := rx
  obtain ⟨t2, rfl⟩ := ry
  have hk : k.toNat ≤ 1000 := by omega
  have hm : z.length * k.toNat ≤ 1000 * 1000 := Nat.mul_le_mul h2 hk
  refine P.mul_str ?_ (fun _ _ => ?_) (fun _ _ => ?_) ?_
  · rw [decide_eq_false (by omega), decide_eq_false (by omega)]; rfl
  · have : (1000 : Int) ≤ (2 ^ 63 - 1) / k := by
      rw [Int.le_ediv_iff_mul_le (by omega)]
      omega
    omega
  · exact decide_eq_false (by rw [show sizeLine = sizeLine from rfl]; exact Nat.not_lt.mpr (Nat.le_trans hm (by decide)))
  · unfold repS at q
    split
    · rename_i c
      rw [if_pos c] at q
      exact ⟨by decide, V.str Str.empty, H, I.tok _, ⟨_, rfl⟩, q⟩
    · rename_i c
      rw [if_neg c] at q
      split
      · rename_i c2
        rw [if_pos c2] at q
        exact ⟨V.str z, H, I, ⟨_, rfl⟩, q⟩
      · rename_i c2
        rw [if_neg c2] at q
        refine ⟨?_, V.str _, H, I.tok _, ⟨_, rfl⟩, q⟩
        have e := len_repS z (k := k)
        unfold repS at e
        rw [if_neg c, if_neg c2] at e
        rw [e, Nat.mul_comm]
        exact Nat.le_trans hm (by decide)
/-- a name of the module, by its value -/
theorem peg_gc {X : Cx} {x : Str} {pos : Pos} {v : V} (hg : Gl X x) (h : ∃ u, X.mg x = some u ∧ RelV v u) (hd : (x == ("__debug__" : Str)) = false := by decide) : PE X (.Name x pos) (tC v) := by
  obtain ⟨u, hm, r⟩ := h
  exact pe_glob hg hm r hd
/-! ### C(k = v) -/
section
variable {X : Cx} {CX : CXT} {k n : Nat} {f C : Addr} {fd : FuncData} {ps ks : List Str} {sp : Sp} {E : XK} {x : Str} {p pos : Pos} {e : Expr} {es : List Expr} {kws : List Keyword} {t tk : TA} {g : List Value → List Value → List Value} {gV : List V → List V → List V}
theorem runGK {A : Around} {pins : List (Addr × Obj)} {σ : L2.St} {H : Hp} {s : Shared} {Q : VK} {args : Args} {us : List Value} {vs : List V}
    (F : FnG X.prog X.w X.K X.mg X.base CX k f fd ps sp) (hr : Room k A) (hg : A.guards = some [])
    (e0 : Env0 X.prog X.w X.K X.mg X.base A X.stack s H) (hb : BindsTo s fd args (ps.zip us)) (hx : Passes CX X E)
    (I : Inv X pins σ H s) (r : Vals vs us) (h : sp vs H Q E) :
    codeAny (model X.prog X.w) A (.call (.ref f) args) (Back X pins σ Q) s :=
  codeAny_mono (F.go A X.stack s H args us vs Q E hr hg e0 hb r h) fun r s' hq => ended hx I hq
theorem makeGK {pins : List (Addr × Obj)} {σ : L2.St} {H : Hp} {s : Shared} {Q : VK} {us ws : List Value} {vs zs : List V} (M : Mk X.K C f)
    (F : FnG X.prog X.w X.K X.mg X.base CX k f fd ps sp) (hr : Room (k + 1) X.A) (hg : X.A.guards = some []) (hb : KBn X.K fd ps (n + 1) ks g gV)
    (hx : Passes CX X E) (I : Inv X pins σ H s) (r : Vals vs us) (rz : Vals zs ws) (l1 : vs.length = n) (l2 : zs.length = ks.length)
    (h : ∀ x dx, H x = none → H dx = none → dx ≠ x → sp (gV (.ref x :: vs) zs) (upd (upd H dx (.own x)) x (.ins C dx [])) (fun v H2 => v = .non ∧ Q (.ref x) H2) E) :
    wpAny (model X.prog X.w) X.A (call (.ref C) us (ks.zip ws)) (EP X pins σ Q) X.xe s := by
  have q := h (s.heap.objs.size + 1) s.heap.objs.size (I.hok.fresh (Nat.le_succ _)) (I.hok.fresh (Nat.le_refl _)) (Nat.ne_of_lt (Nat.lt_succ_self _))
  have J := Inv.made (C := C) I
  have r1 : Vals (V.ref (s.heap.objs.size + 1) :: vs) (Value.ref (s.heap.objs.size + 1) :: us) := .cons rfl r
  have n1 : (Value.ref (s.heap.objs.size + 1) :: us).length = n + 1 := by
    rw [List.length_cons, ← r.length, l1]
  have w2 := runGK F (hr.make C us (ks.zip ws)) (guards_make hg C us (ks.zip ws)) (J.env0.make C us (ks.zip ws)) (hb.to _ (Value.ref (s.heap.objs.size + 1) :: us) ws J.kIn n1 (rz.length.symm.trans l2)) hx J (hb.rel r1 rz) q
  refine wpAny_call (make_map (f := f) I.kIn M.makes M.init (beq_iff_eq.mp M.fn) (codeAny_mono w2 ?_))
  rintro (z | (_ | _ | _ | u)) s' hq
  · exact hq
  · exact hq.elim
  · exact hq.elim
  · exact hq.elim
  · obtain ⟨v, H', I3, rv, rfl, q3⟩ := hq
    exact ⟨rv, V.ref (s.heap.objs.size + 1), H', I3, rfl, q3⟩
/-- C(k = v, ..) -/
theorem peg_makeK0 (M : Mk X.K C f) (F : FnG X.prog X.w X.K X.mg X.base CX k f fd ps sp) (hr : Room (k + 1) X.A) (hG : X.A.guards = some []) (hg : Gl X x) (hm : X.mg x = some (.ref C)) (hb : KBn X.K fd ps 1 ks g gV) (hx : Passes CX X E) (hkw : PK X kws tk)
    (hall : (backToKw pos (keywordEach kws X.env)).all (·.1.isSome) = true := by rfl) (hks : (backToKw pos (keywordEach kws X.env)).filterMap (·.1) = ks := by rfl) (hdb : (x == ("__debug__" : Str)) = false := by decide)
    (hpl : ((backTo pos (starEach [] X.env)).any (·.1) || (backToKw pos (keywordEach kws X.env)).any (·.1.isNone)) = false := by rfl) :
    PE X (.Call (.Name x p) [] kws pos) (tMakeK C 0 ks.length sp gV E tNil tk) := by
  refine ⟨fun pins s σ H Q I h => ?_⟩
  refine wpAny_Call_Name_kw (ld_glob I hg hm ?_ hdb)
  refine PySem.W.callWith_KW0 (h₀ := X.base) I.ok.mod.kin M.kp hall ?_ hpl
  refine thn (hkw.run pos pins s σ H _ I h) fun ws s2 ⟨zs, H2, I2, rz, l1, l2, q2⟩ => ⟨I2.kIn, ?_⟩
  rw [hks]
  exact makeGK (us := []) (vs := []) M F hr hG hb hx I2 .nil rz rfl l2 q2
/-- C(e, .., k = v, ..) -/
theorem peg_makeK (M : Mk X.K C f) (F : FnG X.prog X.w X.K X.mg X.base CX k f fd ps sp) (hr : Room (k + 1) X.A) (hG : X.A.guards = some []) (hg : Gl X x) (hm : X.mg x = some (.ref C)) (hb : KBn X.K fd ps (n + 1) ks g gV) (hx : Passes CX X E) (ha : PA X (e :: es) t) (hkw : PK X kws tk)
    (hall : (backToKw pos (keywordEach kws X.env)).all (·.1.isSome) = true := by rfl) (hks : (backToKw pos (keywordEach kws X.env)).filterMap (·.1) = ks := by rfl) (hdb : (x == ("__debug__" : Str)) = false := by decide)
    (he : starEach (e :: es) X.env = (false, eval e X.env) :: starEach es X.env := by rfl) (hpl : ((backTo pos (starEach (e :: es) X.env)).any (·.1) || (backToKw pos (keywordEach kws X.env)).any (·.1.isNone)) = false := by rfl) :
    PE X (.Call (.Name x p) (e :: es) kws pos) (tMakeK C n ks.length sp gV E t tk) := by
  refine ⟨fun pins s σ H Q I h => ?_⟩
  refine wpAny_Call_Name_kw (ld_glob I hg hm ?_ hdb)
  refine PySem.W.callWith_KW (h₀ := X.base) I.ok.mod.kin M.kp hall (thn (ha.run pos pins s σ H _ I h) fun us s1 ⟨vs, H1, I1, r, q⟩ => ?_) hpl he
  refine thn (hkw.run pos pins s1 σ H1 _ I1 q) fun ws s2 ⟨zs, H2, I2, rz, l1, l2, q2⟩ => ⟨I2.kIn, ?_⟩
  rw [hks]
  exact makeGK M F hr hG hb hx I2 r rz l1 l2 q2
/-- C(k = v): one value by its name -/
def MkK (C : Addr) (sp : Sp) (m : Nat) (us zs : List V) (H : Hp) (Q : VK) (E : XK) : Prop := us.length = us.length ∧ zs.length = m ∧ MkR C sp (us ++ zs) H Q E
theorem r_makeK0 {σ : L2.St} {H : Hp} {Q : VK} {m : Nat} (q : tk σ H fun zs H2 => MkK C sp m [] zs H2 Q E) : tMakeK C 0 m sp (fun us ws => us ++ ws) E tNil tk σ H Q := q
theorem r_makeK1 {σ : L2.St} {H : Hp} {Q : VK} {te : TE} {m : Nat} (q : te σ H fun x H1 => tk σ H1 fun zs H2 => MkK C sp m [x] zs H2 Q E) : tMakeK C 1 m sp (fun us ws => us ++ ws) E (tCons te tNil) tk σ H Q := q
theorem mkk1 {H : Hp} {Q : VK} {z : V} {us : List V} (q : MkR C sp (us ++ [z]) H Q E) : MkK C sp 1 us [z] H Q E := ⟨rfl, rfl, q⟩
end
/-! ### more readings -/
section
variable {K : PySem.W.Frag} {σ : L2.St} {H : Hp} {Q : VK} {a : TA} {x v : V}
theorem r_inS {c : Nat} {z : Str} (q : Q (.bl (decide (c ∈ tl z))) H) : rInS (.str ⟨#[c]⟩) (.str z) H Q := ⟨c, z, rfl, rfl, q⟩
theorem r_cbAll (q : a σ H fun vs H1 => rAll K vs H1 Q) : tCB (rAll K) a σ H Q := q
theorem r_all {p : Addr} {bs : List Bool} (h : SqL K H p (bs.map V.bl)) (q : Q (.bl (bs.all id)) H) : rAll K [.ref p] H Q := ⟨p, bs, rfl, h, q⟩
theorem r_cbIsiT (q : a σ H fun vs H1 => rIsiT K vs H1 Q) : tCB (rIsiT K) a σ H Q := q
theorem r_isiT {p : Addr} {cs : List V} {t : Value} {us : List Value} {b : Bool} (h : H p = some (.tup cs)) (pc : Paired ClsV cs us) (ty : TyX K H x t) (e : PySem.W.kitAny K t us = some b) (q : Q (.bl b) H) : rIsiT K [x, .ref p] H Q :=
  ⟨x, p, cs, t, us, b, rfl, h, pc, ty, e, q⟩
def rLenS : List V → Hp → VK → Prop := fun xs H Q => ∃ z, xs = [.str z] ∧ z.length ≤ sizeLine ∧ Q (.int z.length) H
theorem r_cbLenS (q : a σ H fun vs H1 => rLenS vs H1 Q) : tCB (fun xs H Q => ∃ z, xs = [.str z] ∧ z.length ≤ sizeLine ∧ Q (.int z.length) H) a σ H Q := q
theorem r_lenS {z : Str} (h : z.length ≤ 100000) (q : Q (.int z.length) H) : rLenS [.str z] H Q := ⟨z, rfl, Nat.le_trans h (by decide), q⟩
theorem ty_lst {p : Addr} {xs : List V} (h : SqL K H p xs) : TyX K H (.ref p) (.type "list") := by
  rcases h with h | ⟨o, _, _, h1, h2, _⟩
  · rcases h with h | ⟨o, h⟩
    · exact .base (.lst h)
    · exact .base (.frz h)
  · exact .kList h1 h2
theorem joinL_nil : ∀ l : List (List Nat), joinL [] l = l.flatten
  | [] => rfl
  | [p] => by simp [joinL]
  | p :: q :: r => by
    rw [joinL, joinL_nil (q :: r)]
    simp
theorem tl_inj {x y : Str} (h : tl x = tl y) : x = y := ext_tl h
/-- sep.join(a list of texts) -/
def rJoin (K : PySem.W.Frag) : V → List V → Hp → VK → Prop := fun x xs H Q => ∃ a p, ∃ ys : List Str, x = .str a ∧ xs = [.ref p] ∧ (SqL K H p (ys.map V.str) ∨ SqT K H p (ys.map V.str)) ∧ (ys.map (·.length)).sum + ys.length * a.length ≤ 16777216 ∧ Q (.str (Txt.join a ys)) H
theorem mt_joinR {X : Cx} : MtR X "str.join" (rJoin X.K) := mt_join
theorem join_nil (ys : List Str) : tl (Txt.join ("" : Str) ys) = (ys.map tl).flatten := by
  rw [join_eq, tl_join]
  exact joinL_nil _
/-- ''.join of signs -/
theorem r_joinC {p : Addr} {cs : List Nat} (h : H p = some (.lst (cs.map fun c => V.str ⟨#[c]⟩))) (hl : cs.length ≤ 100000) (q : Q (.str ⟨cs.toArray⟩) H) : rJoin K (.str ("" : Str)) [.ref p] H Q := by
  have e : ∀ l : List Nat, (((l.map fun c => (⟨#[c]⟩ : Str)).map (·.length)).sum) = l.length := fun l => by
    induction l with
    | nil => rfl
    | cons c r ih => rw [List.map_cons, List.map_cons, List.sum_cons, ih, List.length_cons]; show 1 + _ = _; omega
  have e2 : (cs.map fun c => V.str (⟨#[c]⟩ : Str)) = (cs.map fun c => (⟨#[c]⟩ : Str)).map V.str := by simp
  refine ⟨_, p, cs.map fun c => ⟨#[c]⟩, rfl, rfl, .inl (SqL.of (by rw [← e2]; exact h)), ?_, ?_⟩
  · rw [e, List.length_map]
    have : (("" : Str)).length = 0 := rfl
    rw [this]
    omega
  · have e3 : Txt.join ("" : Str) (cs.map fun c => (⟨#[c]⟩ : Str)) = ⟨cs.toArray⟩ := by
      refine tl_inj ?_
      rw [join_nil]
      have e4 : ∀ l : List Nat, (((l.map fun c => (⟨#[c]⟩ : Str)).map tl).flatten) = l := fun l => by
        induction l with
        | nil => rfl
        | cons c r ih => rw [List.map_cons, List.map_cons, List.flatten_cons, ih]; rfl
      rw [e4]
    rw [e3]
    exact q
/-- a sign of a text -/
theorem r_ixS {z : Str} {i : Int} {c : Nat} (h0 : 0 ≤ i) (hc : (tl z)[i.toNat]? = some c) (hl : z.length ≤ 100000) (q : Q (.str ⟨#[c]⟩) H) : rIx K (.str z) (.int i) H Q := by
  refine .inr (.inr ⟨z, i, c, rfl, rfl, Nat.le_trans hl (by decide), ?_, q⟩)
  have e : i = ((i.toNat : Nat) : Int) := (Int.toNat_of_nonneg h0).symm
  rw [e]
  exact atI_nat hc
end
end MV

set_option Elab.async false
set_option linter.all false
set_option maxRecDepth 100000
set_option maxHeartbeats 2000000
/-! MVY: lists of texts as data; parts of an f-string as readings; what lets nothing out. -/
namespace MV
open PySem PySem.Spec PySem.Calls PyProof.Rows L2 TL
/-- a list of texts as data -/
abbrev ds (ss : List Str) : PyData := .list (ss.map PyData.str)
theorem dp_ds {K : PySem.W.Frag} {H : Hp} {p : Addr} {ss : List Str} (h : SqL K H p (ss.map V.str)) : Dp K H (.ref p) (ds ss) := .lst h (dp_strs ss)
theorem depth_strs : ∀ ss : List Str, PyData.depthAll (ss.map PyData.str) = 0
  | [] => by rw [List.map_nil, PyData.depthAll]
  | n :: r => by rw [List.map_cons, PyData.depthAll, depth_strs r, PyData.depth]; rfl
/-- the signs are codes -/
def Cd (ss : List Str) : Prop := ∀ z ∈ ss, ∀ c ∈ tl z, c < 0x110000
theorem strOk_of {z : Str} (h : ∀ c ∈ tl z, c < 0x110000) : PyData.strOk z = true := by
  unfold PyData.strOk
  rw [Array.all_eq_true_iff_forall_mem]
  intro c hc
  exact decide_eq_true (h c (Array.mem_toList_iff.mpr hc))
theorem canLay_strs : ∀ {ss : List Str}, Cd ss → PyData.canLayAll0 (ss.map PyData.str) = true
  | [], _ => by rw [List.map_nil, PyData.canLayAll0]
  | n :: r, h => by
    rw [List.map_cons, PyData.canLayAll0, canLay_strs (fun z hz => h z (List.mem_cons_of_mem _ hz)), PyData.canLay0, strOk_of (h n List.mem_cons_self)]
    rfl
theorem shaped_ds {ss : List Str} (h : Cd ss) : SeqAt.shaped (ds ss) = true := by
  unfold SeqAt.shaped
  rw [PyData.canLay0, canLay_strs h, PyData.depth, depth_strs]
  rfl
theorem eqv_ds (a b : List Str) : PyData.eqv (ds a) (ds b) = decide (a = b) := by
  rw [PyData.eqv, eqvAll_strs]
/-- texts that can be shown: no more than m, each of at most n signs -/
structure Tx (n : Nat) (ss : List Str) : Prop where
  ln : ∀ z ∈ ss, z.length ≤ n
  cd : Cd ss
theorem bnd_strs {n : Nat} : ∀ {ss : List Str}, Tx n ss → bndAll (ss.map PyData.str) ≤ ss.length * (10 * n + 4)
  | [], _ => by rw [List.map_nil, bndAll]; exact Nat.zero_le _
  | z :: r, h => by
    have := bnd_strs (ss := r) ⟨fun y hy => h.ln y (List.mem_cons_of_mem _ hy), fun y hy => h.cd y (List.mem_cons_of_mem _ hy)⟩
    have h1 := StrLaws.reprText_len z (fun c hc => Nat.lt_of_lt_of_le (h.cd z List.mem_cons_self c hc) (by decide))
    have h2 := h.ln z List.mem_cons_self
    rw [List.map_cons, bndAll, bnd, List.length_cons, Nat.add_mul]
    omega
theorem showable_strs : ∀ ss : List Str, PyData.showableAll (ss.map PyData.str) = true
  | [] => by rw [List.map_nil, PyData.showableAll]
  | z :: r => by rw [List.map_cons, PyData.showableAll, showable_strs r, PyData.showable]; rfl
theorem noDict_strs : ∀ ss : List Str, PyData.hasDictAll (ss.map PyData.str) = false
  | [] => by rw [List.map_nil, PyData.hasDictAll]
  | z :: r => by rw [List.map_cons, PyData.hasDictAll, noDict_strs r, PyData.hasDict]; rfl
theorem shw_ds {n : Nat} {ss : List Str} (h : Tx n ss) (hb : ss.length * (10 * n + 4) ≤ 100000) : Shw (ds ss) where
  sh := by rw [PyData.showable, showable_strs]
  nd := by rw [PyData.hasDict, noDict_strs]
  dp := by rw [PyData.depth, depth_strs]; decide
  ln := by
    rw [bnd]
    have := bnd_strs h
    exact Nat.le_trans (show 2 + bndAll _ ≤ 100002 by omega) (by decide)
theorem ds_len {n : Nat} {ss : List Str} (h : Tx n ss) : (ds ss).shown.length ≤ 2 + ss.length * (10 * n + 4) := by
  have h1 := bnd_ok (ds ss) (by rw [PyData.showable, showable_strs]) (by rw [PyData.hasDict, noDict_strs])
  rw [bnd] at h1
  have := bnd_strs h
  omega
theorem cut_to {xs : List V} {k : Int} (h0 : 0 ≤ k) (hk : k ≤ xs.length) : cutV xs none (some k) = xs.take k.toNat := by
  obtain ⟨n, rfl⟩ : ∃ n : Nat, k = (n : Int) := ⟨k.toNat, by omega⟩
  unfold cutV
  rw [HT.sIx_nat, HT.sIx_none, List.drop_zero, Nat.sub_zero, Nat.min_eq_left (by omega), Int.toNat_natCast]
theorem cut_from {xs : List V} {k : Int} (h0 : 0 ≤ k) (hk : k ≤ xs.length) : cutV xs (some k) none = xs.drop k.toNat := by
  obtain ⟨n, rfl⟩ : ∃ n : Nat, k = (n : Int) := ⟨k.toNat, by omega⟩
  unfold cutV
  rw [HT.sIx_nat, HT.sIx_none, Nat.min_eq_left (by omega), Int.toNat_natCast]
  refine List.take_of_length_le ?_
  rw [List.length_drop]
  exact Nat.le_refl _
section
variable {K : PySem.W.Frag} {H : Hp} {Q : VK} {a b : Addr} {ss ts : List Str} {x y : V}
theorem r_eqDs (ca : Cd ss) (cb : Cd ts) (h : SqL K H a (ss.map V.str)) (g : SqL K H b (ts.map V.str)) (q : Q (.bl (decide (ss = ts))) H) : rEqD K (.ref a) (.ref b) H Q :=
  ⟨_, _, dp_ds h, dp_ds g, shaped_ds ca, shaped_ds cb, by rw [eqv_ds]; exact q⟩
theorem r_neDs (ca : Cd ss) (cb : Cd ts) (h : SqL K H a (ss.map V.str)) (g : SqL K H b (ts.map V.str)) (q : Q (.bl (!decide (ss = ts))) H) : rNeD K (.ref a) (.ref b) H Q :=
  ⟨_, _, dp_ds h, dp_ds g, shaped_ds ca, shaped_ds cb, by rw [eqv_ds]; exact q⟩
theorem r_tupA {p : Addr} {xs : List V} (h : SqL K H p xs) (k : ∀ l H2, Stp none H H2 → H2 l = some (.tup xs) → H l = none → Q (.ref l) H2) : rTupL K [.ref p] H Q :=
  ⟨p, xs, rfl, .inl ⟨h, fun l hl => k l _ (Stp.new hl) upd_same hl⟩⟩
theorem r_mulSk {z : Str} {k : Int} (h1 : k ≤ 1000) (h0 : -1000 ≤ k) (hz : z.length ≤ 1000) (q : Q (.str (repS z k)) H) : rMulS (.str z) (.int k) H Q := ⟨z, k, rfl, rfl, h1, h0, hz, q⟩
theorem r_repL {l : Addr} {xs : List V} {k : Int} (h : H l = some (.lst xs)) (h1 : -(2 ^ 63) ≤ k) (h2 : k < 2 ^ 63) (hl : xs.length * k.toNat ≤ 100000) (k' : ∀ p H2, Stp none H H2 → H2 p = some (.lst (List.replicate k.toNat xs).flatten) → H p = none → Q (.ref p) H2) : rRep (.ref l) (.int k) H Q :=
  ⟨l, k, xs, rfl, rfl, h, h1, h2, Nat.le_trans hl (by decide), fun p hp => k' p _ (Stp.new hp) upd_same hp⟩
theorem r_cat {l m : Addr} {xs ys : List V} (h : H l = some (.lst xs)) (h2 : H m = some (.lst ys)) (hl : xs.length + ys.length ≤ 100000) (k : ∀ p H2, Stp none H H2 → H2 p = some (.lst (xs ++ ys)) → H p = none → Q (.ref p) H2) : rCat (.ref l) (.ref m) H Q :=
  ⟨l, m, xs, ys, rfl, rfl, h, h2, Nat.le_trans hl (by decide), fun p hp => k p _ (Stp.new hp) upd_same hp⟩
/-- a new empty dict -/
theorem r_dnew {σ : L2.St} (k : ∀ p H2, Stp none H H2 → H2 p = some (.dK []) → H p = none → Q (.ref p) H2) : tDNewK σ H Q := fun p hp => k p _ (Stp.new hp) upd_same hp
theorem r_lstA {p : Addr} {xs : List V} (h : SqL K H p xs ∨ SqT K H p xs) (k : ∀ l H2, Stp none H H2 → H2 l = some (.lst xs) → H l = none → Q (.ref l) H2) : rLstL K [.ref p] H Q :=
  ⟨p, xs, rfl, h, fun l hl => k l _ (Stp.new hl) upd_same hl⟩
theorem r_repr {d : PyData} {z : V} (h : Dp K H z d) (S : Shw d) (q : Q (.str d.shown) H) : rRepr K [z] H Q := ⟨z, d, rfl, h, S, q⟩
theorem r_js {t : TE} {ts : List TE} {acc : Str} {σ : L2.St} {Q : Str → Hp → Prop} (q : t σ H fun x H1 => ∃ y : Str, x = .str y ∧ (acc ++ y).length ≤ sizeLine ∧ tJs ts (acc ++ y) σ H1 Q) : tJs (t :: ts) acc σ H Q := q
theorem r_js0 {acc : Str} {σ : L2.St} {Q : Str → Hp → Prop} (q : Q acc H) : tJs [] acc σ H Q := q
theorem r_jv {y acc : Str} {ts : List TE} {σ : L2.St} {Q : Str → Hp → Prop} (h : (acc ++ y).length ≤ sizeLine) (q : tJs ts (acc ++ y) σ H Q) : ∃ z : Str, V.str y = .str z ∧ (acc ++ z).length ≤ sizeLine ∧ tJs ts (acc ++ z) σ H Q := ⟨y, rfl, h, q⟩
theorem r_fmtR {te : TE} {σ : L2.St} (q : te σ H fun x H1 => (∃ y : Str, x = .str y ∧ (PySem.reprText y).length ≤ sizeLine ∧ Q (.str (PySem.reprText y)) H1) ∨ ∃ i : Int, x = .int i ∧ i.natAbs.log2 < 1920 ∧ Q (.str (toString i)) H1) : tFmtR te σ H Q := q
theorem r_fmtD {te : TE} {σ : L2.St} (q : te σ H fun x H1 => ∃ a d, x = .ref a ∧ Dp K H1 x d ∧ Shw d ∧ Q (.str d.shown) H1) : tFmtD K te σ H Q := q
theorem app_le {a b : Str} {m n : Nat} (ha : a.length ≤ m) (hb : b.length ≤ n) : (a ++ b).length ≤ m + n := by
  rw [strLen_append]
  omega
theorem fits_of {a : Str} {m : Nat} (h : a.length ≤ m) (hm : m ≤ 100000) : a.length ≤ sizeLine := Nat.le_trans h (Nat.le_trans hm (by decide))
theorem tl_app (x y : Str) : tl (x ++ y) = tl x ++ tl y := tl_append x y
end
/-- e.f of the caught error, told -/
theorem r_xf {a C : Addr} {cls : Value} {d : Option Addr} {dd : Addr} {f : Str} {σ : L2.St} {H : Hp} {Q : VK} {n : Nat} {fs : List (Str × V)} {v : V} (ec : cls = .ref C) (ed : d = some dd) (hd : H dd = some (.xd fs)) (hf : fs.lookup f = some v) (h : σ[n]? = some (some (.ref a))) (q : Q v H) :
    tXf a cls d C f (tVar n) σ H Q := ⟨.ref a, h, rfl, ec, dd, fs, v, ed, hd, hf, q⟩
end MV

set_option Elab.async false
set_option linter.all false
set_option maxRecDepth 100000
set_option maxHeartbeats 4000000
namespace Law
open PySem PySem.Spec PyProof.Rows L2 MV TL
def topS (i : Nat) : Stmt := PySem.Challenge.pw_carpets_k40_patches_made.main.body.getD i (.Pass ⟨0, 0, 0, 0⟩)
abbrev s_InvalidRows_init : Stmt := inClass (topS 2) 0
abbrev N_InvalidRows_init : List Str := ["self", "index"]
abbrev P_InvalidRows_init : List Str := ["self", "index"]
theorem sc_InvalidRows_init : FnScope N_InvalidRows_init P_InvalidRows_init (defScope s_InvalidRows_init) := ⟨rfl, rfl, rfl, by decide +kernel, rfl, by decide +kernel, by decide +kernel⟩
abbrev s_is_written : Stmt := topS 5
abbrev N_is_written : List Str := ["value", "signs", "sign"]
abbrev P_is_written : List Str := ["value", "signs"]
theorem sc_is_written : FnScope N_is_written P_is_written (defScope s_is_written) := ⟨rfl, rfl, rfl, by decide +kernel, rfl, by decide +kernel, by decide +kernel⟩
abbrev s_check_rows : Stmt := topS 6
abbrev N_check_rows : List Str := ["rows", "signs", "most", "index", "row"]
abbrev P_check_rows : List Str := ["rows", "signs", "most"]
theorem sc_check_rows : FnScope N_check_rows P_check_rows (defScope s_check_rows) := ⟨rfl, rfl, rfl, by decide +kernel, rfl, by decide +kernel, by decide +kernel⟩
abbrev s_Patch_init : Stmt := inClass (topS 10) 0
abbrev N_Patch_init : List Str := ["self", "rows"]
abbrev P_Patch_init : List Str := ["self", "rows"]
theorem sc_Patch_init : FnScope N_Patch_init P_Patch_init (defScope s_Patch_init) := ⟨rfl, rfl, rfl, by decide +kernel, rfl, by decide +kernel, by decide +kernel⟩
abbrev s_Patch_rows : Stmt := inClass (topS 10) 1
abbrev N_Patch_rows : List Str := ["self"]
abbrev P_Patch_rows : List Str := ["self"]
theorem sc_Patch_rows : FnScope N_Patch_rows P_Patch_rows (defScope s_Patch_rows) := ⟨rfl, rfl, rfl, by decide +kernel, rfl, by decide +kernel, by decide +kernel⟩
abbrev s_Patch_width : Stmt := inClass (topS 10) 2
abbrev N_Patch_width : List Str := ["self"]
abbrev P_Patch_width : List Str := ["self"]
theorem sc_Patch_width : FnScope N_Patch_width P_Patch_width (defScope s_Patch_width) := ⟨rfl, rfl, rfl, by decide +kernel, rfl, by decide +kernel, by decide +kernel⟩
abbrev s_Patch_height : Stmt := inClass (topS 10) 3
abbrev N_Patch_height : List Str := ["self"]
abbrev P_Patch_height : List Str := ["self"]
theorem sc_Patch_height : FnScope N_Patch_height P_Patch_height (defScope s_Patch_height) := ⟨rfl, rfl, rfl, by decide +kernel, rfl, by decide +kernel, by decide +kernel⟩
abbrev s_Patch_eq : Stmt := inClass (topS 10) 4
abbrev N_Patch_eq : List Str := ["self", "other"]
abbrev P_Patch_eq : List Str := ["self", "other"]
theorem sc_Patch_eq : FnScope N_Patch_eq P_Patch_eq (defScope s_Patch_eq) := ⟨rfl, rfl, rfl, by decide +kernel, rfl, by decide +kernel, by decide +kernel⟩
abbrev s_Patch_repr : Stmt := inClass (topS 10) 5
abbrev N_Patch_repr : List Str := ["self"]
abbrev P_Patch_repr : List Str := ["self"]
theorem sc_Patch_repr : FnScope N_Patch_repr P_Patch_repr (defScope s_Patch_repr) := ⟨rfl, rfl, rfl, by decide +kernel, rfl, by decide +kernel, by decide +kernel⟩
abbrev s_law_tape : Stmt := topS 12
abbrev N_law_tape : List Str := ["_law_script"]
abbrev P_law_tape : List Str := ["_law_script"]
theorem sc_law_tape : FnScope N_law_tape P_law_tape (defScope s_law_tape) := ⟨rfl, rfl, rfl, by decide +kernel, rfl, by decide +kernel, by decide +kernel⟩
abbrev s_law_draw : Stmt := topS 13
abbrev N_law_draw : List Str := ["_law_tape_here", "_law_many", "_law_digit", "_law_cell", "_law_near"]
abbrev P_law_draw : List Str := ["_law_tape_here", "_law_many"]
theorem sc_law_draw : FnScope N_law_draw P_law_draw (defScope s_law_draw) := ⟨rfl, rfl, rfl, by decide +kernel, rfl, by decide +kernel, by decide +kernel⟩
abbrev s_law_told : Stmt := topS 14
abbrev N_law_told : List Str := ["_law_some_here", "e"]
abbrev P_law_told : List Str := ["_law_some_here"]
theorem sc_law_told : FnScope N_law_told P_law_told (defScope s_law_told) := ⟨rfl, rfl, rfl, by decide +kernel, rfl, by decide +kernel, by decide +kernel⟩
abbrev s_law_some : Stmt := topS 15
abbrev N_law_some : List Str := ["_law_tape_here", "_law_wide", "_law_found", "_law_turn", "_law_at"]
abbrev P_law_some : List Str := ["_law_tape_here"]
theorem sc_law_some : FnScope N_law_some P_law_some (defScope s_law_some) := ⟨rfl, rfl, rfl, by decide +kernel, rfl, by decide +kernel, by decide +kernel⟩
abbrev s_law : Stmt := topS 16
abbrev N_law : List Str := ["_law_script", "_law_tape_here", "_law_odd", "_law_turn", "_law_some_here", "_law_kept", "_law_patch", "_law_other", "_law_at", "_law_wide", "_law_due"]
abbrev P_law : List Str := ["_law_script"]
theorem sc_law : FnScope N_law P_law (defScope s_law) := ⟨rfl, rfl, rfl, by decide +kernel, rfl, by decide +kernel, by decide +kernel⟩
structure Ad where
  C_InvalidRows : Addr
  C_Patch : Addr
  InvalidRows_init : Addr
  InvalidRows_init_d : FuncData
  is_written : Addr
  is_written_d : FuncData
  check_rows : Addr
  check_rows_d : FuncData
  Patch_init : Addr
  Patch_init_d : FuncData
  Patch_rows : Addr
  Patch_rows_d : FuncData
  p_Patch_rows : Addr
  Patch_width : Addr
  Patch_width_d : FuncData
  p_Patch_width : Addr
  Patch_height : Addr
  Patch_height_d : FuncData
  p_Patch_height : Addr
  Patch_eq : Addr
  Patch_eq_d : FuncData
  Patch_repr : Addr
  Patch_repr_d : FuncData
  law_tape : Addr
  law_tape_d : FuncData
  law_draw : Addr
  law_draw_d : FuncData
  law_told : Addr
  law_told_d : FuncData
  law_some : Addr
  law_some_d : FuncData
  law : Addr
  law_d : FuncData
structure Txt (K : PySem.W.Frag) (mg : Str → Option Value) (a : Ad) : Prop where
  g_InvalidRows : mg "InvalidRows" = some (.ref a.C_InvalidRows)
  x_InvalidRows : Xc K a.C_InvalidRows a.InvalidRows_init "index"
  xf_InvalidRows : XfC K a.C_InvalidRows
  xi_InvalidRows : ExcC K a.C_InvalidRows
  g_Patch : mg "Patch" = some (.ref a.C_Patch)
  cl_Patch : Cls K a.C_Patch
  k_Patch : Mk K a.C_Patch a.Patch_init
  F_InvalidRows_init : Fun K "__init__" "InvalidRows.__init__" s_InvalidRows_init a.InvalidRows_init a.InvalidRows_init_d
  b_InvalidRows_init : Binds K a.InvalidRows_init_d P_InvalidRows_init []
  g_is_written : mg "is_written" = some (.ref a.is_written)
  F_is_written : Fun K "is_written" "is_written" s_is_written a.is_written a.is_written_d
  b_is_written : Binds K a.is_written_d P_is_written []
  g_check_rows : mg "check_rows" = some (.ref a.check_rows)
  F_check_rows : Fun K "check_rows" "check_rows" s_check_rows a.check_rows a.check_rows_d
  b_check_rows : Binds K a.check_rows_d P_check_rows []
  F_Patch_init : Fun K "__init__" "Patch.__init__" s_Patch_init a.Patch_init a.Patch_init_d
  b_Patch_init : Binds K a.Patch_init_d P_Patch_init []
  p_Patch_rows : PropOf K a.C_Patch "rows" a.p_Patch_rows a.Patch_rows
  F_Patch_rows : Fun K "rows" "Patch.rows" s_Patch_rows a.Patch_rows a.Patch_rows_d
  b_Patch_rows : Binds K a.Patch_rows_d P_Patch_rows []
  p_Patch_width : PropOf K a.C_Patch "width" a.p_Patch_width a.Patch_width
  F_Patch_width : Fun K "width" "Patch.width" s_Patch_width a.Patch_width a.Patch_width_d
  b_Patch_width : Binds K a.Patch_width_d P_Patch_width []
  p_Patch_height : PropOf K a.C_Patch "height" a.p_Patch_height a.Patch_height
  F_Patch_height : Fun K "height" "Patch.height" s_Patch_height a.Patch_height a.Patch_height_d
  b_Patch_height : Binds K a.Patch_height_d P_Patch_height []
  e_Patch : EqC K a.C_Patch a.Patch_eq
  F_Patch_eq : Fun K "__eq__" "Patch.__eq__" s_Patch_eq a.Patch_eq a.Patch_eq_d
  b_Patch_eq : Binds K a.Patch_eq_d P_Patch_eq []
  o_Patch_repr : HasS K a.C_Patch a.Patch_repr "__repr__"
  F_Patch_repr : Fun K "__repr__" "Patch.__repr__" s_Patch_repr a.Patch_repr a.Patch_repr_d
  b_Patch_repr : Binds K a.Patch_repr_d P_Patch_repr []
  g_law_tape : mg "_law_tape" = some (.ref a.law_tape)
  F_law_tape : Fun K "_law_tape" "_law_tape" s_law_tape a.law_tape a.law_tape_d
  b_law_tape : Binds K a.law_tape_d P_law_tape []
  g_law_draw : mg "_law_draw" = some (.ref a.law_draw)
  F_law_draw : Fun K "_law_draw" "_law_draw" s_law_draw a.law_draw a.law_draw_d
  b_law_draw : Binds K a.law_draw_d P_law_draw []
  g_law_told : mg "_law_told" = some (.ref a.law_told)
  F_law_told : Fun K "_law_told" "_law_told" s_law_told a.law_told a.law_told_d
  b_law_told : Binds K a.law_told_d P_law_told []
  g_law_some : mg "_law_some" = some (.ref a.law_some)
  F_law_some : Fun K "_law_some" "_law_some" s_law_some a.law_some a.law_some_d
  b_law_some : Binds K a.law_some_d P_law_some []
  g_law : mg "law" = some (.ref a.law)
  F_law : Fun K "law" "law" s_law a.law a.law_d
  b_law : Binds K a.law_d P_law []
  kb_Patch_init_0_rows : KBn K a.Patch_init_d P_Patch_init 1 ["rows"] (fun us ws => us ++ ws) (fun us ws => us ++ ws)
  z_all : mg "all" = none
  z_bool : mg "bool" = none
  z_enumerate : mg "enumerate" = none
  z_int : mg "int" = none
  z_isinstance : mg "isinstance" = none
  z_len : mg "len" = none
  z_list : mg "list" = none
  z_range : mg "range" = none
  z_repr : mg "repr" = none
  z_str : mg "str" = none
  z_tuple : mg "tuple" = none
  v_LETTERS : ∃ u, mg "LETTERS" = some u ∧ RelV (V.str "abcdefghijklmnopqrstuvwxyz") u
  v_ANY_COLOUR : ∃ u, mg "ANY_COLOUR" = some u ∧ RelV (V.str ".") u
  v_SIDE_LIMIT : ∃ u, mg "SIDE_LIMIT" = some u ∧ RelV (V.int 50) u
  em_InvalidRows_InvalidRows : PySem.W.exmOne K (.ref a.C_InvalidRows) (.ref a.C_InvalidRows) = some true
  n_rows : NoAttr K a.C_Patch "_rows"
  i_Patch : IsC K a.C_Patch
  kl_Patch : PySem.W.kitOne K (.type "list") (.ref a.C_Patch) = some false
  nf_Patch : PySem.W.notFirst K a.C_Patch (.type "list") = true
local macro_rules | `(tactic| walk_at "up") => `(tactic| first
  | assumption
  | (refine' IT.mv ?s ?g; (case s => assumption); (case g => walk_at "up"))
  | (refine' IT.k ?g; (case g => walk_at "up"))
  | (refine' IK.mv ?s ?g; (case s => assumption); (case g => walk_at "up"))
  | (refine' Tape.mvN ?s ?g; (case s => assumption); (case g => walk_at "up"))
  | (refine' Tape.mvS ?s ?g; (case s => assumption); (case g => walk_at "up"))
  | (refine' At.tup ?s ?g; (case s => assumption); (case g => walk_at "up"))
  | (refine' At.ins ?s ?g; (case s => assumption); (case g => walk_at "up"))
  | (refine' At.lst ?s ?g; (case s => assumption); (case g => walk_at "up"))
  | (refine' At.lstS ?s ?n ?g; (case s => assumption); (case n => assumption); (case g => walk_at "up"))
  | fail)
local macro_rules | `(tactic| walk_at "st") => `(tactic| first
  | assumption
  | exact Stp.refl _ _
  | (refine' Stp.w ?s; (case s => assumption))
  | (refine' Stp.trans ?g ?s; (case s => (first | assumption | (refine' Stp.w ?u; (case u => assumption)))); (case g => walk_at "st"))
  | fail)
local macro_rules | `(tactic| walk_at "bT") => `(tactic| first
  | decide
  | (simp only [Bool.not_eq_true', Bool.not_eq_false', decide_eq_true_eq, decide_eq_false_iff_not]; omega)
  | fail)
local macro_rules | `(tactic| walk_at "sd") => `(tactic| first | assumption | decide | omega | fail)
local macro_rules | `(tactic| walk_at "r") => `(tactic| first
  | (with_reducible refine r_seq ?_)
  | (with_reducible refine r_asg ?_)
  | ((with_reducible refine' r_var ?h ?k); (case h => rfl))
  | (with_reducible refine r_c ?_)
  | (with_reducible refine r_op ?_)
  | (with_reducible refine r_un ?_)
  | (with_reducible refine r_nil ?_)
  | (with_reducible refine r_cons ?_)
  | (with_reducible refine r_tup ?_)
  | (with_reducible refine r_lst ?_)
  | (with_reducible refine r_cbLen ?_)
  | (with_reducible refine r_cbInt ?_)
  | (with_reducible refine r_cbRepr ?_)
  | (with_reducible refine r_cbTup ?_)
  | (with_reducible refine r_cbLst ?_)
  | (with_reducible refine r_cb ?_)
  | (with_reducible refine r_prop ?_)
  | (with_reducible refine r_andV ?_)
  | (with_reducible refine r_orV ?_)
  | (with_reducible refine r_notV ?_)
  | (with_reducible refine r_chain ?_)
  | (with_reducible refine r_ifE ?_)
  | (with_reducible refine r_test ?_)
  | (with_reducible refine r_B ?_)
  | (with_reducible refine r_and ?_)
  | (with_reducible refine r_or ?_)
  | (with_reducible refine r_not ?_)
  | (with_reducible refine r_yes ?_)
  | (with_reducible refine r_k ?_)
  | (with_reducible refine r_kV ?_)
  | (with_reducible refine r_next ?_)
  | (with_reducible refine r_drop ?_)
  | (with_reducible refine r_ret ?_)
  | (with_reducible refine r_ifS ?_)
  | (with_reducible refine r_par ?_)
  | (with_reducible refine r_par1 ?_)
  | (with_reducible refine r_gname ?_)
  | (with_reducible refine r_gnil ?_)
  | (with_reducible refine r_gcons ?_)
  | ((with_reducible refine' r_unpack2 ?h ?k); (case h => walk_at "up"))
  | ((with_reducible refine' r_unpack3 ?h ?k); (case h => walk_at "up"))
  | (with_reducible refine r_add ?_)
  | (with_reducible refine r_sub ?_)
  | (with_reducible refine r_neg ?_)
  | ((with_reducible refine' r_mod ?h ?k); (case h => walk_at "sd"))
  | ((with_reducible refine' r_div ?h ?k); (case h => walk_at "sd"))
  | ((with_reducible refine' r_mul ?h ?k); (case h => walk_at "sd"))
  | ((with_reducible refine' r_mulW ?h ?k); (case h => walk_at "sd"))
  | ((with_reducible refine' r_pow ?h ?k); (case h => (show (0 : Int) ≤ _ ∧ _ ∧ _; decide)))
  | (with_reducible refine r_lt ?_)
  | (with_reducible refine r_le ?_)
  | (with_reducible refine r_gt ?_)
  | (with_reducible refine r_ge ?_)
  | (with_reducible refine r_eqI ?_)
  | (with_reducible refine r_neI ?_)
  | (with_reducible refine r_eqS ?_)
  | (with_reducible refine r_neS ?_)
  | ((with_reducible refine' r_eqT ?h ?g ?k); (case h => walk_at "up"); (case g => walk_at "up"))
  | ((with_reducible refine' r_neT ?h ?g ?k); (case h => walk_at "up"); (case g => walk_at "up"))
  | ((with_reducible refine' r_ix0 ?h ?k); (case h => walk_at "up"))
  | ((with_reducible refine' r_ix1 ?h ?k); (case h => walk_at "up"))
  | ((with_reducible refine' r_ix2 ?h ?k); (case h => walk_at "up"))
  | (with_reducible refine r_newI2 (fun v H2 S I => ?_))
  | (with_reducible refine r_newI3 (fun v H2 S I => ?_))
  | (with_reducible refine r_newL1 (fun p H2 S hp np => ?_))
  | (with_reducible refine r_newL2 (fun p H2 S hp np => ?_))
  | (with_reducible refine r_newL3 (fun p H2 S hp np => ?_))
  | (with_reducible refine r_T ?_)
  | (with_reducible refine r_F ?_)
  | fail)
local macro_rules | `(tactic| walk_at "go") => `(tactic| repeat (walk_at "r"))
local macro_rules | `(tactic| walk_at "r") => `(tactic| first
  | (with_reducible refine r_call0 ?_)
  | (with_reducible refine r_meth0 ?_)
  | (with_reducible refine r_make0 ?_)
  | (with_reducible refine r_isiII ?_)
  | (with_reducible refine r_isiIB ?_)
  | ((with_reducible refine' r_isiTT ?h ?k); (case h => walk_at "up"))
  | ((with_reducible refine' r_len2 ?h ?k); (case h => walk_at "up"))
  | ((with_reducible refine' r_len3 ?h ?k); (case h => walk_at "up"))
  | ((with_reducible refine' r_lenL ?h ?k); (case h => walk_at "up"))
  | (with_reducible refine r_int1 ?_)
  | (with_reducible refine r_int1B ?_)
  | (with_reducible refine r_nT ?_)
  | (with_reducible refine r_nF ?_)
  | (with_reducible refine r_gcd ?_)
  | (with_reducible refine r_gsub ?_)
  | (with_reducible refine r_fld ?_)
  | (with_reducible refine r_p6 ?_)
  | (with_reducible refine r_p9 ?_)
  | (with_reducible refine r_p10 ?_)
  | (with_reducible refine r_p11 ?_)
  | (with_reducible refine r_p12 ?_)
  | (with_reducible refine r_p18 ?_)
  | (with_reducible refine r_p20 ?_)
  | (with_reducible refine r_p26 ?_)
  | (with_reducible refine r_p27 ?_)
  | (with_reducible refine r_p30 ?_)
  | ((with_reducible refine' r_iF ?h ?k); (case h => walk_at "bT"))
  | ((with_reducible refine' r_iT ?h ?k); (case h => walk_at "bT"))
  | (with_reducible refine r_sfld ?_)
  | (with_reducible refine r_sl ?_)
  | (with_reducible refine r_noPart ?_)
  | (with_reducible refine r_part ?_)
  | (with_reducible refine r_pk ?_)
  | ((with_reducible refine' r_unl2 ?h ?k); (case h => walk_at "up"))
  | ((with_reducible refine' r_ixLi ?h ?h0 ?hn ?k); (case h => walk_at "up"); (case h0 => walk_at "sd"); (case hn => rfl))
  | fail)

local macro_rules | `(tactic| walk_at "r") => `(tactic| first
  | (with_reducible refine r_for ?_)
  | (with_reducible refine r_lc ?_)
  | (with_reducible refine r_iList ?_)
  | (with_reducible refine r_iTup ?_)
  | (with_reducible refine r_iStr ?_)
  | (with_reducible refine it_s ?_)
  | (with_reducible refine r_iRng1 ?_)
  | (with_reducible refine r_iRng2 ?_)
  | (with_reducible refine r_iEnumA ?_)
  | (with_reducible refine r_bm ?_)
  | (with_reducible refine r_inS ?_)
  | (with_reducible refine r_cbAll ?_)
  | (with_reducible refine r_cbIsiT ?_)
  | (with_reducible refine r_cbLenS ?_)
  | (with_reducible refine r_makeK0 ?_)
  | (with_reducible refine r_makeK1 ?_)
  | (with_reducible refine mkk1 ?_)
  | fail)
local macro_rules | `(tactic| walk_at "up") => `(tactic| first
  | (refine' SqL.mvN ?s ?g; (case s => assumption); (case g => walk_at "up"))
  | (refine' SqT.mvS ?s ?g; (case s => assumption); (case g => walk_at "up"))
  | fail)

section
variable {P : Program} {w : World} {K : PySem.W.Frag} {mg : Str → Option Value} {base : Heap} {ad : Ad} {H : Hp} {Q : VK} {E : XK} {i j x y : Int} {v : V}
/-! ### rows -/
/-- all signs of z are among those of w -/
def okS (z w : Str) : Bool := (tl z).all fun c => decide (c ∈ tl w)
/-- x is a text (told), or no text -/
def RowV (K : PySem.W.Frag) (H : Hp) (x : V) : Option Str → Prop
  | some z => x = .str z ∧ z.length ≤ 1000
  | none => ∃ t, TyX K H x t ∧ PySem.W.kitOne K t (.type "str") = some false
def sp_is_written (K : PySem.W.Frag) : Sp := fun vs H Q _ => ∃ x w g, vs = [x, .str w] ∧ RowV K H x g ∧ ∀ H', Stp none H H' → Q (.bl (g.elim false (okS · w))) H'
theorem ok_is_written (T : Txt K mg ad) : FnG P w K mg base CX0 1 ad.is_written ad.is_written_d P_is_written (sp_is_written K) := by
  refine Fun.g T.F_is_written sc_is_written (fun vs H Q E h => ?_) (fun cdv A outer s H vs Q E hr hg h => ?_)
  · obtain ⟨x, w, g, rfl, _⟩ := h
    rfl
  · obtain ⟨x, w, g, rfl, hx, q⟩ := h
    refine ⟨_, (pss_one (ps_ret (pe_and (pe_callB call_isi (by rfl) T.z_isinstance (by decide +kernel) (pa_cons (pv 0) (pa_cons (pe_bltn (v := V.ty "str") (u := Value.type "str") (by rfl) T.z_str (by decide +kernel) rfl) pa_nil))) (pe_one (pe_callB (cr_all rfl) (by rfl) T.z_all (by decide +kernel) (pa_cons (pe_lc (own := [("sign", 2)]) (g := gName 2) (tt := tYes) rfl sc_is_written.nd (pi_str (pv 0)) (blkOk_by (own := [("sign", 2)]) (N := N_is_written) (sc := defScope s_is_written) (by decide +kernel)) (fun _ _ _ _ _ => (pg_name (i := 2) sc_is_written.nd rfl (Or.inl rfl))) (fun _ _ _ _ _ => pts_nil) (fun _ _ _ _ _ => (pe_cmpR op_inS (pv 2) (pv 1) (by rfl))) ) pa_nil)))))), ?_⟩
    walk_at "go"
    cases g with
    | none =>
      obtain ⟨t, ty, e⟩ := hx
      refine r_isi (.ty _) ty e ?_
      walk_at "go"
      exact q H (Stp.refl _ _)
    | some z =>
      obtain ⟨rfl, hl⟩ := hx
      refine r_isiSS ?_
      walk_at "go"
      have hz : (tl z).length = z.cps.size := by simp
      have hz2 : z.cps.size ≤ 1000 := hl
      refine LcJ.flat (walk_str (z := z)) (fun _ _ => trivial) (Nat.lt_of_le_of_lt hz2 (by decide)) (fun _ => true) (fun i => .bl (decide ((tl z).getD i 0 ∈ tl w))) (fun i x H2 H2' hi s y Y1 N1 h1 h2 => ?_) (fun p H2 s hp np => ?_)
      · obtain ⟨rfl, c, hc, rfl⟩ := y
        walk_at "go"
        refine ⟨rfl, ?_⟩
        walk_at "go"
        have e : (tl z).getD i 0 = c := by
          rw [List.getD_eq_getElem?_getD, Array.getElem?_toList, hc]; rfl
        have h1' := h1 rfl _ (Stp.refl _ _)
        simp only [e] at h1'
        exact h1'
      · walk_at "go"
        have e : (((List.range z.cps.size).filter fun _ => true).map fun i => V.bl (decide ((tl z).getD i 0 ∈ tl w))) = ((tl z).map fun c => decide (c ∈ tl w)).map V.bl := by
          rw [List.filter_eq_self.mpr (by simp), ← hz, List.map_map]
          refine List.ext_getElem (by simp) fun i h1 h2 => ?_
          have hi : i < (tl z).length := by simpa using h2
          simp only [List.getElem_map, List.getElem_range, Function.comp, List.getD_eq_getElem?_getD, List.getElem?_eq_getElem hi, Option.getD_some]
        rw [e] at hp
        refine r_all (SqL.of hp) ?_
        have e2 : ((tl z).map fun c => decide (c ∈ tl w)).all id = okS z w := by
          unfold okS
          rw [List.all_map]; rfl
        rw [e2]
        exact q _ s
theorem ty_mv {H H' : Hp} {x : V} {t : Value} (s : Stp none H H') (h : TyX K H x t) : TyX K H' x t := by
  cases h with
  | base b =>
    cases b with
    | non => exact .base .non
    | bl b => exact .base (.bl b)
    | int i => exact .base (.int i)
    | str z => exact .base (.str z)
    | flt z => exact .base (.flt z)
    | lst e => exact .base (.lst (s.all _ _ e))
    | frz e => exact .base (.frz (s.all _ _ e))
    | tup e => exact .base (.tup (s.all _ _ e))
    | dK e => exact .base (.dK (s.all _ _ e))
    | dT e => exact .base (.dT (s.all _ _ e))
    | ins e a b c d f => exact .base (.ins (s.all _ _ e) a b c d f)
  | byt b => exact .byt b
  | set e => exact .set (s.all _ _ e)
  | kList e c => exact .kList e c
  | kTuple e c => exact .kTuple e c
  | kDict e c => exact .kDict e c
  | fTuple e => exact .fTuple (s.all _ _ e)
  | fDict e => exact .fDict (s.all _ _ e)
theorem RowV.mv {H H' : Hp} {x : V} {g : Option Str} (s : Stp none H H') (h : RowV K H x g) : RowV K H' x g := by
  cases g with
  | none => obtain ⟨t, ty, e⟩ := h; exact ⟨t, ty_mv s ty, e⟩
  | some z => exact h
/-- the items of a list are told as rows -/
def RowsV (K : PySem.W.Frag) (H : Hp) (xs : List V) (gs : List (Option Str)) : Prop := xs.length = gs.length ∧ ∀ (i : Nat) (x : V), xs[i]? = some x → ∃ g, gs[i]? = some g ∧ RowV K H x g
theorem RowsV.mv {H H' : Hp} {xs : List V} {gs : List (Option Str)} (s : Stp none H H') (h : RowsV K H xs gs) : RowsV K H' xs gs :=
  ⟨h.1, fun i x e => (let ⟨g, e2, r⟩ := h.2 i x e; ⟨g, e2, RowV.mv s r⟩)⟩
theorem RowsV.nil : RowsV K H [] [] := ⟨rfl, fun i x h => by cases h⟩
theorem RowsV.cons {xs : List V} {gs : List (Option Str)} {x : V} {g : Option Str} (r : RowV K H x g) (h : RowsV K H xs gs) : RowsV K H (x :: xs) (g :: gs) := by
  refine ⟨by rw [List.length_cons, List.length_cons, h.1], fun i y e => ?_⟩
  cases i with
  | zero => cases e; exact ⟨g, rfl, r⟩
  | succ i => exact h.2 i y e
theorem RowsV.append {xs ys : List V} {gs fs : List (Option Str)} (h : RowsV K H xs gs) (h2 : RowsV K H ys fs) : RowsV K H (xs ++ ys) (gs ++ fs) := by
  refine ⟨by rw [List.length_append, List.length_append, h.1, h2.1], fun i x e => ?_⟩
  by_cases hi : i < xs.length
  · rw [List.getElem?_append_left hi] at e
    obtain ⟨g, e2, r⟩ := h.2 i x e
    exact ⟨g, by rw [List.getElem?_append_left (by rw [← h.1]; exact hi)]; exact e2, r⟩
  · rw [List.getElem?_append_right (by omega)] at e
    obtain ⟨g, e2, r⟩ := h2.2 _ x e
    exact ⟨g, by rw [List.getElem?_append_right (by rw [← h.1]; omega), ← h.1]; exact e2, r⟩
/-- the row is one of a good length and signs -/
def rowOk (w : Str) (m : Int) (n : Nat) : Option Str → Bool
  | some z => okS z w && decide (1 ≤ z.length ∧ (z.length : Int) ≤ m) && decide (z.length = n)
  | none => false
theorem rowOk_some {w z : Str} {m : Int} {n : Nat} : rowOk w m n (some z) = (okS z w && decide (1 ≤ z.length ∧ (z.length : Int) ≤ m) && decide (z.length = n)) := rfl
/-- how long the first row is -/
def len0 (gs : List (Option Str)) : Nat := match gs with | some z :: _ => z.length | _ => 0
/-- the index of the first bad row -/
def firstBad (w : Str) (m : Int) (gs : List (Option Str)) : Option Nat := gs.findIdx? fun g => !rowOk w m (len0 gs) g
/-- what check_rows makes of v: none, or the index that the error keeps -/
def RowsIs (K : PySem.W.Frag) (H : Hp) (v : V) (w : Str) (m : Int) (o : Option V) : Prop :=
  (∃ t, TyX K H v t ∧ PySem.W.kitAny K t [.type "list", .type "tuple"] = some false ∧ o = some .non) ∨
  ∃ p xs, v = .ref p ∧ (SqL K H p xs ∨ SqT K H p xs) ∧ xs.length ≤ 100000 ∧
    ((¬ (1 ≤ (xs.length : Int) ∧ (xs.length : Int) ≤ m) ∧ o = some .non) ∨
     ((1 ≤ (xs.length : Int) ∧ (xs.length : Int) ≤ m) ∧ ∃ gs, RowsV K H xs gs ∧ o = (firstBad w m gs).map fun i => V.int (i : Nat)))
theorem firstBad_at {w : Str} {m : Int} {gs : List (Option Str)} {i : Nat} {g : Option Str} (e : gs[i]? = some g) (hb : rowOk w m (len0 gs) g = false) (ho : ∀ j g', j < i → gs[j]? = some g' → rowOk w m (len0 gs) g' = true) : firstBad w m gs = some i := by
  unfold firstBad
  rw [List.findIdx?_eq_some_iff_getElem]
  obtain ⟨hi, e⟩ := List.getElem?_eq_some_iff.mp e
  refine ⟨hi, by rw [e, hb]; rfl, fun j hj => ?_⟩
  have := ho j gs[j] hj (List.getElem?_eq_getElem _)
  rw [this]
  decide
theorem firstBad_none {w : Str} {m : Int} {gs : List (Option Str)} (ho : ∀ j g', j < gs.length → gs[j]? = some g' → rowOk w m (len0 gs) g' = true) : firstBad w m gs = none := by
  unfold firstBad
  rw [List.findIdx?_eq_none_iff]
  intro g hg
  obtain ⟨j, hj, e⟩ := List.getElem_of_mem hg
  have := ho j g hj (by rw [List.getElem?_eq_getElem hj, e])
  rw [this]
  rfl
theorem ty_tl {p : Addr} {xs : List V} (h : SqL K H p xs ∨ SqT K H p xs) : ∃ t, TyX K H (.ref p) t ∧ PySem.W.kitAny K t [.type "list", .type "tuple"] = some true := by
  rcases h with h | h
  · exact ⟨_, ty_lst h, kitAny_cons (b := true) (kit_ty (by decide +kernel)) (fun z => nomatch z) (fun _ => rfl)⟩
  · exact ⟨_, ty_tup h, kitAny_cons (b := false) (kit_ty (by decide +kernel)) (fun _ => kitAny_cons (b := true) (kit_ty (by decide +kernel)) (fun z => nomatch z) fun _ => rfl) (fun z => nomatch z)⟩
theorem sq_mv {p : Addr} {xs : List V} {H H' : Hp} (s : Stp none H H') (h : SqL K H p xs ∨ SqT K H p xs) : SqL K H' p xs ∨ SqT K H' p xs := h.elim (fun h => .inl (SqL.mvN s h)) fun h => .inr (SqT.mvS s h)
theorem r_nN {p : Prop} [Decidable p] {A B : Prop} (h : ¬ p) (q : A) : if (!decide p) = true then A else B := by
  rw [if_pos (by simp [h])]; exact q
theorem rowsIs_mv {H H' : Hp} {v : V} {w : Str} {m : Int} {o : Option V} (s : Stp none H H') (h : RowsIs K H v w m o) : RowsIs K H' v w m o := by
  rcases h with ⟨t, ty, e, eo⟩ | ⟨p, xs, ev, hs, hl, hc⟩
  · exact .inl ⟨t, ty_mv s ty, e, eo⟩
  · refine .inr ⟨p, xs, ev, sq_mv s hs, hl, ?_⟩
    rcases hc with hc | ⟨h1, gs, hg, eo⟩
    · exact .inl hc
    · exact .inr ⟨h1, gs, RowsV.mv s hg, eo⟩
/-- an item of a list or a tuple -/
theorem r_ixA {p : Addr} {xs : List V} {n : Nat} (h : SqL K H p xs ∨ SqT K H p xs) (hn : xs[n]? = some v) (q : Q v H) : rIx K (.ref p) (.int (n : Nat)) H Q := by
  rcases h with h | h
  · exact .inl ⟨p, xs, _, v, rfl, rfl, h, atI_nat hn, q⟩
  · exact .inr (.inl ⟨p, xs, _, v, rfl, rfl, h, atI_nat hn, q⟩)
theorem r_lenA {p : Addr} {xs : List V} (h : SqL K H p xs ∨ SqT K H p xs) (q : Q (.int xs.length) H) : rLenV K [.ref p] H Q := ⟨p, xs, rfl, h, q⟩
theorem do_is_written {z : Str} {g : Option Str} (h : RowV K H v g) (k : ∀ H', Stp none H H' → Q (.bl (g.elim false (okS · z))) H') : sp_is_written K [v, .str z] H Q E := ⟨v, z, g, rfl, h, k⟩
def sp_check_rows (K : PySem.W.Frag) (C : Addr) : Sp := fun vs H Q E => ∃ v w m o, vs = [v, .str w, .int m] ∧ RowsIs K H v w m o ∧ m ≤ 1000 ∧
  (o = none → ∀ H', Stp none H H' → Q .non H') ∧ (∀ y, o = some y → ∀ H' d, Stp none H H' → H' d = none → E (.ref C) (some d) (upd H' d (.xd [("index", y)])))
theorem ok_check_rows (T : Txt K mg ad) : FnG P w K mg base (L2.CX P w) 3 ad.check_rows ad.check_rows_d P_check_rows (sp_check_rows K ad.C_InvalidRows) := by
  have G_is_written := ok_is_written (P := P) (w := w) (base := base) T
  have G_InvalidRows_init := xinit_ok (P := P) (w := w) (K := K) (mg := mg) (base := base) (k := 0) T.F_InvalidRows_init sc_InvalidRows_init rfl (.inl rfl) (.inl rfl) rfl rfl
  refine Fun.g T.F_check_rows sc_check_rows (fun vs H Q E h => ?_) (fun cdv A outer s H vs Q E hr hg h => ?_)
  · obtain ⟨v, w, m, o, rfl, _⟩ := h
    rfl
  · obtain ⟨v, w, m, o, rfl, hR, hm, q1, q2⟩ := h
    refine ⟨_, (pss_cons (ps_if (PW.pt (pw_or (pt_not (pt_val (pe_callB call_isiT (by rfl) T.z_isinstance (by decide +kernel) (pa_cons (pv 0) (pa_cons (pe_tup (pa_cons (pe_bltn (v := V.ty "list") (u := Value.type "list") (by rfl) T.z_list (by decide +kernel) rfl) (pa_cons (pe_bltn (v := V.ty "tuple") (u := Value.type "tuple") (by rfl) T.z_tuple (by decide +kernel) rfl) pa_nil))) pa_nil))))) (pw_or1 (pt_not (pt_chain op_le op_le pe_int (pe_callB call_len_seq (by rfl) T.z_len (by decide +kernel) (pa_cons (pv 0) pa_nil)) (pv 2))))))
      (pss_one (ps_x rfl takes_cx (pmk_x T.x_InvalidRows G_InvalidRows_init (hr.mono (by decide)) T.b_InvalidRows_init (by rfl) T.g_InvalidRows pe_non))) pss_nil)
      (pss_one (ps_for (passes_of rfl) rfl (pi_enumA (by rfl) T.z_enumerate (pa_cons (pv 0) pa_nil)) (pg_tup (n := 2) rfl (pgs_cons (pg_name (i := 3) sc_check_rows.nd rfl (Or.inl rfl)) (pgs_cons (pg_name (i := 4) sc_check_rows.nd rfl (Or.inl rfl)) pgs_nil)))
      (pss_one (ps_if (PW.pt (pw_or (pt_not (pt_val (peg_call G_is_written (hr.mono (by decide)) hg (by rfl) T.g_is_written T.F_is_written.kp T.b_is_written .nil pass0 (pa_cons (pv 4) (pa_cons (pv 1) pa_nil))))) (pw_or (pt_not (pt_chain op_le op_le pe_int (pe_callB call_len_str (by rfl) T.z_len (by decide +kernel) (pa_cons (pv 4) pa_nil)) (pv 2))) (pw_or1 (pt_cmpR op_ne (pe_callB call_len_str (by rfl) T.z_len (by decide +kernel) (pa_cons (pv 4) pa_nil)) (pe_callB call_len_str (by rfl) T.z_len (by decide +kernel) (pa_cons (pe_ix ix_seq (pv 0) pe_int (fun _ _ => rfl)) pa_nil)) (nomark _))))))
      (pss_one (ps_x rfl takes_cx (pmk_x T.x_InvalidRows G_InvalidRows_init (hr.mono (by decide)) T.b_InvalidRows_init (by rfl) T.g_InvalidRows (pv 3)))) pss_nil))))), ?_⟩
    walk_at "go"
    refine r_newT (sz100 (Nat.le_of_ble_eq_true rfl)) fun tp H1 S1 htp ntp => ?_
    have pc : Paired ClsV [V.ty "list", V.ty "tuple"] [.type "list", .type "tuple"] := .cons (.ty _) (.cons (.ty _) .nil)
    walk_at "go"
    rcases hR with ⟨t, ty, ek, eo⟩ | ⟨p, xs, ev, hsq, hlen, hc⟩
    · refine r_isiT htp pc (ty_mv S1 ty) ek ?_
      walk_at "go"
      exact fun d hd => q2 _ eo _ d S1 hd
    · subst ev
      obtain ⟨t, ty, ek⟩ := ty_tl hsq
      refine r_isiT htp pc (ty_mv S1 ty) ek ?_
      walk_at "go"
      refine r_lenA (sq_mv S1 hsq) ?_
      walk_at "go"
      rcases hc with ⟨hno, eo⟩ | ⟨⟨l1, l2⟩, gs, hgs, eo⟩
      · refine r_ite (fun h1 => ?_) (fun h1 => ?_)
        · walk_at "go"
          exact fun d hd => q2 _ eo _ d S1 hd
        · walk_at "go"
          exact fun d hd => q2 _ eo _ d S1 hd
      · refine r_pX l1 ?_
        walk_at "go"
        refine it_e (sq_mv S1 hsq) fun J G wk hG => ?_
        refine ForJ.ok wk (fun i σ H' => ∃ b3 b4, σ = [some (.ref p), some (.str w), some (.int m), b3, b4] ∧ Stp none H1 H' ∧ ∀ j g', j < i → gs[j]? = some g' → rowOk w m (len0 gs) g' = true)
          ⟨none, none, rfl, Stp.refl _ _, fun j g' h => absurd h (Nat.not_lt_zero _)⟩ (fun i σ H' hi pv => (let ⟨_, _, _, s, _⟩ := pv; hG H' s)) ?_ ?_
        · rintro i z σ H' H2 hi ⟨b3, b4, rfl, s1, ho⟩ ⟨T, x, y, rfl, nT, rfl, ex, ey⟩
          cases ex
          obtain ⟨g, eg, rg⟩ := hgs.2 i y ey
          have sT : Stp none H' (upd H' T (.tup [.int (i : Nat), y])) := Stp.new nT
          have s2 : Stp none H (upd H' T (.tup [.int (i : Nat), y])) := S1.trans (s1.trans sT)
          refine r_unT2 (a := .int (i : Nat)) (b := y) upd_same ?_
          generalize upd H' T (.tup [.int (i : Nat), y]) = H3 at sT s2 ⊢
          walk_at "go"
          refine do_is_written (RowV.mv s2 rg) fun H4 S4 => ?_
          have s4 : Stp none H H4 := s2.trans S4
          have bad : rowOk w m (len0 gs) g = false → ∀ d, H4 d = none → E (.ref ad.C_InvalidRows) (some d) (upd H4 d (.xd [("index", .int (i : Nat))])) := fun hb d hd =>
            q2 _ (by rw [eo, firstBad_at eg hb ho]; rfl) H4 d s4 hd
          walk_at "go"
          cases g with
          | none =>
            refine r_iT rfl ?_
            walk_at "go"
            exact bad rfl
          | some z =>
            obtain ⟨rfl, hz⟩ := rg
            show if (!okS z w) = true then _ else _
            cases hk : okS z w with
            | false =>
              refine r_iT rfl ?_
              walk_at "go"
              exact bad (by rw [rowOk_some, hk]; rfl)
            | true =>
              refine r_iF rfl ?_
              walk_at "go"
              refine r_lenS (by omega) ?_
              walk_at "go"
              refine r_ite (fun k1 => ?_) (fun k1 => ?_)
              · walk_at "go"
                refine r_iteN (fun k2 => ?_) (fun k2 => ?_)
                · walk_at "go"
                  refine bad ?_
                  rw [rowOk_some, decide_eq_false (show ¬ (1 ≤ z.length ∧ (z.length : Int) ≤ m) from fun h => k2 h.2), Bool.and_false, Bool.false_and]
                · walk_at "go"
                  refine r_lenS (by omega) ?_
                  walk_at "go"
                  have fst : ∃ z0 : Str, xs[0]? = some (.str z0) ∧ z0.length ≤ 1000 ∧ len0 gs = z0.length := by
                    have h0 : 0 < xs.length := by omega
                    obtain ⟨g0, e0, r0⟩ := hgs.2 0 xs[0] (List.getElem?_eq_getElem h0)
                    have hg0 : ∃ z0, g0 = some z0 := by
                      rcases Nat.eq_zero_or_pos i with hi0 | hi0
                      · subst hi0
                        rw [eg] at e0
                        exact ⟨z, (Option.some.inj e0).symm⟩
                      · have := ho 0 g0 hi0 e0
                        cases g0 with
                        | none => cases this
                        | some z0 => exact ⟨z0, rfl⟩
                    obtain ⟨z0, rfl⟩ := hg0
                    refine ⟨z0, by rw [List.getElem?_eq_getElem h0, r0.1], r0.2, ?_⟩
                    cases gs with
                    | nil => cases e0
                    | cons a r => cases e0; rfl
                  obtain ⟨z0, ez0, hz0, el⟩ := fst
                  refine r_ixA (n := 0) (sq_mv s4 hsq) ez0 ?_
                  walk_at "go"
                  refine r_lenS (by omega) ?_
                  walk_at "go"
                  refine r_iteN (fun k3 => ?_) (fun k3 => ?_)
                  · walk_at "go"
                    refine bad ?_
                    rw [rowOk_some, decide_eq_false (show ¬ z.length = len0 gs by omega), Bool.and_false]
                  · walk_at "go"
                    refine ⟨_, _, rfl, s1.trans (sT.trans S4), fun j g' hj ej => ?_⟩
                    rcases Nat.lt_succ_iff_lt_or_eq.mp hj with hj | rfl
                    · exact ho j g' hj ej
                    · rw [eg] at ej
                      cases ej
                      rw [rowOk_some, hk, decide_eq_true (show z.length = len0 gs by omega), decide_eq_true (show 1 ≤ z.length ∧ (z.length : Int) ≤ m from ⟨by omega, k2⟩)]
                      rfl
              · walk_at "go"
                refine bad ?_
                rw [rowOk_some, decide_eq_false (show ¬ (1 ≤ z.length ∧ (z.length : Int) ≤ m) from fun h => k1 (by omega)), Bool.and_false, Bool.false_and]
        · rintro σ H' ⟨b3, b4, rfl, s1, ho⟩
          walk_at "go"
          refine q1 ?_ H' (S1.trans s1)
          rw [eo, firstBad_none]
          · rfl
          · rw [← hgs.1]
            exact ho
end
end Law

set_option Elab.async false
set_option linter.all false
set_option maxRecDepth 100000
set_option maxHeartbeats 4000000
namespace Law
open PySem PySem.Spec PyProof.Rows L2 MV TL
local macro_rules | `(tactic| walk_at "up") => `(tactic| first
  | assumption
  | (refine' IT.mv ?s ?g; (case s => assumption); (case g => walk_at "up"))
  | (refine' IT.k ?g; (case g => walk_at "up"))
  | (refine' IK.mv ?s ?g; (case s => assumption); (case g => walk_at "up"))
  | (refine' Tape.mvN ?s ?g; (case s => assumption); (case g => walk_at "up"))
  | (refine' Tape.mvS ?s ?g; (case s => assumption); (case g => walk_at "up"))
  | (refine' At.tup ?s ?g; (case s => assumption); (case g => walk_at "up"))
  | (refine' At.ins ?s ?g; (case s => assumption); (case g => walk_at "up"))
  | (refine' At.lst ?s ?g; (case s => assumption); (case g => walk_at "up"))
  | (refine' At.lstS ?s ?n ?g; (case s => assumption); (case n => assumption); (case g => walk_at "up"))
  | fail)
local macro_rules | `(tactic| walk_at "st") => `(tactic| first
  | assumption
  | exact Stp.refl _ _
  | (refine' Stp.w ?s; (case s => assumption))
  | (refine' Stp.trans ?g ?s; (case s => (first | assumption | (refine' Stp.w ?u; (case u => assumption)))); (case g => walk_at "st"))
  | fail)
local macro_rules | `(tactic| walk_at "bT") => `(tactic| first
  | decide
  | (simp only [Bool.not_eq_true', Bool.not_eq_false', decide_eq_true_eq, decide_eq_false_iff_not]; omega)
  | fail)
local macro_rules | `(tactic| walk_at "sd") => `(tactic| first | assumption | decide | omega | fail)
local macro_rules | `(tactic| walk_at "r") => `(tactic| first
  | (with_reducible refine r_seq ?_)
  | (with_reducible refine r_asg ?_)
  | ((with_reducible refine' r_var ?h ?k); (case h => rfl))
  | (with_reducible refine r_c ?_)
  | (with_reducible refine r_op ?_)
  | (with_reducible refine r_un ?_)
  | (with_reducible refine r_nil ?_)
  | (with_reducible refine r_cons ?_)
  | (with_reducible refine r_tup ?_)
  | (with_reducible refine r_lst ?_)
  | (with_reducible refine r_cbLen ?_)
  | (with_reducible refine r_cbInt ?_)
  | (with_reducible refine r_cbRepr ?_)
  | (with_reducible refine r_cbTup ?_)
  | (with_reducible refine r_cbLst ?_)
  | (with_reducible refine r_cb ?_)
  | (with_reducible refine r_prop ?_)
  | (with_reducible refine r_andV ?_)
  | (with_reducible refine r_orV ?_)
  | (with_reducible refine r_notV ?_)
  | (with_reducible refine r_chain ?_)
  | (with_reducible refine r_ifE ?_)
  | (with_reducible refine r_test ?_)
  | (with_reducible refine r_B ?_)
  | (with_reducible refine r_and ?_)
  | (with_reducible refine r_or ?_)
  | (with_reducible refine r_not ?_)
  | (with_reducible refine r_yes ?_)
  | (with_reducible refine r_k ?_)
  | (with_reducible refine r_kV ?_)
  | (with_reducible refine r_next ?_)
  | (with_reducible refine r_drop ?_)
  | (with_reducible refine r_ret ?_)
  | (with_reducible refine r_ifS ?_)
  | (with_reducible refine r_par ?_)
  | (with_reducible refine r_par1 ?_)
  | (with_reducible refine r_gname ?_)
  | (with_reducible refine r_gnil ?_)
  | (with_reducible refine r_gcons ?_)
  | ((with_reducible refine' r_unpack2 ?h ?k); (case h => walk_at "up"))
  | ((with_reducible refine' r_unpack3 ?h ?k); (case h => walk_at "up"))
  | (with_reducible refine r_add ?_)
  | (with_reducible refine r_sub ?_)
  | (with_reducible refine r_neg ?_)
  | ((with_reducible refine' r_mod ?h ?k); (case h => walk_at "sd"))
  | ((with_reducible refine' r_div ?h ?k); (case h => walk_at "sd"))
  | ((with_reducible refine' r_mul ?h ?k); (case h => walk_at "sd"))
  | ((with_reducible refine' r_mulW ?h ?k); (case h => walk_at "sd"))
  | ((with_reducible refine' r_pow ?h ?k); (case h => (show (0 : Int) ≤ _ ∧ _ ∧ _; decide)))
  | (with_reducible refine r_lt ?_)
  | (with_reducible refine r_le ?_)
  | (with_reducible refine r_gt ?_)
  | (with_reducible refine r_ge ?_)
  | (with_reducible refine r_eqI ?_)
  | (with_reducible refine r_neI ?_)
  | (with_reducible refine r_eqS ?_)
  | (with_reducible refine r_neS ?_)
  | ((with_reducible refine' r_eqT ?h ?g ?k); (case h => walk_at "up"); (case g => walk_at "up"))
  | ((with_reducible refine' r_neT ?h ?g ?k); (case h => walk_at "up"); (case g => walk_at "up"))
  | ((with_reducible refine' r_ix0 ?h ?k); (case h => walk_at "up"))
  | ((with_reducible refine' r_ix1 ?h ?k); (case h => walk_at "up"))
  | ((with_reducible refine' r_ix2 ?h ?k); (case h => walk_at "up"))
  | (with_reducible refine r_newI2 (fun v H2 S I => ?_))
  | (with_reducible refine r_newI3 (fun v H2 S I => ?_))
  | (with_reducible refine r_newL1 (fun p H2 S hp np => ?_))
  | (with_reducible refine r_newL2 (fun p H2 S hp np => ?_))
  | (with_reducible refine r_newL3 (fun p H2 S hp np => ?_))
  | (with_reducible refine r_T ?_)
  | (with_reducible refine r_F ?_)
  | fail)
local macro_rules | `(tactic| walk_at "go") => `(tactic| repeat (walk_at "r"))
local macro_rules | `(tactic| walk_at "r") => `(tactic| first
  | (with_reducible refine r_call0 ?_)
  | (with_reducible refine r_meth0 ?_)
  | (with_reducible refine r_make0 ?_)
  | (with_reducible refine r_isiII ?_)
  | (with_reducible refine r_isiIB ?_)
  | ((with_reducible refine' r_isiTT ?h ?k); (case h => walk_at "up"))
  | ((with_reducible refine' r_len2 ?h ?k); (case h => walk_at "up"))
  | ((with_reducible refine' r_len3 ?h ?k); (case h => walk_at "up"))
  | ((with_reducible refine' r_lenL ?h ?k); (case h => walk_at "up"))
  | (with_reducible refine r_int1 ?_)
  | (with_reducible refine r_int1B ?_)
  | (with_reducible refine r_nT ?_)
  | (with_reducible refine r_nF ?_)
  | (with_reducible refine r_gcd ?_)
  | (with_reducible refine r_gsub ?_)
  | (with_reducible refine r_fld ?_)
  | (with_reducible refine r_p6 ?_)
  | (with_reducible refine r_p9 ?_)
  | (with_reducible refine r_p10 ?_)
  | (with_reducible refine r_p11 ?_)
  | (with_reducible refine r_p12 ?_)
  | (with_reducible refine r_p18 ?_)
  | (with_reducible refine r_p20 ?_)
  | (with_reducible refine r_p26 ?_)
  | (with_reducible refine r_p27 ?_)
  | (with_reducible refine r_p30 ?_)
  | ((with_reducible refine' r_iF ?h ?k); (case h => walk_at "bT"))
  | ((with_reducible refine' r_iT ?h ?k); (case h => walk_at "bT"))
  | (with_reducible refine r_sfld ?_)
  | (with_reducible refine r_sl ?_)
  | (with_reducible refine r_noPart ?_)
  | (with_reducible refine r_part ?_)
  | (with_reducible refine r_pk ?_)
  | ((with_reducible refine' r_unl2 ?h ?k); (case h => walk_at "up"))
  | ((with_reducible refine' r_ixLi ?h ?h0 ?hn ?k); (case h => walk_at "up"); (case h0 => walk_at "sd"); (case hn => rfl))
  | fail)

section
variable {P : Program} {w : World} {K : PySem.W.Frag} {mg : Str → Option Value} {base : Heap} {ad : Ad} {H : Hp} {Q : VK} {E : XK} {i j x y : Int} {v : V}
/-! ### draws -/
def sp_law_tape (K : PySem.W.Frag) : Sp := fun vs H Q _ => ∃ (l : Addr) (ns : List Int), vs = [.ref l] ∧ SqL K H l (ns.map V.int) ∧ ∀ t H', Stp none H H' → H t = none → Tape H' t → Q (.ref t) H'
theorem ok_law_tape (T : Txt K mg ad) : FnG P w K mg base CX0 1 ad.law_tape ad.law_tape_d P_law_tape (sp_law_tape K) := by
  refine Fun.g T.F_law_tape sc_law_tape (fun vs H Q E h => ?_) (fun cdv A outer s H vs Q E hr hg h => ?_)
  · obtain ⟨l, ns, rfl, _⟩ := h
    rfl
  · obtain ⟨l, ns, rfl, hl, q⟩ := h
    refine ⟨_, (pss_one (ps_ret (pe_lst (pa_cons (pe_callTy call_list_of (by rfl) T.z_list (by decide +kernel) (pa_cons (pe_slice sl_list (pv 0) po_none (po_some pe_int)) pa_nil)) (pa_cons pe_int (pa_cons pe_int (pa_cons pe_int pa_nil))))))), ?_⟩
    walk_at "go"
    refine r_slL hl fun l1 H1 S1 h1 n1 => ?_
    walk_at "go"
    refine r_lstL (SqL.of h1) fun l2 H2 S2 h2 n2 => ?_
    walk_at "go"
    refine r_newL (sz100 (Nat.le_of_ble_eq_true rfl)) fun t H3 S3 h3 n3 => ?_
    obtain ⟨ms, e⟩ := cutV_map ns none (some 63)
    rw [e] at h2
    have nl : l2 ≠ t := ne_of_none h2 n3
    refine q t H3 (by walk_at "st") ?_ ⟨l2, ms, 0, 0, 17, nl, h3, S3.all _ _ h2, by decide, by decide, by decide⟩
    cases z : H t with
    | none => rfl
    | some o => exact absurd (S2.all _ _ (S1.all _ _ z)) (by rw [n3]; simp)
theorem do_law_tape {l : Addr} {ns : List Int} (h : SqL K H l (ns.map V.int)) (k : ∀ t H', Stp none H H' → H t = none → Tape H' t → Q (.ref t) H') :
    sp_law_tape K [.ref l] H Q E := ⟨l, ns, rfl, h, k⟩

def sp_law_draw : Sp := fun vs H Q _ => ∃ t m, vs = [.ref t, .int m] ∧ Tape H t ∧ 0 < m ∧ m < 10 ^ 30 ∧ ∀ r H', 0 ≤ r → r < m → Stp (some t) H H' → Q (.int r) H'
theorem ok_law_draw (T : Txt K mg ad) : FnG P w K mg base CX0 1 ad.law_draw ad.law_draw_d P_law_draw sp_law_draw := by
  refine Fun.g T.F_law_draw sc_law_draw (fun vs H Q E h => ?_) (fun cdv A outer s H vs Q E hr hg h => ?_)
  · obtain ⟨t, m, rfl, _⟩ := h
    rfl
  · obtain ⟨t, m, rfl, hT, m0, m1, q⟩ := h
    obtain ⟨l, ns, a, b, c, X⟩ := hT.is
    have ht := X.at_
    have hl := X.li
    have a0 := X.a0
    have c0 := X.c0
    have c1 := X.c1
    have dv : ∀ z : Int, CDivW z m := fun z => divW_of m0 (by omega)
    have rm : ∀ z : Int, 0 ≤ z % m ∧ z % m < m := fun z => ⟨Int.emod_nonneg _ (by omega), Int.emod_lt_of_pos _ m0⟩
    refine ⟨_, (pss_cons (ps_if (pt_cmpR op_gt (pe_ix ix_seq (pv 0) pe_int (fun _ _ => rfl)) pe_int (nomark _))
      (pss_cons (ps_set (i := 2) sc_law_draw.nd rfl (Or.inl rfl) (pe_op op_mod (pe_ix ix_seq (pv 0) pe_int (fun _ _ => rfl)) (pv 1)))
      (pss_cons (ps_asg (pe_op op_fdivW (pe_ix ix_seq (pv 0) pe_int (fun _ _ => rfl)) (pv 1)) (pg_sub (pv 0) pe_int set_list))
      (pss_one (ps_ret (pv 2))))) pss_nil)
      (pss_cons (ps_set (i := 3) sc_law_draw.nd rfl (Or.inl rfl) pe_int)
      (pss_cons (ps_if (pt_cmpR op_lt (pe_ix ix_seq (pv 0) pe_int (fun _ _ => rfl)) (pe_callB call_len_seq (by rfl) T.z_len (by decide +kernel) (pa_cons (pe_ix ix_seq (pv 0) pe_int (fun _ _ => rfl)) pa_nil)) (nomark _))
      (pss_one (ps_set (i := 3) sc_law_draw.nd rfl (Or.inl rfl) (pe_ix ix_seq (pe_ix ix_seq (pv 0) pe_int (fun _ _ => rfl)) (pe_ix ix_seq (pv 0) pe_int (fun _ _ => rfl)) (fun _ _ => rfl)))) pss_nil)
      (pss_cons (ps_asg (pe_op op_add (pe_ix ix_seq (pv 0) pe_int (fun _ _ => rfl)) pe_int) (pg_sub (pv 0) pe_int set_list))
      (pss_cons (ps_if (pt_cmpR op_ge (pv 3) (pe_op op_pow pe_int pe_int) (nomark _))
      (pss_cons (ps_asg (pe_op op_fdivW (pv 3) (pv 1)) (pg_sub (pv 0) pe_int set_list))
      (pss_one (ps_ret (pe_op op_mod (pv 3) (pv 1))))) pss_nil)
      (pss_cons (ps_set (i := 4) sc_law_draw.nd rfl (Or.inl rfl) (pe_op op_add (pe_op op_add (pe_op op_mod (pv 3) pe_int) (pe_op op_mul pe_int (pe_ix ix_seq (pv 0) pe_int (fun _ _ => rfl)))) pe_int))
      (pss_cons (ps_asg (pe_op op_mod (pe_op op_add (pe_op op_mul (pe_ix ix_seq (pv 0) pe_int (fun _ _ => rfl)) pe_int) (pv 4)) pe_int) (pg_sub (pv 0) pe_int set_list))
      (pss_one (ps_ret (pe_op op_mod (pe_op op_mod (pe_op op_pow (pe_ix ix_seq (pv 0) pe_int (fun _ _ => rfl)) pe_int) pe_int) (pv 1))))))))))), ?_⟩
    walk_at "go"
    refine r_ite (fun hb => ?_) (fun hb => ?_)
    · walk_at "go"
      refine r_div (dv _) ?_
      walk_at "go"
      obtain ⟨S1, X1⟩ := X.put (a' := a) (b' := b / m) a0 c0 c1
      refine r_set2 ht ?_
      walk_at "go"
      exact q _ _ (rm _).1 (rm _).2 S1
    · walk_at "go"
      refine r_ite (fun ha => ?_) (fun ha => ?_)
      · have hz : ∃ z : Int, (ns.map V.int)[a.toNat]? = some (.int z) := by
          rw [List.length_map] at ha
          have : a.toNat < ns.length := by omega
          exact ⟨ns[a.toNat], by rw [List.getElem?_map, List.getElem?_eq_getElem this]; rfl⟩
        obtain ⟨z, hz⟩ := hz
        walk_at "go"
        refine r_ixLi hl a0 hz ?_
        walk_at "go"
        obtain ⟨S1, X1⟩ := X.put (a' := a + 1) (b' := b) (by omega) c0 c1
        refine r_set1 ht ?_
        generalize upd H t (.lst [.ref l, .int (a + 1), .int b, .int c]) = H1 at S1 X1 ⊢
        have ht1 := X1.at_
        walk_at "go"
        refine r_ite (fun hc => ?_) (fun hc => ?_)
        · walk_at "go"
          refine r_div (dv _) ?_
          walk_at "go"
          obtain ⟨S2, X2⟩ := X1.put (a' := a + 1) (b' := z / m) (by omega) c0 c1
          refine r_set2 ht1 ?_
          walk_at "go"
          exact q _ _ (rm _).1 (rm _).2 (S1.trans S2)
        · walk_at "go"
          refine r_mul (.inl ⟨by decide, by decide⟩) ?_
          walk_at "go"
          refine r_mul (.inl ⟨by omega, by omega⟩) ?_
          walk_at "go"
          have rm2 : ∀ z : Int, 0 ≤ z % 2147483647 ∧ z % 2147483647 < 2147483647 := fun z => ⟨Int.emod_nonneg _ (by omega), Int.emod_lt_of_pos _ (by omega)⟩
          obtain ⟨S2, X2⟩ := X1.put (a' := a + 1) (b' := b) (by omega) (rm2 _).1 (rm2 _).2
          refine r_set3 ht1 ?_
          have ht2 := X2.at_
          walk_at "go"
          refine r_pow ?_ ?_
          · have := rm2 (c * 48271 + (z % 2147483647 + 7919 * (a + 1) + 11))
            exact ⟨by decide, by decide, by omega⟩
          walk_at "go"
          exact q _ _ (rm _).1 (rm _).2 (S1.trans S2)
      · walk_at "go"
        obtain ⟨S1, X1⟩ := X.put (a' := a + 1) (b' := b) (by omega) c0 c1
        refine r_set1 ht ?_
        generalize upd H t (.lst [.ref l, .int (a + 1), .int b, .int c]) = H1 at S1 X1 ⊢
        have ht1 := X1.at_
        walk_at "go"
        refine r_mul (.inl ⟨by decide, by decide⟩) ?_
        walk_at "go"
        refine r_mul (.inl ⟨by omega, by omega⟩) ?_
        walk_at "go"
        have rm2 : ∀ z : Int, 0 ≤ z % 2147483647 ∧ z % 2147483647 < 2147483647 := fun z => ⟨Int.emod_nonneg _ (by omega), Int.emod_lt_of_pos _ (by omega)⟩
        obtain ⟨S2, X2⟩ := X1.put (a' := a + 1) (b' := b) (by omega) (rm2 _).1 (rm2 _).2
        refine r_set3 ht1 ?_
        have ht2 := X2.at_
        walk_at "go"
        refine r_pow ?_ ?_
        · have := rm2 (c * 48271 + (0 % 2147483647 + 7919 * (a + 1) + 11))
          exact ⟨by decide, by decide, by omega⟩
        walk_at "go"
        exact q _ _ (rm _).1 (rm _).2 (S1.trans S2)
theorem do_law_draw {t : Addr} {m : Int} (T : Tape H t) (h0 : 0 < m) (h1 : m < 10 ^ 30) (k : ∀ r H', 0 ≤ r → r < m → Stp (some t) H H' → Q (.int r) H') :
    sp_law_draw [.ref t, .int m] H Q E := ⟨t, m, rfl, T, h0, h1, k⟩
local macro_rules | `(tactic| walk_at "dr") => `(tactic| (refine do_law_draw (by walk_at "up") (by first | decide | omega) (by first | decide | omega) ?_))
end
end Law

set_option Elab.async false
set_option linter.all false
set_option maxRecDepth 100000
set_option maxHeartbeats 4000000
namespace Law
open PySem PySem.Spec PyProof.Rows L2 MV TL
local macro_rules | `(tactic| walk_at "up") => `(tactic| first
  | assumption
  | (refine' IT.mv ?s ?g; (case s => assumption); (case g => walk_at "up"))
  | (refine' IT.k ?g; (case g => walk_at "up"))
  | (refine' IK.mv ?s ?g; (case s => assumption); (case g => walk_at "up"))
  | (refine' Tape.mvN ?s ?g; (case s => assumption); (case g => walk_at "up"))
  | (refine' Tape.mvS ?s ?g; (case s => assumption); (case g => walk_at "up"))
  | (refine' At.tup ?s ?g; (case s => assumption); (case g => walk_at "up"))
  | (refine' At.ins ?s ?g; (case s => assumption); (case g => walk_at "up"))
  | (refine' At.lst ?s ?g; (case s => assumption); (case g => walk_at "up"))
  | (refine' At.lstS ?s ?n ?g; (case s => assumption); (case n => assumption); (case g => walk_at "up"))
  | fail)
local macro_rules | `(tactic| walk_at "st") => `(tactic| first
  | assumption
  | exact Stp.refl _ _
  | (refine' Stp.w ?s; (case s => assumption))
  | (refine' Stp.trans ?g ?s; (case s => (first | assumption | (refine' Stp.w ?u; (case u => assumption)))); (case g => walk_at "st"))
  | fail)
local macro_rules | `(tactic| walk_at "bT") => `(tactic| first
  | decide
  | (simp only [Bool.not_eq_true', Bool.not_eq_false', decide_eq_true_eq, decide_eq_false_iff_not]; omega)
  | fail)
local macro_rules | `(tactic| walk_at "sd") => `(tactic| first | assumption | decide | omega | fail)
local macro_rules | `(tactic| walk_at "r") => `(tactic| first
  | (with_reducible refine r_seq ?_)
  | (with_reducible refine r_asg ?_)
  | ((with_reducible refine' r_var ?h ?k); (case h => rfl))
  | (with_reducible refine r_c ?_)
  | (with_reducible refine r_op ?_)
  | (with_reducible refine r_un ?_)
  | (with_reducible refine r_nil ?_)
  | (with_reducible refine r_cons ?_)
  | (with_reducible refine r_tup ?_)
  | (with_reducible refine r_lst ?_)
  | (with_reducible refine r_cbLen ?_)
  | (with_reducible refine r_cbInt ?_)
  | (with_reducible refine r_cbRepr ?_)
  | (with_reducible refine r_cbTup ?_)
  | (with_reducible refine r_cbLst ?_)
  | (with_reducible refine r_cb ?_)
  | (with_reducible refine r_prop ?_)
  | (with_reducible refine r_andV ?_)
  | (with_reducible refine r_orV ?_)
  | (with_reducible refine r_notV ?_)
  | (with_reducible refine r_chain ?_)
  | (with_reducible refine r_ifE ?_)
  | (with_reducible refine r_test ?_)
  | (with_reducible refine r_B ?_)
  | (with_reducible refine r_and ?_)
  | (with_reducible refine r_or ?_)
  | (with_reducible refine r_not ?_)
  | (with_reducible refine r_yes ?_)
  | (with_reducible refine r_k ?_)
  | (with_reducible refine r_kV ?_)
  | (with_reducible refine r_next ?_)
  | (with_reducible refine r_drop ?_)
  | (with_reducible refine r_ret ?_)
  | (with_reducible refine r_ifS ?_)
  | (with_reducible refine r_par ?_)
  | (with_reducible refine r_par1 ?_)
  | (with_reducible refine r_gname ?_)
  | (with_reducible refine r_gnil ?_)
  | (with_reducible refine r_gcons ?_)
  | ((with_reducible refine' r_unpack2 ?h ?k); (case h => walk_at "up"))
  | ((with_reducible refine' r_unpack3 ?h ?k); (case h => walk_at "up"))
  | (with_reducible refine r_add ?_)
  | (with_reducible refine r_sub ?_)
  | (with_reducible refine r_neg ?_)
  | ((with_reducible refine' r_mod ?h ?k); (case h => walk_at "sd"))
  | ((with_reducible refine' r_div ?h ?k); (case h => walk_at "sd"))
  | ((with_reducible refine' r_mul ?h ?k); (case h => walk_at "sd"))
  | ((with_reducible refine' r_mulW ?h ?k); (case h => walk_at "sd"))
  | ((with_reducible refine' r_pow ?h ?k); (case h => (show (0 : Int) ≤ _ ∧ _ ∧ _; decide)))
  | (with_reducible refine r_lt ?_)
  | (with_reducible refine r_le ?_)
  | (with_reducible refine r_gt ?_)
  | (with_reducible refine r_ge ?_)
  | (with_reducible refine r_eqI ?_)
  | (with_reducible refine r_neI ?_)
  | (with_reducible refine r_eqS ?_)
  | (with_reducible refine r_neS ?_)
  | ((with_reducible refine' r_eqT ?h ?g ?k); (case h => walk_at "up"); (case g => walk_at "up"))
  | ((with_reducible refine' r_neT ?h ?g ?k); (case h => walk_at "up"); (case g => walk_at "up"))
  | ((with_reducible refine' r_ix0 ?h ?k); (case h => walk_at "up"))
  | ((with_reducible refine' r_ix1 ?h ?k); (case h => walk_at "up"))
  | ((with_reducible refine' r_ix2 ?h ?k); (case h => walk_at "up"))
  | (with_reducible refine r_newI2 (fun v H2 S I => ?_))
  | (with_reducible refine r_newI3 (fun v H2 S I => ?_))
  | (with_reducible refine r_newL1 (fun p H2 S hp np => ?_))
  | (with_reducible refine r_newL2 (fun p H2 S hp np => ?_))
  | (with_reducible refine r_newL3 (fun p H2 S hp np => ?_))
  | (with_reducible refine r_T ?_)
  | (with_reducible refine r_F ?_)
  | fail)
local macro_rules | `(tactic| walk_at "go") => `(tactic| repeat (walk_at "r"))
local macro_rules | `(tactic| walk_at "r") => `(tactic| first
  | (with_reducible refine r_call0 ?_)
  | (with_reducible refine r_meth0 ?_)
  | (with_reducible refine r_make0 ?_)
  | (with_reducible refine r_isiII ?_)
  | (with_reducible refine r_isiIB ?_)
  | ((with_reducible refine' r_isiTT ?h ?k); (case h => walk_at "up"))
  | ((with_reducible refine' r_len2 ?h ?k); (case h => walk_at "up"))
  | ((with_reducible refine' r_len3 ?h ?k); (case h => walk_at "up"))
  | ((with_reducible refine' r_lenL ?h ?k); (case h => walk_at "up"))
  | (with_reducible refine r_int1 ?_)
  | (with_reducible refine r_int1B ?_)
  | (with_reducible refine r_nT ?_)
  | (with_reducible refine r_nF ?_)
  | (with_reducible refine r_gcd ?_)
  | (with_reducible refine r_gsub ?_)
  | (with_reducible refine r_fld ?_)
  | (with_reducible refine r_p6 ?_)
  | (with_reducible refine r_p9 ?_)
  | (with_reducible refine r_p10 ?_)
  | (with_reducible refine r_p11 ?_)
  | (with_reducible refine r_p12 ?_)
  | (with_reducible refine r_p18 ?_)
  | (with_reducible refine r_p20 ?_)
  | (with_reducible refine r_p26 ?_)
  | (with_reducible refine r_p27 ?_)
  | (with_reducible refine r_p30 ?_)
  | ((with_reducible refine' r_iF ?h ?k); (case h => walk_at "bT"))
  | ((with_reducible refine' r_iT ?h ?k); (case h => walk_at "bT"))
  | (with_reducible refine r_sfld ?_)
  | (with_reducible refine r_sl ?_)
  | (with_reducible refine r_noPart ?_)
  | (with_reducible refine r_part ?_)
  | (with_reducible refine r_pk ?_)
  | ((with_reducible refine' r_unl2 ?h ?k); (case h => walk_at "up"))
  | ((with_reducible refine' r_ixLi ?h ?h0 ?hn ?k); (case h => walk_at "up"); (case h0 => walk_at "sd"); (case hn => rfl))
  | fail)

local macro_rules | `(tactic| walk_at "r") => `(tactic| first
  | (with_reducible refine r_for ?_)
  | (with_reducible refine r_lc ?_)
  | (with_reducible refine r_iList ?_)
  | (with_reducible refine r_iTup ?_)
  | (with_reducible refine r_iStr ?_)
  | (with_reducible refine it_s ?_)
  | (with_reducible refine r_iRng1 ?_)
  | (with_reducible refine r_iRng2 ?_)
  | (with_reducible refine r_iEnumA ?_)
  | (with_reducible refine r_bm ?_)
  | (with_reducible refine r_inS ?_)
  | (with_reducible refine r_cbAll ?_)
  | (with_reducible refine r_cbIsiT ?_)
  | (with_reducible refine r_cbLenS ?_)
  | (with_reducible refine r_makeK0 ?_)
  | (with_reducible refine r_makeK1 ?_)
  | (with_reducible refine mkk1 ?_)
  | fail)
local macro_rules | `(tactic| walk_at "up") => `(tactic| first
  | (refine' SqL.mvN ?s ?g; (case s => assumption); (case g => walk_at "up"))
  | (refine' SqT.mvS ?s ?g; (case s => assumption); (case g => walk_at "up"))
  | fail)

local macro_rules | `(tactic| walk_at "up") => `(tactic| first
  | (refine' sq_mv ?s ?g; (case s => assumption); (case g => walk_at "up"))
  | fail)

section
variable {P : Program} {w : World} {K : PySem.W.Frag} {mg : Str → Option Value} {base : Heap} {ad : Ad} {H : Hp} {Q : VK} {E : XK} {i j x y : Int} {v : V}
abbrev SG : Str := ("abcdefghijklmnopqrstuvwxyz" : Str) ++ ("." : Str)
/-- good rows of a patch -/
structure Good (ss : List Str) : Prop where
  l1 : 1 ≤ ss.length
  l2 : ss.length ≤ 50
  w : ∃ n, 1 ≤ n ∧ n ≤ 50 ∧ ∀ z ∈ ss, z.length = n ∧ okS z SG = true
theorem rows_strs {ss : List Str} (h : ∀ z ∈ ss, z.length ≤ 1000) : RowsV K H (ss.map V.str) (ss.map some) := by
  refine ⟨by rw [List.length_map, List.length_map], fun i x e => ?_⟩
  rw [List.getElem?_map] at e
  obtain ⟨z, ez, rfl⟩ := Option.map_eq_some_iff.mp e
  exact ⟨some z, by rw [List.getElem?_map, ez]; rfl, rfl, h z (List.mem_of_getElem? ez)⟩
theorem Good.is {a : Addr} {ss : List Str} (g : Good ss) (h : SqL K H a (ss.map V.str) ∨ SqT K H a (ss.map V.str)) : RowsIs K H (.ref a) SG 50 none := by
  obtain ⟨l1, l2, n, n1, n2, hz⟩ := g
  refine .inr ⟨a, _, rfl, h, by rw [List.length_map]; omega, .inr ⟨by rw [List.length_map]; omega, ss.map some, rows_strs fun z m => ?_, ?_⟩⟩
  · rw [(hz z m).1]
    omega
  · rw [firstBad_none]
    · rfl
    · intro j g' _ e
      rw [List.getElem?_map] at e
      obtain ⟨z, ez, rfl⟩ := Option.map_eq_some_iff.mp e
      obtain ⟨e1, e2⟩ := hz z (List.mem_of_getElem? ez)
      have e3 : len0 (ss.map some) = n := by
        cases ss with
        | nil => cases ez
        | cons a r => exact (hz a List.mem_cons_self).1
      rw [rowOk_some, e2, decide_eq_true (show 1 ≤ z.length ∧ (z.length : Int) ≤ 50 by omega), e3, decide_eq_true e1]
      rfl
/-- v is a Patch that holds the list l of the texts ss -/
def PA (C : Addr) (H : Hp) (v : V) (l : Addr) (ss : List Str) : Prop := ∃ p dx, v = .ref p ∧ H p = some (.ins C dx (putF "_rows" (.ref l) [])) ∧ H l = some (.lst (ss.map V.str))
theorem PA.mv {C : Addr} {H H' : Hp} {v : V} {l : Addr} {ss : List Str} (s : Stp none H H') (h : PA C H v l ss) : PA C H' v l ss := by
  obtain ⟨p, dx, e, h1, h2⟩ := h
  exact ⟨p, dx, e, s.all _ _ h1, s.all _ _ h2⟩
theorem PA.mvS {C t : Addr} {H H' : Hp} {v : V} {l : Addr} {ss : List Str} (s : Stp (some t) H H') (n : l ≠ t) (h : PA C H v l ss) : PA C H' v l ss := by
  obtain ⟨p, dx, e, h1, h2⟩ := h
  exact ⟨p, dx, e, At.ins s h1, At.lstS s n h2⟩
def sp_Patch_init (K : PySem.W.Frag) (C CE : Addr) : Sp := fun vs H Q E => ∃ p dx v, vs = [.ref p, v] ∧ H p = some (.ins C dx []) ∧
  ((∃ a ss, v = .ref a ∧ (SqL K H a (ss.map V.str) ∨ SqT K H a (ss.map V.str)) ∧ Good ss ∧ ∀ H' l, (∀ b o, b ≠ p → H b = some o → H' b = some o) → H l = none → PA C H' (.ref p) l ss → Q .non H') ∨
   (∃ y, RowsIs K H v SG 50 (some y) ∧ ∀ H' d, Stp none H H' → H' d = none → E (.ref CE) (some d) (upd H' d (.xd [("index", y)]))))
theorem ok_Patch_init (T : Txt K mg ad) : FnG P w K mg base (L2.CX P w) 4 ad.Patch_init ad.Patch_init_d P_Patch_init (sp_Patch_init K ad.C_Patch ad.C_InvalidRows) := by
  have G_check_rows := ok_check_rows (P := P) (w := w) (base := base) T
  refine Fun.g T.F_Patch_init sc_Patch_init (fun vs H Q E h => ?_) (fun cdv A outer s H vs Q E hr hg h => ?_)
  · obtain ⟨p, dx, v, rfl, _⟩ := h
    rfl
  · obtain ⟨p, dx, v, rfl, hp, q⟩ := h
    refine ⟨_, (pss_cons (ps_expr (peg_call G_check_rows (hr.mono (by decide)) hg (by rfl) T.g_check_rows T.F_check_rows.kp T.b_check_rows .nil passX (pa_cons (pv 1) (pa_cons (pe_op op_addS (peg_gc (by rfl) T.v_LETTERS) (peg_gc (by rfl) T.v_ANY_COLOUR)) (pa_cons (peg_gc (by rfl) T.v_SIDE_LIMIT) pa_nil)))))
      (pss_one (ps_fld (pv 0) (pe_callTy call_list_of (by rfl) T.z_list (by decide +kernel) (pa_cons (pv 1) pa_nil)) rfl))), ?_⟩
    have lsg : ("abcdefghijklmnopqrstuvwxyz" : Str).length + ("." : Str).length ≤ 100000 := by decide +kernel
    walk_at "go"
    refine r_addS lsg ?_
    walk_at "go"
    rcases q with ⟨a, ss, rfl, hsq, hG, q⟩ | ⟨y, hR, q⟩
    · refine ⟨_, SG, 50, none, rfl, hG.is hsq, by decide, fun _ H1 S1 => ?_, fun y e => (nomatch e)⟩
      walk_at "go"
      refine r_lstA (sq_mv S1 hsq) fun l H2 S2 hl nl => ?_
      walk_at "go"
      have hp2 : H2 p = some (.ins ad.C_Patch dx []) := S2.all _ _ (S1.all _ _ hp)
      refine ⟨p, ad.C_Patch, dx, [], rfl, hp2, T.cl_Patch, T.n_rows, Nat.zero_lt_succ _, ?_⟩
      have nlp : l ≠ p := fun e => by rw [e, S1.all _ _ hp] at nl; cases nl
      refine q _ l (fun b o nb e => ?_) ?_ ⟨p, dx, rfl, upd_same, by rw [upd_ne nlp]; exact hl⟩
      · rw [upd_ne nb]
        exact S2.all _ _ (S1.all _ _ e)
      · cases z : H l with
        | none => rfl
        | some o => rw [S1.all _ _ z] at nl; cases nl
    · exact ⟨_, SG, 50, some y, rfl, hR, by decide, fun e => (nomatch e), fun y' e H' d S hd => by cases e; exact q H' d S hd⟩
theorem made_stp {C x dx : Addr} (hx : H x = none) (hd : H dx = none) : Stp none H (upd (upd H dx (.own x)) x (.ins C dx [])) := Stp.of (fun b o e => by
  rw [upd_ne (ne_of_none e hx), upd_ne (ne_of_none e hd)]
  exact e) none
/-- Patch(rows) -/
theorem do_Patch {C CE a : Addr} {ss : List Str} (h : SqL K H a (ss.map V.str) ∨ SqT K H a (ss.map V.str)) (g : Good ss) (k : ∀ v l H', Stp none H H' → H l = none → PA C H' v l ss → Q v H') :
    MkR C (sp_Patch_init K C CE) [.ref a] H Q E := by
  intro x dx hx hd ne
  have s := made_stp (C := C) hx hd
  refine ⟨x, dx, _, rfl, upd_same, .inl ⟨a, ss, rfl, sq_mv s h, g, fun H' l s' nl hP => ⟨rfl, k _ l _ (Stp.of (fun b o e => s' b o (ne_of_none e hx) (s.all _ _ e)) none) ?_ hP⟩⟩⟩
  cases z : H l with
  | none => rfl
  | some o => rw [s.all _ _ z] at nl; cases nl
theorem do_PatchBad {C CE : Addr} {y : V} (h : RowsIs K H v SG 50 (some y)) (k : ∀ H' d, Stp none H H' → H' d = none → E (.ref CE) (some d) (upd H' d (.xd [("index", y)]))) :
    MkR C (sp_Patch_init K C CE) [v] H Q E := by
  intro x dx hx hd ne
  have s := made_stp (C := C) hx hd
  exact ⟨x, dx, v, rfl, upd_same, .inr ⟨y, rowsIs_mv s h, fun H' d s' hd' => k H' d (s.trans s') hd'⟩⟩
end
end Law

set_option Elab.async false
set_option linter.all false
set_option maxRecDepth 100000
set_option maxHeartbeats 4000000
namespace Law
open PySem PySem.Spec PyProof.Rows L2 MV TL
local macro_rules | `(tactic| walk_at "up") => `(tactic| first
  | assumption
  | (refine' IT.mv ?s ?g; (case s => assumption); (case g => walk_at "up"))
  | (refine' IT.k ?g; (case g => walk_at "up"))
  | (refine' IK.mv ?s ?g; (case s => assumption); (case g => walk_at "up"))
  | (refine' Tape.mvN ?s ?g; (case s => assumption); (case g => walk_at "up"))
  | (refine' Tape.mvS ?s ?g; (case s => assumption); (case g => walk_at "up"))
  | (refine' At.tup ?s ?g; (case s => assumption); (case g => walk_at "up"))
  | (refine' At.ins ?s ?g; (case s => assumption); (case g => walk_at "up"))
  | (refine' At.lst ?s ?g; (case s => assumption); (case g => walk_at "up"))
  | (refine' At.lstS ?s ?n ?g; (case s => assumption); (case n => assumption); (case g => walk_at "up"))
  | fail)
local macro_rules | `(tactic| walk_at "st") => `(tactic| first
  | assumption
  | exact Stp.refl _ _
  | (refine' Stp.w ?s; (case s => assumption))
  | (refine' Stp.trans ?g ?s; (case s => (first | assumption | (refine' Stp.w ?u; (case u => assumption)))); (case g => walk_at "st"))
  | fail)
local macro_rules | `(tactic| walk_at "bT") => `(tactic| first
  | decide
  | (simp only [Bool.not_eq_true', Bool.not_eq_false', decide_eq_true_eq, decide_eq_false_iff_not]; omega)
  | fail)
local macro_rules | `(tactic| walk_at "sd") => `(tactic| first | assumption | decide | omega | fail)
local macro_rules | `(tactic| walk_at "r") => `(tactic| first
  | (with_reducible refine r_seq ?_)
  | (with_reducible refine r_asg ?_)
  | ((with_reducible refine' r_var ?h ?k); (case h => rfl))
  | (with_reducible refine r_c ?_)
  | (with_reducible refine r_op ?_)
  | (with_reducible refine r_un ?_)
  | (with_reducible refine r_nil ?_)
  | (with_reducible refine r_cons ?_)
  | (with_reducible refine r_tup ?_)
  | (with_reducible refine r_lst ?_)
  | (with_reducible refine r_cbLen ?_)
  | (with_reducible refine r_cbInt ?_)
  | (with_reducible refine r_cbRepr ?_)
  | (with_reducible refine r_cbTup ?_)
  | (with_reducible refine r_cbLst ?_)
  | (with_reducible refine r_cb ?_)
  | (with_reducible refine r_prop ?_)
  | (with_reducible refine r_andV ?_)
  | (with_reducible refine r_orV ?_)
  | (with_reducible refine r_notV ?_)
  | (with_reducible refine r_chain ?_)
  | (with_reducible refine r_ifE ?_)
  | (with_reducible refine r_test ?_)
  | (with_reducible refine r_B ?_)
  | (with_reducible refine r_and ?_)
  | (with_reducible refine r_or ?_)
  | (with_reducible refine r_not ?_)
  | (with_reducible refine r_yes ?_)
  | (with_reducible refine r_k ?_)
  | (with_reducible refine r_kV ?_)
  | (with_reducible refine r_next ?_)
  | (with_reducible refine r_drop ?_)
  | (with_reducible refine r_ret ?_)
  | (with_reducible refine r_ifS ?_)
  | (with_reducible refine r_par ?_)
  | (with_reducible refine r_par1 ?_)
  | (with_reducible refine r_gname ?_)
  | (with_reducible refine r_gnil ?_)
  | (with_reducible refine r_gcons ?_)
  | ((with_reducible refine' r_unpack2 ?h ?k); (case h => walk_at "up"))
  | ((with_reducible refine' r_unpack3 ?h ?k); (case h => walk_at "up"))
  | (with_reducible refine r_add ?_)
  | (with_reducible refine r_sub ?_)
  | (with_reducible refine r_neg ?_)
  | ((with_reducible refine' r_mod ?h ?k); (case h => walk_at "sd"))
  | ((with_reducible refine' r_div ?h ?k); (case h => walk_at "sd"))
  | ((with_reducible refine' r_mul ?h ?k); (case h => walk_at "sd"))
  | ((with_reducible refine' r_mulW ?h ?k); (case h => walk_at "sd"))
  | ((with_reducible refine' r_pow ?h ?k); (case h => (show (0 : Int) ≤ _ ∧ _ ∧ _; decide)))
  | (with_reducible refine r_lt ?_)
  | (with_reducible refine r_le ?_)
  | (with_reducible refine r_gt ?_)
  | (with_reducible refine r_ge ?_)
  | (with_reducible refine r_eqI ?_)
  | (with_reducible refine r_neI ?_)
  | (with_reducible refine r_eqS ?_)
  | (with_reducible refine r_neS ?_)
  | ((with_reducible refine' r_eqT ?h ?g ?k); (case h => walk_at "up"); (case g => walk_at "up"))
  | ((with_reducible refine' r_neT ?h ?g ?k); (case h => walk_at "up"); (case g => walk_at "up"))
  | ((with_reducible refine' r_ix0 ?h ?k); (case h => walk_at "up"))
  | ((with_reducible refine' r_ix1 ?h ?k); (case h => walk_at "up"))
  | ((with_reducible refine' r_ix2 ?h ?k); (case h => walk_at "up"))
  | (with_reducible refine r_newI2 (fun v H2 S I => ?_))
  | (with_reducible refine r_newI3 (fun v H2 S I => ?_))
  | (with_reducible refine r_newL1 (fun p H2 S hp np => ?_))
  | (with_reducible refine r_newL2 (fun p H2 S hp np => ?_))
  | (with_reducible refine r_newL3 (fun p H2 S hp np => ?_))
  | (with_reducible refine r_T ?_)
  | (with_reducible refine r_F ?_)
  | fail)
local macro_rules | `(tactic| walk_at "go") => `(tactic| repeat (walk_at "r"))
local macro_rules | `(tactic| walk_at "r") => `(tactic| first
  | (with_reducible refine r_call0 ?_)
  | (with_reducible refine r_meth0 ?_)
  | (with_reducible refine r_make0 ?_)
  | (with_reducible refine r_isiII ?_)
  | (with_reducible refine r_isiIB ?_)
  | ((with_reducible refine' r_isiTT ?h ?k); (case h => walk_at "up"))
  | ((with_reducible refine' r_len2 ?h ?k); (case h => walk_at "up"))
  | ((with_reducible refine' r_len3 ?h ?k); (case h => walk_at "up"))
  | ((with_reducible refine' r_lenL ?h ?k); (case h => walk_at "up"))
  | (with_reducible refine r_int1 ?_)
  | (with_reducible refine r_int1B ?_)
  | (with_reducible refine r_nT ?_)
  | (with_reducible refine r_nF ?_)
  | (with_reducible refine r_gcd ?_)
  | (with_reducible refine r_gsub ?_)
  | (with_reducible refine r_fld ?_)
  | (with_reducible refine r_p6 ?_)
  | (with_reducible refine r_p9 ?_)
  | (with_reducible refine r_p10 ?_)
  | (with_reducible refine r_p11 ?_)
  | (with_reducible refine r_p12 ?_)
  | (with_reducible refine r_p18 ?_)
  | (with_reducible refine r_p20 ?_)
  | (with_reducible refine r_p26 ?_)
  | (with_reducible refine r_p27 ?_)
  | (with_reducible refine r_p30 ?_)
  | ((with_reducible refine' r_iF ?h ?k); (case h => walk_at "bT"))
  | ((with_reducible refine' r_iT ?h ?k); (case h => walk_at "bT"))
  | (with_reducible refine r_sfld ?_)
  | (with_reducible refine r_sl ?_)
  | (with_reducible refine r_noPart ?_)
  | (with_reducible refine r_part ?_)
  | (with_reducible refine r_pk ?_)
  | ((with_reducible refine' r_unl2 ?h ?k); (case h => walk_at "up"))
  | ((with_reducible refine' r_ixLi ?h ?h0 ?hn ?k); (case h => walk_at "up"); (case h0 => walk_at "sd"); (case hn => rfl))
  | fail)

local macro_rules | `(tactic| walk_at "r") => `(tactic| first
  | (with_reducible refine r_for ?_)
  | (with_reducible refine r_lc ?_)
  | (with_reducible refine r_iList ?_)
  | (with_reducible refine r_iTup ?_)
  | (with_reducible refine r_iStr ?_)
  | (with_reducible refine it_s ?_)
  | (with_reducible refine r_iRng1 ?_)
  | (with_reducible refine r_iRng2 ?_)
  | (with_reducible refine r_iEnumA ?_)
  | (with_reducible refine r_bm ?_)
  | (with_reducible refine r_inS ?_)
  | (with_reducible refine r_cbAll ?_)
  | (with_reducible refine r_cbIsiT ?_)
  | (with_reducible refine r_cbLenS ?_)
  | (with_reducible refine r_makeK0 ?_)
  | (with_reducible refine r_makeK1 ?_)
  | (with_reducible refine mkk1 ?_)
  | fail)
local macro_rules | `(tactic| walk_at "up") => `(tactic| first
  | (refine' SqL.mvN ?s ?g; (case s => assumption); (case g => walk_at "up"))
  | (refine' SqT.mvS ?s ?g; (case s => assumption); (case g => walk_at "up"))
  | fail)

local macro_rules | `(tactic| walk_at "up") => `(tactic| first
  | (refine' sq_mv ?s ?g; (case s => assumption); (case g => walk_at "up"))
  | fail)

local macro_rules | `(tactic| walk_at "up") => `(tactic| first | (refine' PA.mv ?s ?g; (case s => assumption); (case g => walk_at "up")) | fail)
section
variable {P : Program} {w : World} {K : PySem.W.Frag} {mg : Str → Option Value} {base : Heap} {ad : Ad} {H : Hp} {Q : VK} {E : XK} {i j x y : Int} {v : V}
theorem put_rows (u : V) : (putF "_rows" u []).lookup ("_rows" : Str) = some u := by rw [lookup_putF, if_pos rfl]
/-- v._rows -/
theorem r_rowsF {C p dx : Addr} {u : V} {K : PySem.W.Frag} (c : Cls K C) (n : NoAttr K C "_rows") (h : H p = some (.ins C dx (putF "_rows" u []))) (q : Q u H) : FldR K "_rows" (.ref p) H Q :=
  ⟨p, C, dx, _, u, rfl, h, c, n, put_rows u, q⟩
def sp_Patch_rows (C : Addr) : Sp := fun vs H Q _ => ∃ p l ss, vs = [.ref p] ∧ PA C H (.ref p) l ss ∧ ∀ l' H', Stp none H H' → H' l' = some (.lst (ss.map V.str)) → H l' = none → Q (.ref l') H'
theorem ok_Patch_rows (T : Txt K mg ad) : FnG P w K mg base CX0 1 ad.Patch_rows ad.Patch_rows_d P_Patch_rows (sp_Patch_rows ad.C_Patch) := by
  refine Fun.g T.F_Patch_rows sc_Patch_rows (fun vs H Q E h => ?_) (fun cdv A outer s H vs Q E hr hg h => ?_)
  · obtain ⟨p, l, ss, rfl, _⟩ := h
    rfl
  · obtain ⟨p, l, ss, rfl, ⟨p', dx, e, h1, h2⟩, q⟩ := h
    cases e
    refine ⟨_, (pss_one (ps_ret (pe_callTy call_list_of (by rfl) T.z_list (by decide +kernel) (pa_cons (pe_fld (pv 0) rfl) pa_nil)))), ?_⟩
    walk_at "go"
    refine r_rowsF T.cl_Patch T.n_rows h1 ?_
    walk_at "go"
    exact r_lstA (.inl (SqL.of h2)) fun l' H2 S2 hl nl => q l' H2 S2 hl nl
theorem do_rows {C l : Addr} {ss : List Str} (h : PA C H v l ss) (k : ∀ l' H', Stp none H H' → H' l' = some (.lst (ss.map V.str)) → H l' = none → Q (.ref l') H') :
    ∃ p dx fs, v = .ref p ∧ H p = some (.ins C dx fs) ∧ sp_Patch_rows C (.ref p :: []) H Q E := by
  have h' := h
  obtain ⟨p, dx, rfl, h1, _⟩ := h'
  exact ⟨p, dx, _, rfl, h1, p, l, ss, rfl, h, k⟩
def sp_Patch_width (C : Addr) : Sp := fun vs H Q _ => ∃ p l z ss, vs = [.ref p] ∧ PA C H (.ref p) l (z :: ss) ∧ z.length ≤ 1000 ∧ Q (.int z.length) H
theorem ok_Patch_width (T : Txt K mg ad) : FnG P w K mg base CX0 1 ad.Patch_width ad.Patch_width_d P_Patch_width (sp_Patch_width ad.C_Patch) := by
  refine Fun.g T.F_Patch_width sc_Patch_width (fun vs H Q E h => ?_) (fun cdv A outer s H vs Q E hr hg h => ?_)
  · obtain ⟨p, l, z, ss, rfl, _⟩ := h
    rfl
  · obtain ⟨p, l, z, ss, rfl, ⟨p', dx, e, h1, h2⟩, hz, q⟩ := h
    cases e
    refine ⟨_, (pss_one (ps_ret (pe_callB call_len_str (by rfl) T.z_len (by decide +kernel) (pa_cons (pe_ix ix_seq (pe_fld (pv 0) rfl) pe_int (fun _ _ => rfl)) pa_nil)))), ?_⟩
    walk_at "go"
    refine r_rowsF T.cl_Patch T.n_rows h1 ?_
    walk_at "go"
    exact r_lenS (by omega) q
theorem do_width {C l : Addr} {z : Str} {ss : List Str} (h : PA C H v l (z :: ss)) (hz : z.length ≤ 1000) (q : Q (.int z.length) H) :
    ∃ p dx fs, v = .ref p ∧ H p = some (.ins C dx fs) ∧ sp_Patch_width C (.ref p :: []) H Q E := by
  have h' := h
  obtain ⟨p, dx, rfl, h1, _⟩ := h'
  exact ⟨p, dx, _, rfl, h1, p, l, z, ss, rfl, h, hz, q⟩
def sp_Patch_height (C : Addr) : Sp := fun vs H Q _ => ∃ p l ss, vs = [.ref p] ∧ PA C H (.ref p) l ss ∧ Q (.int ss.length) H
theorem ok_Patch_height (T : Txt K mg ad) : FnG P w K mg base CX0 1 ad.Patch_height ad.Patch_height_d P_Patch_height (sp_Patch_height ad.C_Patch) := by
  refine Fun.g T.F_Patch_height sc_Patch_height (fun vs H Q E h => ?_) (fun cdv A outer s H vs Q E hr hg h => ?_)
  · obtain ⟨p, l, ss, rfl, _⟩ := h
    rfl
  · obtain ⟨p, l, ss, rfl, ⟨p', dx, e, h1, h2⟩, q⟩ := h
    cases e
    refine ⟨_, (pss_one (ps_ret (pe_callB call_len_seq (by rfl) T.z_len (by decide +kernel) (pa_cons (pe_fld (pv 0) rfl) pa_nil)))), ?_⟩
    walk_at "go"
    refine r_rowsF T.cl_Patch T.n_rows h1 ?_
    walk_at "go"
    rw [List.length_map]
    exact q
theorem do_height {C l : Addr} {ss : List Str} (h : PA C H v l ss) (q : Q (.int ss.length) H) :
    ∃ p dx fs, v = .ref p ∧ H p = some (.ins C dx fs) ∧ sp_Patch_height C (.ref p :: []) H Q E := by
  have h' := h
  obtain ⟨p, dx, rfl, h1, _⟩ := h'
  exact ⟨p, dx, _, rfl, h1, p, l, ss, rfl, h, q⟩
/-- the other one of ==: a patch, or a list -/
def sp_Patch_eq (K : PySem.W.Frag) (C : Addr) : Sp := fun vs H Q _ => ∃ v u l ss, vs = [v, u] ∧ PA C H v l ss ∧ Cd ss ∧
  ((∃ l' ts, PA C H u l' ts ∧ Cd ts ∧ Q (.bl (decide (ss = ts))) H) ∨ (TyX K H u (.type "list") ∧ Q (.bl false) H))
theorem ok_Patch_eq (T : Txt K mg ad) : FnG P w K mg base CX0 1 ad.Patch_eq ad.Patch_eq_d P_Patch_eq (sp_Patch_eq K ad.C_Patch) := by
  refine Fun.g T.F_Patch_eq sc_Patch_eq (fun vs H Q E h => ?_) (fun cdv A outer s H vs Q E hr hg h => ?_)
  · obtain ⟨v, u, l, ss, rfl, _⟩ := h
    rfl
  · obtain ⟨v, u, l, ss, rfl, ⟨p, dx, rfl, h1, h2⟩, cs, q⟩ := h
    refine ⟨_, (pss_one (ps_ret (pe_and (pe_callB call_isi (by rfl) T.z_isinstance (by decide +kernel) (pa_cons (pv 1) (pa_cons (pe_glob (v := V.ref ad.C_Patch) rfl T.g_Patch rfl) pa_nil))) (pe_one (pe_cmpR (op_eqD hr.units) (pe_fld (pv 0) rfl) (pe_fld (pv 1) rfl) (nomark _)))))), ?_⟩
    walk_at "go"
    rcases q with ⟨l', ts, ⟨p', dx', rfl, h3, h4⟩, ct, q⟩ | ⟨ty, q⟩
    · refine r_isi (.own _) (T.i_Patch.ty T.cl_Patch h3) kit_self ?_
      walk_at "go"
      refine r_rowsF T.cl_Patch T.n_rows h1 ?_
      walk_at "go"
      refine r_rowsF T.cl_Patch T.n_rows h3 ?_
      exact r_eqDs cs ct (SqL.of h2) (SqL.of h4) q
    · refine r_isi (.own _) ty T.kl_Patch ?_
      walk_at "go"
      exact q
theorem do_eqP {C l l' : Addr} {u : V} {ss ts : List Str} {neg : Bool} (ic : IsC K C) (cl : Cls K C) (h : PA C H v l ss) (h2 : PA C H u l' ts) (cs : Cd ss) (ct : Cd ts) (q : Q (.bl (if neg then !decide (ss = ts) else decide (ss = ts))) H) :
    rOwnEq K C (sp_Patch_eq K C) E neg v u H Q := by
  have h' := h
  have h2' := h2
  obtain ⟨p, dx, rfl, h1, _⟩ := h'
  obtain ⟨p', dx', rfl, h3, _⟩ := h2'
  exact ⟨p, dx, _, .ref C, rfl, h1, ic.ty cl h3, notFirst_self, _, _, l, ss, rfl, h, cs, .inl ⟨l', ts, h2, ct, _, rfl, q⟩⟩
theorem do_eqL {C l a : Addr} {xs : List V} {ss : List Str} (nf : PySem.W.notFirst K C (.type "list") = true) (h : PA C H v l ss) (h2 : SqL K H a xs) (cs : Cd ss) (q : Q (.bl false) H) :
    rOwnEq K C (sp_Patch_eq K C) E false v (.ref a) H Q := by
  have h' := h
  obtain ⟨p, dx, rfl, h1, _⟩ := h'
  exact ⟨p, dx, _, _, rfl, h1, ty_lst h2, nf, _, _, l, ss, rfl, h, cs, .inr ⟨ty_lst h2, _, rfl, q⟩⟩
def ptext (ss : List Str) : Str := (("Patch(" : Str) ++ (ds ss).shown) ++ (")" : Str)
def sp_Patch_repr (C : Addr) : Sp := fun vs H Q _ => ∃ v l ss, vs = [v] ∧ PA C H v l ss ∧ Tx 50 ss ∧ ss.length ≤ 50 ∧ Q (.str (ptext ss)) H
theorem ok_Patch_repr (T : Txt K mg ad) : FnG P w K mg base CX0 1 ad.Patch_repr ad.Patch_repr_d P_Patch_repr (sp_Patch_repr ad.C_Patch) := by
  refine Fun.g T.F_Patch_repr sc_Patch_repr (fun vs H Q E h => ?_) (fun cdv A outer s H vs Q E hr hg h => ?_)
  · obtain ⟨v, l, ss, rfl, _⟩ := h
    rfl
  · obtain ⟨v, l, ss, rfl, ⟨p, dx, rfl, h1, h2⟩, ht, hl, q⟩ := h
    have hb : ss.length * (10 * 50 + 4) ≤ 50 * 504 := Nat.mul_le_mul hl (Nat.le_refl _)
    have S := shw_ds ht (by omega)
    have l2 : (ds ss).shown.length ≤ 26000 := by
      have := ds_len ht
      omega
    refine ⟨_, (pss_one (ps_ret (pe_joined (PJ.cons pe_str (PJ.cons (pe_fmtD hg hr.units (pe_fld (pv 0) rfl)) (PJ.cons pe_str PJ.nil)))))), ?_⟩
    have e0 : Str.empty ++ ("Patch(" : Str) = "Patch(" := by decide +kernel
    have a1 : ("Patch(" : Str).length ≤ 7 := by decide +kernel
    have a2 := app_le a1 l2
    have a3 := app_le a2 (show (")" : Str).length ≤ 1 by decide +kernel)
    walk_at "go"
    refine r_js ?_
    refine r_c ?_
    refine r_jv (by rw [e0]; exact fits_of a1 (by decide)) ?_
    rw [e0]
    refine r_js (r_fmtD ?_)
    walk_at "go"
    refine r_rowsF T.cl_Patch T.n_rows h1 ?_
    refine ⟨l, ds ss, rfl, dp_ds (SqL.of h2), S, ?_⟩
    refine r_jv (fits_of a2 (by decide)) ?_
    refine r_js (r_c ?_)
    refine r_jv (fits_of a3 (by decide)) ?_
    exact q
theorem do_reprP {C l : Addr} {ss : List Str} (h : PA C H v l ss) (ht : Tx 50 ss) (hl : ss.length ≤ 50) (q : Q (.str (ptext ss)) H) : rOwnRepr C (sp_Patch_repr C) E [v] H Q := by
  have h' := h
  obtain ⟨p, dx, rfl, h1, _⟩ := h'
  exact ⟨p, dx, _, rfl, h1, _, l, ss, rfl, h, ht, hl, _, rfl, q⟩
/-! ### what the law hears -/
def told (o : Option V) : List V := match o with | none => [.str "none"] | some y => [.str "rows", y]
def sp_law_told (K : PySem.W.Frag) : Sp := fun vs H Q _ => ∃ v o, vs = [v] ∧ RowsIs K H v SG 50 o ∧ (o = none → ∃ a ss, v = .ref a ∧ (SqL K H a (ss.map V.str) ∨ SqT K H a (ss.map V.str)) ∧ Good ss) ∧ ∀ p H', Stp none H H' → H' p = some (.lst (told o)) → Q (.ref p) H'
theorem ok_law_told (T : Txt K mg ad) : FnG P w K mg base CX0 6 ad.law_told ad.law_told_d P_law_told (sp_law_told K) := by
  have G_Patch_init := ok_Patch_init (P := P) (w := w) (base := base) T
  refine Fun.gn T.F_law_told sc_law_told (fun vs H Q E h => ?_) (fun cdv A outer s H vs Q E hr hg h => ?_)
  · obtain ⟨v, o, rfl, _⟩ := h
    rfl
  · obtain ⟨v, o, rfl, hR, hG, q⟩ := h
    refine ⟨_, (pss_cons (ps_try_asN (n := "e") (i := 1) rfl rfl sc_law_told.nd rfl rfl takes_none5 (fun W pn xe tk _ => (pss_one (ps_expr (peg_make T.k_Patch G_Patch_init (hr.mono (by decide)) hg (by rfl) T.g_Patch T.b_Patch_init .nil (passT (E := fun cls d H => ∀ σ : L2.St, σ.length = N_law_told.length → W cls d σ H) (takes_len tk) (fun _ _ σ _ h hl => h σ hl)) (pa_cons (pv 0) pa_nil)))))
      (HdsAs.cons ⟨rfl, by decide, .inl T.g_InvalidRows⟩ (fun a oe cls d pn hz hf => (pss_one (ps_ret (pe_lst (pa_cons pe_str (pa_cons (pe_xf T.xf_InvalidRows T.x_InvalidRows.n hz hf (pv 1)) pa_nil)))))) HdsAs.nil))
      (pss_one (ps_ret (pe_lst (pa_cons pe_str pa_nil))))), ?_⟩
    walk_at "go"
    cases o with
    | none =>
      obtain ⟨a, ss, rfl, hsq, g⟩ := hG rfl
      refine do_Patch hsq g fun v l H1 S1 nl hP => ?_
      walk_at "go"
      rename_i p H2 S2 hp np
      exact q p H2 (S1.trans S2) hp
    | some y =>
      refine do_PatchBad hR fun H1 d S1 hd σ hσ => ⟨true, T.em_InvalidRows_InvalidRows, fun _ a ha => ?_, fun e => nomatch e⟩
      obtain ⟨c, e, rfl⟩ : ∃ c e, σ = [c, e] := by
        match σ, hσ with
        | [c, e], _ => exact ⟨c, e, rfl⟩
      walk_at "go"
      refine r_xf rfl rfl upd_same rfl rfl ?_
      walk_at "go"
      rename_i p H2 S2 hp np
      exact q p H2 (S1.trans ((Stp.new hd).trans S2)) hp
theorem do_law_told {o : Option V} (h : RowsIs K H v SG 50 o) (g : o = none → ∃ a ss, v = .ref a ∧ (SqL K H a (ss.map V.str) ∨ SqT K H a (ss.map V.str)) ∧ Good ss) (k : ∀ p H', Stp none H H' → H' p = some (.lst (told o)) → Q (.ref p) H') :
    sp_law_told K [v] H Q E := ⟨v, o, rfl, h, g, k⟩
end
end Law

set_option Elab.async false
set_option linter.all false
set_option maxRecDepth 100000
set_option maxHeartbeats 4000000
namespace Law
open PySem PySem.Spec PyProof.Rows L2 MV TL
local macro_rules | `(tactic| walk_at "up") => `(tactic| first
  | assumption
  | (refine' IT.mv ?s ?g; (case s => assumption); (case g => walk_at "up"))
  | (refine' IT.k ?g; (case g => walk_at "up"))
  | (refine' IK.mv ?s ?g; (case s => assumption); (case g => walk_at "up"))
  | (refine' Tape.mvN ?s ?g; (case s => assumption); (case g => walk_at "up"))
  | (refine' Tape.mvS ?s ?g; (case s => assumption); (case g => walk_at "up"))
  | (refine' At.tup ?s ?g; (case s => assumption); (case g => walk_at "up"))
  | (refine' At.ins ?s ?g; (case s => assumption); (case g => walk_at "up"))
  | (refine' At.lst ?s ?g; (case s => assumption); (case g => walk_at "up"))
  | (refine' At.lstS ?s ?n ?g; (case s => assumption); (case n => assumption); (case g => walk_at "up"))
  | fail)
local macro_rules | `(tactic| walk_at "st") => `(tactic| first
  | assumption
  | exact Stp.refl _ _
  | (refine' Stp.w ?s; (case s => assumption))
  | (refine' Stp.trans ?g ?s; (case s => (first | assumption | (refine' Stp.w ?u; (case u => assumption)))); (case g => walk_at "st"))
  | fail)
local macro_rules | `(tactic| walk_at "bT") => `(tactic| first
  | decide
  | (simp only [Bool.not_eq_true', Bool.not_eq_false', decide_eq_true_eq, decide_eq_false_iff_not]; omega)
  | fail)
local macro_rules | `(tactic| walk_at "sd") => `(tactic| first | assumption | decide | omega | fail)
local macro_rules | `(tactic| walk_at "r") => `(tactic| first
  | (with_reducible refine r_seq ?_)
  | (with_reducible refine r_asg ?_)
  | ((with_reducible refine' r_var ?h ?k); (case h => rfl))
  | (with_reducible refine r_c ?_)
  | (with_reducible refine r_op ?_)
  | (with_reducible refine r_un ?_)
  | (with_reducible refine r_nil ?_)
  | (with_reducible refine r_cons ?_)
  | (with_reducible refine r_tup ?_)
  | (with_reducible refine r_lst ?_)
  | (with_reducible refine r_cbLen ?_)
  | (with_reducible refine r_cbInt ?_)
  | (with_reducible refine r_cbRepr ?_)
  | (with_reducible refine r_cbTup ?_)
  | (with_reducible refine r_cbLst ?_)
  | (with_reducible refine r_cb ?_)
  | (with_reducible refine r_prop ?_)
  | (with_reducible refine r_andV ?_)
  | (with_reducible refine r_orV ?_)
  | (with_reducible refine r_notV ?_)
  | (with_reducible refine r_chain ?_)
  | (with_reducible refine r_ifE ?_)
  | (with_reducible refine r_test ?_)
  | (with_reducible refine r_B ?_)
  | (with_reducible refine r_and ?_)
  | (with_reducible refine r_or ?_)
  | (with_reducible refine r_not ?_)
  | (with_reducible refine r_yes ?_)
  | (with_reducible refine r_k ?_)
  | (with_reducible refine r_kV ?_)
  | (with_reducible refine r_next ?_)
  | (with_reducible refine r_drop ?_)
  | (with_reducible refine r_ret ?_)
  | (with_reducible refine r_ifS ?_)
  | (with_reducible refine r_par ?_)
  | (with_reducible refine r_par1 ?_)
  | (with_reducible refine r_gname ?_)
  | (with_reducible refine r_gnil ?_)
  | (with_reducible refine r_gcons ?_)
  | ((with_reducible refine' r_unpack2 ?h ?k); (case h => walk_at "up"))
  | ((with_reducible refine' r_unpack3 ?h ?k); (case h => walk_at "up"))
  | (with_reducible refine r_add ?_)
  | (with_reducible refine r_sub ?_)
  | (with_reducible refine r_neg ?_)
  | ((with_reducible refine' r_mod ?h ?k); (case h => walk_at "sd"))
  | ((with_reducible refine' r_div ?h ?k); (case h => walk_at "sd"))
  | ((with_reducible refine' r_mul ?h ?k); (case h => walk_at "sd"))
  | ((with_reducible refine' r_mulW ?h ?k); (case h => walk_at "sd"))
  | ((with_reducible refine' r_pow ?h ?k); (case h => (show (0 : Int) ≤ _ ∧ _ ∧ _; decide)))
  | (with_reducible refine r_lt ?_)
  | (with_reducible refine r_le ?_)
  | (with_reducible refine r_gt ?_)
  | (with_reducible refine r_ge ?_)
  | (with_reducible refine r_eqI ?_)
  | (with_reducible refine r_neI ?_)
  | (with_reducible refine r_eqS ?_)
  | (with_reducible refine r_neS ?_)
  | ((with_reducible refine' r_eqT ?h ?g ?k); (case h => walk_at "up"); (case g => walk_at "up"))
  | ((with_reducible refine' r_neT ?h ?g ?k); (case h => walk_at "up"); (case g => walk_at "up"))
  | ((with_reducible refine' r_ix0 ?h ?k); (case h => walk_at "up"))
  | ((with_reducible refine' r_ix1 ?h ?k); (case h => walk_at "up"))
  | ((with_reducible refine' r_ix2 ?h ?k); (case h => walk_at "up"))
  | (with_reducible refine r_newI2 (fun v H2 S I => ?_))
  | (with_reducible refine r_newI3 (fun v H2 S I => ?_))
  | (with_reducible refine r_newL1 (fun p H2 S hp np => ?_))
  | (with_reducible refine r_newL2 (fun p H2 S hp np => ?_))
  | (with_reducible refine r_newL3 (fun p H2 S hp np => ?_))
  | (with_reducible refine r_T ?_)
  | (with_reducible refine r_F ?_)
  | fail)
local macro_rules | `(tactic| walk_at "go") => `(tactic| repeat (walk_at "r"))
local macro_rules | `(tactic| walk_at "r") => `(tactic| first
  | (with_reducible refine r_call0 ?_)
  | (with_reducible refine r_meth0 ?_)
  | (with_reducible refine r_make0 ?_)
  | (with_reducible refine r_isiII ?_)
  | (with_reducible refine r_isiIB ?_)
  | ((with_reducible refine' r_isiTT ?h ?k); (case h => walk_at "up"))
  | ((with_reducible refine' r_len2 ?h ?k); (case h => walk_at "up"))
  | ((with_reducible refine' r_len3 ?h ?k); (case h => walk_at "up"))
  | ((with_reducible refine' r_lenL ?h ?k); (case h => walk_at "up"))
  | (with_reducible refine r_int1 ?_)
  | (with_reducible refine r_int1B ?_)
  | (with_reducible refine r_nT ?_)
  | (with_reducible refine r_nF ?_)
  | (with_reducible refine r_gcd ?_)
  | (with_reducible refine r_gsub ?_)
  | (with_reducible refine r_fld ?_)
  | (with_reducible refine r_p6 ?_)
  | (with_reducible refine r_p9 ?_)
  | (with_reducible refine r_p10 ?_)
  | (with_reducible refine r_p11 ?_)
  | (with_reducible refine r_p12 ?_)
  | (with_reducible refine r_p18 ?_)
  | (with_reducible refine r_p20 ?_)
  | (with_reducible refine r_p26 ?_)
  | (with_reducible refine r_p27 ?_)
  | (with_reducible refine r_p30 ?_)
  | ((with_reducible refine' r_iF ?h ?k); (case h => walk_at "bT"))
  | ((with_reducible refine' r_iT ?h ?k); (case h => walk_at "bT"))
  | (with_reducible refine r_sfld ?_)
  | (with_reducible refine r_sl ?_)
  | (with_reducible refine r_noPart ?_)
  | (with_reducible refine r_part ?_)
  | (with_reducible refine r_pk ?_)
  | ((with_reducible refine' r_unl2 ?h ?k); (case h => walk_at "up"))
  | ((with_reducible refine' r_ixLi ?h ?h0 ?hn ?k); (case h => walk_at "up"); (case h0 => walk_at "sd"); (case hn => rfl))
  | fail)

local macro_rules | `(tactic| walk_at "r") => `(tactic| first
  | (with_reducible refine r_for ?_)
  | (with_reducible refine r_lc ?_)
  | (with_reducible refine r_iList ?_)
  | (with_reducible refine r_iTup ?_)
  | (with_reducible refine r_iStr ?_)
  | (with_reducible refine it_s ?_)
  | (with_reducible refine r_iRng1 ?_)
  | (with_reducible refine r_iRng2 ?_)
  | (with_reducible refine r_iEnumA ?_)
  | (with_reducible refine r_bm ?_)
  | (with_reducible refine r_inS ?_)
  | (with_reducible refine r_cbAll ?_)
  | (with_reducible refine r_cbIsiT ?_)
  | (with_reducible refine r_cbLenS ?_)
  | (with_reducible refine r_makeK0 ?_)
  | (with_reducible refine r_makeK1 ?_)
  | (with_reducible refine mkk1 ?_)
  | fail)
local macro_rules | `(tactic| walk_at "up") => `(tactic| first
  | (refine' SqL.mvN ?s ?g; (case s => assumption); (case g => walk_at "up"))
  | (refine' SqT.mvS ?s ?g; (case s => assumption); (case g => walk_at "up"))
  | fail)

local macro_rules | `(tactic| walk_at "up") => `(tactic| first
  | (refine' sq_mv ?s ?g; (case s => assumption); (case g => walk_at "up"))
  | fail)

local macro_rules | `(tactic| walk_at "up") => `(tactic| first | (refine' PA.mv ?s ?g; (case s => assumption); (case g => walk_at "up")) | fail)
local macro_rules | `(tactic| walk_at "dr") => `(tactic| (refine do_law_draw (by walk_at "up") (by first | decide | omega) (by first | decide | omega) ?_))
section
variable {P : Program} {w : World} {K : PySem.W.Frag} {mg : Str → Option Value} {base : Heap} {ad : Ad} {H : Hp} {Q : VK} {E : XK} {i j x y : Int} {v : V}
/-- the rows that the law draws -/
structure Drawn (ss : List Str) (n : Nat) : Prop where
  l1 : 1 ≤ ss.length
  l2 : ss.length ≤ 6
  n1 : 1 ≤ n
  n2 : n ≤ 6
  z : ∀ z ∈ ss, z.length = n ∧ ∀ c ∈ tl z, c ∈ tl ("ab.z" : Str)
theorem sg_ok {c : Nat} (h : c ∈ tl ("ab.z" : Str)) : c ∈ tl SG ∧ c < 128 := by
  have e : tl ("ab.z" : Str) = [97, 98, 46, 122] := by decide +kernel
  rw [e] at h
  have : ∀ c ∈ [97, 98, 46, 122], c ∈ tl SG ∧ c < 128 := by decide +kernel
  exact this c h
theorem Drawn.good {ss : List Str} {n : Nat} (h : Drawn ss n) : Good ss := ⟨h.l1, by have := h.l2; omega, n, h.n1, by have := h.n2; omega, fun z m => ⟨(h.z z m).1, by
  unfold okS
  rw [List.all_eq_true]
  intro c hc
  exact decide_eq_true (sg_ok ((h.z z m).2 c hc)).1⟩⟩
theorem Drawn.cd {ss : List Str} {n : Nat} (h : Drawn ss n) : Cd ss := fun z m c hc => Nat.lt_trans (sg_ok ((h.z z m).2 c hc)).2 (by decide)
theorem Drawn.tx {ss : List Str} {n : Nat} (h : Drawn ss n) : Tx 50 ss := ⟨fun z m => by rw [(h.z z m).1]; have := h.n2; omega, h.cd⟩
theorem ne_tape {t l : Addr} {ss : List Str} (T : Tape H t) (h : H l = some (.lst (ss.map V.str))) : l ≠ t := by
  rintro rfl
  obtain ⟨l', ns, a, b, c, _, e, _⟩ := T
  rw [h] at e
  cases ss with
  | nil => cases e
  | cons z r => cases e
theorem tape_some {t : Addr} (T : Tape H t) : ∀ b, some t = some b → H b ≠ none := fun b e n => by
  cases e
  obtain ⟨l', ns, a, b, c, _, e, _⟩ := T
  rw [n] at e
  cases e
def sp_law_some : Sp := fun vs H Q _ => ∃ t, vs = [.ref t] ∧ Tape H t ∧ ∀ p ss n H', Stp (some t) H H' → H' p = some (.lst (ss.map V.str)) → H p = none → Drawn ss n → Q (.ref p) H'
theorem ok_law_some (T : Txt K mg ad) : FnG P w K mg base CX0 2 ad.law_some ad.law_some_d P_law_some sp_law_some := by
  have G_law_draw := ok_law_draw (P := P) (w := w) (base := base) T
  refine Fun.gn T.F_law_some sc_law_some (fun vs H Q E h => ?_) (fun cdv A outer s H vs Q E hr hg h => ?_)
  · obtain ⟨t, rfl, _⟩ := h
    rfl
  · obtain ⟨t, rfl, hT, q⟩ := h
    refine ⟨_, (pss_cons (ps_set (i := 1) sc_law_some.nd rfl (Or.inl rfl) (pe_op op_add pe_int (peg_call G_law_draw (hr.mono (by decide)) hg (by rfl) T.g_law_draw T.F_law_draw.kp T.b_law_draw .nil pass0 (pa_cons (pv 0) (pa_cons pe_int pa_nil)))))
      (pss_cons (ps_set (i := 2) sc_law_some.nd rfl (Or.inl rfl) (pe_lst pa_nil))
      (pss_cons (ps_for PassesOwn.never rfl (pi_range1 rfl T.z_range (pa_cons (pe_op op_add pe_int (peg_call G_law_draw (hr.mono (by decide)) hg (by rfl) T.g_law_draw T.F_law_draw.kp T.b_law_draw .nil pass0 (pa_cons (pv 0) (pa_cons pe_int pa_nil)))) pa_nil)) (pg_name (i := 3) sc_law_some.nd rfl (Or.inl rfl))
      (pss_one (ps_expr (pe_bm PySem.F.plainAttrs_list PySem.F.slot_list_append PySem.F.type_list_append mt_append (pv 2) (pa_cons (pe_bm PySem.F.plainAttrs_str PySem.F.slot_str_join PySem.F.type_str_join mt_joinR pe_str (pa_cons (pe_lc (own := [("_law_at", 4)]) (g := gName 4) (tt := tYes) rfl sc_law_some.nd (pi_range1 rfl T.z_range (pa_cons (pv 1) pa_nil)) (blkOk_by (own := [("_law_at", 4)]) (N := N_law_some) (sc := defScope s_law_some) (by decide +kernel)) (fun _ _ _ _ _ => (pg_name (i := 4) sc_law_some.nd rfl (Or.inl rfl))) (fun _ _ _ _ _ => pts_nil) (fun _ _ _ _ _ => (pe_ix (ix_seqk (K := K) rfl) pe_str (peg_call G_law_draw (hr.mono (by decide)) hg (by rfl) T.g_law_draw T.F_law_draw.kp T.b_law_draw .nil pass0 (pa_cons (pv 0) (pa_cons pe_int pa_nil))) (fun _ _ => rfl))) ) pa_nil)) pa_nil)))))
      (pss_one (ps_ret (pv 2)))))), ?_⟩
    walk_at "go"
    walk_at "dr"
    intro r1 H1 r10 r11 S1
    have T1 : Tape H1 t := hT.mvS S1
    walk_at "go"
    refine r_newL (sz100 (Nat.zero_le _)) fun f H2 S2 hf nf => ?_
    have T2 : Tape H2 t := T1.mvN S2
    have nft : f ≠ t := ne_tape (ss := []) T2 hf
    walk_at "go"
    walk_at "dr"
    intro r2 H3 r20 r21 S3
    have hf3 : H3 f = some (.lst []) := At.lstS S3 nft hf
    walk_at "go"
    refine it_r1 (by omega) (by omega) ?_
    have nf0 : H f = none := by
      cases z : H f with
      | none => rfl
      | some o =>
        have := S1.ge f o (fun e => absurd (Option.some.inj e).symm nft) z
        rw [nf] at this
        cases this
    refine ForJ.ok walk_range (fun i σ H' => ∃ ss t3 t4, σ = [some (.ref t), some (.int (1 + r1)), some (.ref f), t3, t4] ∧ Stp (some t) H1 H' ∧ H' f = some (.lst (ss.map V.str)) ∧ ss.length = i ∧ ∀ z ∈ ss, z.length = (1 + r1).toNat ∧ ∀ c ∈ tl z, c ∈ tl ("ab.z" : Str))
      ⟨[], none, none, rfl, S2.w.trans S3, hf3, rfl, fun z m => by cases m⟩ (fun _ _ _ _ _ => trivial) ?_ ?_
    · rintro i x σ H0 H4 hi ⟨ss, t3, t4, rfl, s4, hf4, hl, hz⟩ ⟨rfl, rfl⟩
      have T4 : Tape H4 t := T1.mvS s4
      walk_at "go"
      refine ⟨.inl ⟨rfl, _, SqL.of hf4⟩, ?_⟩
      walk_at "go"
      refine ⟨rfl, ?_⟩
      walk_at "go"
      refine it_r1 (by omega) (by omega) ?_
      refine LcJ.run (some t) (tape_some T4) walk_range (fun _ _ => trivial) (by have : (1 + r1).toNat ≤ 6 := by omega
                                                                                 exact Nat.lt_of_le_of_lt this (by decide)) (fun i acc _ => ∃ cs : List Nat, acc = cs.map (fun c => V.str ⟨#[c]⟩) ∧ cs.length = i ∧ ∀ c ∈ cs, c ∈ tl ("ab.z" : Str))
        ⟨[], rfl, rfl, fun c m => by cases m⟩ (fun i acc H' h => by obtain ⟨cs, rfl, e, _⟩ := h; rw [List.length_map]; omega) (fun _ _ _ _ _ _ h _ => h) ?_ ?_
      · rintro j x H5 H6 acc hj s5 ⟨cs, rfl, hcs, hc⟩ ⟨rfl, rfl⟩ Y1 N1 h1 h2
        have T6 : Tape H6 t := T4.mvS s5
        walk_at "go"
        refine ⟨rfl, ?_⟩
        walk_at "go"
        walk_at "dr"
        intro k1 H7 k10 k11 S7
        have e4 : tl ("ab.z" : Str) = [97, 98, 46, 122] := by decide +kernel
        obtain ⟨c, hc1, hc2⟩ : ∃ c, (tl ("ab.z" : Str))[k1.toNat]? = some c ∧ c ∈ tl ("ab.z" : Str) := by
          have : k1.toNat < (tl ("ab.z" : Str)).length := by rw [e4]; show k1.toNat < 4; omega
          exact ⟨_, List.getElem?_eq_getElem this, List.getElem_mem _⟩
        refine r_ixS k10 hc1 (by decide +kernel) ?_
        refine h1 _ H7 S7 ⟨cs ++ [c], by rw [List.map_append]; rfl, by rw [List.length_append, hcs]; rfl, fun d hd => ?_⟩
        rcases List.mem_append.mp hd with hd | hd
        · exact hc d hd
        · rw [List.mem_singleton.mp hd]; exact hc2
      · rintro p H5 acc s5 hp np ⟨cs, rfl, hcs, hc⟩
        walk_at "go"
        refine r_joinC hp (by omega) ?_
        have hf5 : H5 f = some (.lst (ss.map V.str)) := At.lstS s5 nft hf4
        walk_at "go"
        refine r_app hf5 (by rw [List.length_map]; exact Nat.lt_of_le_of_lt (show ss.length ≤ 6 by omega) (by decide)) ?_
        walk_at "go"
        refine ⟨ss ++ [⟨cs.toArray⟩], _, _, rfl, (s4.trans s5).put nf, by rw [upd_same, List.map_append]; rfl, by rw [List.length_append, hl]; rfl, fun z hzm => ?_⟩
        rcases List.mem_append.mp hzm with hzm | hzm
        · exact hz z hzm
        · rw [List.mem_singleton.mp hzm]
          exact ⟨hcs, hc⟩
    · rintro σ H4 ⟨ss, t3, t4, rfl, s4, hf4, hl, hz⟩
      walk_at "go"
      exact q f ss (1 + r1).toNat H4 (S1.trans s4) hf4 nf0 ⟨by omega, by omega, by omega, by omega, hz⟩
theorem do_law_some {t : Addr} (T : Tape H t) (k : ∀ p ss n H', Stp (some t) H H' → H' p = some (.lst (ss.map V.str)) → H p = none → Drawn ss n → Q (.ref p) H') : sp_law_some [.ref t] H Q E := ⟨t, rfl, T, k⟩
end
end Law

set_option Elab.async false
set_option linter.all false
set_option maxRecDepth 100000
set_option maxHeartbeats 4000000
namespace Law
open PySem PySem.Spec PyProof.Rows L2 MV TL
local macro_rules | `(tactic| walk_at "up") => `(tactic| first
  | assumption
  | (refine' IT.mv ?s ?g; (case s => assumption); (case g => walk_at "up"))
  | (refine' IT.k ?g; (case g => walk_at "up"))
  | (refine' IK.mv ?s ?g; (case s => assumption); (case g => walk_at "up"))
  | (refine' Tape.mvN ?s ?g; (case s => assumption); (case g => walk_at "up"))
  | (refine' Tape.mvS ?s ?g; (case s => assumption); (case g => walk_at "up"))
  | (refine' At.tup ?s ?g; (case s => assumption); (case g => walk_at "up"))
  | (refine' At.ins ?s ?g; (case s => assumption); (case g => walk_at "up"))
  | (refine' At.lst ?s ?g; (case s => assumption); (case g => walk_at "up"))
  | (refine' At.lstS ?s ?n ?g; (case s => assumption); (case n => assumption); (case g => walk_at "up"))
  | fail)
local macro_rules | `(tactic| walk_at "st") => `(tactic| first
  | assumption
  | exact Stp.refl _ _
  | (refine' Stp.w ?s; (case s => assumption))
  | (refine' Stp.trans ?g ?s; (case s => (first | assumption | (refine' Stp.w ?u; (case u => assumption)))); (case g => walk_at "st"))
  | fail)
local macro_rules | `(tactic| walk_at "bT") => `(tactic| first
  | decide
  | (simp only [Bool.not_eq_true', Bool.not_eq_false', decide_eq_true_eq, decide_eq_false_iff_not]; omega)
  | fail)
local macro_rules | `(tactic| walk_at "sd") => `(tactic| first | assumption | decide | omega | fail)
local macro_rules | `(tactic| walk_at "r") => `(tactic| first
  | (with_reducible refine r_seq ?_)
  | (with_reducible refine r_asg ?_)
  | ((with_reducible refine' r_var ?h ?k); (case h => rfl))
  | (with_reducible refine r_c ?_)
  | (with_reducible refine r_op ?_)
  | (with_reducible refine r_un ?_)
  | (with_reducible refine r_nil ?_)
  | (with_reducible refine r_cons ?_)
  | (with_reducible refine r_tup ?_)
  | (with_reducible refine r_lst ?_)
  | (with_reducible refine r_cbLen ?_)
  | (with_reducible refine r_cbInt ?_)
  | (with_reducible refine r_cbRepr ?_)
  | (with_reducible refine r_cbTup ?_)
  | (with_reducible refine r_cbLst ?_)
  | (with_reducible refine r_cb ?_)
  | (with_reducible refine r_prop ?_)
  | (with_reducible refine r_andV ?_)
  | (with_reducible refine r_orV ?_)
  | (with_reducible refine r_notV ?_)
  | (with_reducible refine r_chain ?_)
  | (with_reducible refine r_ifE ?_)
  | (with_reducible refine r_test ?_)
  | (with_reducible refine r_B ?_)
  | (with_reducible refine r_and ?_)
  | (with_reducible refine r_or ?_)
  | (with_reducible refine r_not ?_)
  | (with_reducible refine r_yes ?_)
  | (with_reducible refine r_k ?_)
  | (with_reducible refine r_kV ?_)
  | (with_reducible refine r_next ?_)
  | (with_reducible refine r_drop ?_)
  | (with_reducible refine r_ret ?_)
  | (with_reducible refine r_ifS ?_)
  | (with_reducible refine r_par ?_)
  | (with_reducible refine r_par1 ?_)
  | (with_reducible refine r_gname ?_)
  | (with_reducible refine r_gnil ?_)
  | (with_reducible refine r_gcons ?_)
  | ((with_reducible refine' r_unpack2 ?h ?k); (case h => walk_at "up"))
  | ((with_reducible refine' r_unpack3 ?h ?k); (case h => walk_at "up"))
  | (with_reducible refine r_add ?_)
  | (with_reducible refine r_sub ?_)
  | (with_reducible refine r_neg ?_)
  | ((with_reducible refine' r_mod ?h ?k); (case h => walk_at "sd"))
  | ((with_reducible refine' r_div ?h ?k); (case h => walk_at "sd"))
  | ((with_reducible refine' r_mul ?h ?k); (case h => walk_at "sd"))
  | ((with_reducible refine' r_mulW ?h ?k); (case h => walk_at "sd"))
  | ((with_reducible refine' r_pow ?h ?k); (case h => (show (0 : Int) ≤ _ ∧ _ ∧ _; decide)))
  | (with_reducible refine r_lt ?_)
  | (with_reducible refine r_le ?_)
  | (with_reducible refine r_gt ?_)
  | (with_reducible refine r_ge ?_)
  | (with_reducible refine r_eqI ?_)
  | (with_reducible refine r_neI ?_)
  | (with_reducible refine r_eqS ?_)
  | (with_reducible refine r_neS ?_)
  | ((with_reducible refine' r_eqT ?h ?g ?k); (case h => walk_at "up"); (case g => walk_at "up"))
  | ((with_reducible refine' r_neT ?h ?g ?k); (case h => walk_at "up"); (case g => walk_at "up"))
  | ((with_reducible refine' r_ix0 ?h ?k); (case h => walk_at "up"))
  | ((with_reducible refine' r_ix1 ?h ?k); (case h => walk_at "up"))
  | ((with_reducible refine' r_ix2 ?h ?k); (case h => walk_at "up"))
  | (with_reducible refine r_newI2 (fun v H2 S I => ?_))
  | (with_reducible refine r_newI3 (fun v H2 S I => ?_))
  | (with_reducible refine r_newL1 (fun p H2 S hp np => ?_))
  | (with_reducible refine r_newL2 (fun p H2 S hp np => ?_))
  | (with_reducible refine r_newL3 (fun p H2 S hp np => ?_))
  | (with_reducible refine r_T ?_)
  | (with_reducible refine r_F ?_)
  | fail)
local macro_rules | `(tactic| walk_at "go") => `(tactic| repeat (walk_at "r"))
local macro_rules | `(tactic| walk_at "r") => `(tactic| first
  | (with_reducible refine r_call0 ?_)
  | (with_reducible refine r_meth0 ?_)
  | (with_reducible refine r_make0 ?_)
  | (with_reducible refine r_isiII ?_)
  | (with_reducible refine r_isiIB ?_)
  | ((with_reducible refine' r_isiTT ?h ?k); (case h => walk_at "up"))
  | ((with_reducible refine' r_len2 ?h ?k); (case h => walk_at "up"))
  | ((with_reducible refine' r_len3 ?h ?k); (case h => walk_at "up"))
  | ((with_reducible refine' r_lenL ?h ?k); (case h => walk_at "up"))
  | (with_reducible refine r_int1 ?_)
  | (with_reducible refine r_int1B ?_)
  | (with_reducible refine r_nT ?_)
  | (with_reducible refine r_nF ?_)
  | (with_reducible refine r_gcd ?_)
  | (with_reducible refine r_gsub ?_)
  | (with_reducible refine r_fld ?_)
  | (with_reducible refine r_p6 ?_)
  | (with_reducible refine r_p9 ?_)
  | (with_reducible refine r_p10 ?_)
  | (with_reducible refine r_p11 ?_)
  | (with_reducible refine r_p12 ?_)
  | (with_reducible refine r_p18 ?_)
  | (with_reducible refine r_p20 ?_)
  | (with_reducible refine r_p26 ?_)
  | (with_reducible refine r_p27 ?_)
  | (with_reducible refine r_p30 ?_)
  | ((with_reducible refine' r_iF ?h ?k); (case h => walk_at "bT"))
  | ((with_reducible refine' r_iT ?h ?k); (case h => walk_at "bT"))
  | (with_reducible refine r_sfld ?_)
  | (with_reducible refine r_sl ?_)
  | (with_reducible refine r_noPart ?_)
  | (with_reducible refine r_part ?_)
  | (with_reducible refine r_pk ?_)
  | ((with_reducible refine' r_unl2 ?h ?k); (case h => walk_at "up"))
  | ((with_reducible refine' r_ixLi ?h ?h0 ?hn ?k); (case h => walk_at "up"); (case h0 => walk_at "sd"); (case hn => rfl))
  | fail)

local macro_rules | `(tactic| walk_at "r") => `(tactic| first
  | (with_reducible refine r_for ?_)
  | (with_reducible refine r_lc ?_)
  | (with_reducible refine r_iList ?_)
  | (with_reducible refine r_iTup ?_)
  | (with_reducible refine r_iStr ?_)
  | (with_reducible refine it_s ?_)
  | (with_reducible refine r_iRng1 ?_)
  | (with_reducible refine r_iRng2 ?_)
  | (with_reducible refine r_iEnumA ?_)
  | (with_reducible refine r_bm ?_)
  | (with_reducible refine r_inS ?_)
  | (with_reducible refine r_cbAll ?_)
  | (with_reducible refine r_cbIsiT ?_)
  | (with_reducible refine r_cbLenS ?_)
  | (with_reducible refine r_makeK0 ?_)
  | (with_reducible refine r_makeK1 ?_)
  | (with_reducible refine mkk1 ?_)
  | fail)
local macro_rules | `(tactic| walk_at "up") => `(tactic| first
  | (refine' SqL.mvN ?s ?g; (case s => assumption); (case g => walk_at "up"))
  | (refine' SqT.mvS ?s ?g; (case s => assumption); (case g => walk_at "up"))
  | fail)

local macro_rules | `(tactic| walk_at "up") => `(tactic| first
  | (refine' sq_mv ?s ?g; (case s => assumption); (case g => walk_at "up"))
  | fail)

local macro_rules | `(tactic| walk_at "up") => `(tactic| first | (refine' PA.mv ?s ?g; (case s => assumption); (case g => walk_at "up")) | fail)
local macro_rules | `(tactic| walk_at "dr") => `(tactic| (refine do_law_draw (by walk_at "up") (by first | decide | omega) (by first | decide | omega) ?_))
section
variable {P : Program} {w : World} {K : PySem.W.Frag} {mg : Str → Option Value} {base : Heap} {ad : Ad} {H : Hp} {Q : VK} {E : XK} {i j x y : Int} {v : V}
theorem bad_ty {t : Value} (ty : TyX K H v t) (e : PySem.W.kitAny K t [.type "list", .type "tuple"] = some false) : RowsIs K H v SG 50 (some .non) := .inl ⟨t, ty, e, rfl⟩
theorem bad_len {p : Addr} {xs : List V} (h : SqL K H p xs ∨ SqT K H p xs) (hl : xs.length ≤ 100000) (hn : ¬ (1 ≤ (xs.length : Int) ∧ (xs.length : Int) ≤ 50)) : RowsIs K H (.ref p) SG 50 (some .non) := .inr ⟨p, xs, rfl, h, hl, .inl ⟨hn, rfl⟩⟩
theorem kit_no {t : String} (h1 : kitB t "list" = some false) (h2 : kitB t "tuple" = some false) : PySem.W.kitAny K (.type t) [.type "list", .type "tuple"] = some false :=
  kitAny_cons (b := false) (kit_ty h1) (fun _ => kitAny_cons (b := false) (kit_ty h2) (fun _ => kitAny_nil) (fun z => nomatch z)) (fun z => nomatch z)
/-- what the index of the error is, as data -/
inductive Ix : V → PyData → Prop
  | non : Ix .non .none
  | int (i : Int) : Ix (.int i) (.int i)
theorem Ix.dp {y : V} {d : PyData} (h : Ix y d) : Dp K H y d := by cases h <;> constructor
theorem Ix.shaped {y : V} {d : PyData} (h : Ix y d) : SeqAt.shaped (.list [.str ("rows" : Str), d]) = true := by
  cases h <;> (unfold SeqAt.shaped; rw [PyData.canLay0, PyData.canLayAll0, PyData.canLayAll0, PyData.canLayAll0, PyData.canLay0, PyData.canLay0, PyData.depth, PyData.depthAll, PyData.depthAll, PyData.depthAll, PyData.depth, PyData.depth]; decide +kernel)
theorem r_neTold {a b : Addr} {y : V} {d : PyData} (hy : Ix y d) (h : H a = some (.lst (told (some y)))) (g : H b = some (.lst [.str "rows", y])) (q : Q (.bl false) H) : rNeD K (.ref a) (.ref b) H Q := by
  refine ⟨.list [.str "rows", d], .list [.str "rows", d], .lst (SqL.of h) (.cons (.str _) (.cons hy.dp .nil)), .lst (SqL.of g) (.cons (.str _) (.cons hy.dp .nil)), hy.shaped, hy.shaped, ?_⟩
  have e : PyData.eqv (.list [.str "rows", d]) (.list [.str "rows", d]) = true := by
    cases hy <;> simp [PyData.eqv, PyData.eqvAll]
  rw [e]
  exact q
theorem r_neNone {a b : Addr} (h : H a = some (.lst (told none))) (g : H b = some (.lst [.str "none"])) (q : Q (.bl false) H) : rNeD K (.ref a) (.ref b) H Q := by
  have c : Cd [("none" : Str)] := by unfold Cd; decide +kernel
  exact r_neDs (ss := ["none"]) (ts := ["none"]) c c (SqL.of h) (SqL.of g) (by rw [decide_eq_true rfl]; exact q)
theorem okS_rep {z : Str} {k : Int} (h : okS z SG = true) : okS (repS z k) SG = true := by
  unfold okS at h ⊢
  rw [tl_repS, List.all_eq_true]
  intro c hc
  obtain ⟨l, hl, hc⟩ := List.mem_flatten.mp hc
  rw [(List.mem_replicate.mp hl).2] at hc
  exact List.all_eq_true.mp h c hc
theorem flat_one {α : Type} (n : Nat) (x : α) : (List.replicate n [x]).flatten = List.replicate n x := by
  induction n with
  | zero => rfl
  | succ n ih => rw [List.replicate_succ, List.flatten_cons, ih]; rfl
theorem good_dots : Good (List.replicate 50 (repS "." 50)) := ⟨by decide, by decide, 50, by decide, by decide, fun z m => by
  rw [(List.mem_replicate.mp m).2]
  exact ⟨by rw [len_repS]; decide +kernel, okS_rep (by decide +kernel)⟩⟩
theorem one_row {p : Addr} {z : Str} (h : SqL K H p [V.str z]) (hz : z.length = 51) : RowsIs K H (.ref p) SG 50 (some (.int 0)) := by
  refine .inr ⟨p, _, rfl, .inl h, Nat.le_of_ble_eq_true rfl, .inr ⟨⟨(by show (1 : Int) ≤ ((1 : Nat) : Int); decide), (by show ((1 : Nat) : Int) ≤ 50; decide)⟩, [some z], .cons ⟨rfl, by omega⟩ .nil, ?_⟩⟩
  rw [firstBad_at (i := 0) (g := some z) rfl (by rw [rowOk_some, decide_eq_false (show ¬ (1 ≤ z.length ∧ (z.length : Int) ≤ 50) by omega), Bool.and_false, Bool.false_and]) (fun j g' hj => absurd hj (Nat.not_lt_zero _))]
  rfl
theorem PA.put {C a l : Addr} {xs ys : List V} {ss : List Str} (h : PA C H v l ss) (e : H a = some (.lst xs)) (n : a ≠ l) : PA C (upd H a (.lst ys)) v l ss := by
  obtain ⟨p, dx, rfl, h1, h2⟩ := h
  exact ⟨p, dx, rfl, by rw [upd_ne (by rintro rfl; rw [e] at h1; cases h1)]; exact h1, by rw [upd_ne (Ne.symm n)]; exact h2⟩
theorem ok_dots {k : Int} (h : 1 ≤ k) (h2 : k ≤ 50) : rowOk SG 50 k.toNat (some (repS "." k)) = true := by
  have e : (repS ("." : Str) k).length = k.toNat := by rw [len_repS]; show k.toNat * 1 = _; omega
  rw [rowOk_some, okS_rep (by decide +kernel), e, decide_eq_true (show 1 ≤ k.toNat ∧ (k.toNat : Int) ≤ 50 by omega), decide_eq_true rfl]
  rfl
theorem Drawn.row {ts : List Str} {n : Nat} (h : Drawn ts n) {z : Str} (m : z ∈ ts) : rowOk SG 50 n (some z) = true := by
  obtain ⟨e, c⟩ := h.z z m
  have hk : okS z SG = true := by
    unfold okS
    rw [List.all_eq_true]
    exact fun d hd => decide_eq_true (sg_ok (c d hd)).1
  have := h.n1
  have := h.n2
  rw [rowOk_some, hk, decide_eq_true (show 1 ≤ z.length ∧ (z.length : Int) ≤ 50 by omega), decide_eq_true e]
  rfl
theorem first_odd {ts : List Str} {n at_ : Nat} {g : Option Str} {b : Bool} (h : Drawn ts n) (ha : at_ ≤ ts.length) (h1 : b = true → g = some (repS "." ((n : Int) + 1))) (h2 : b = false → ∀ m, rowOk SG 50 m g = false) :
    firstBad SG 50 ((ts.take at_).map some ++ [g] ++ (ts.drop at_).map some ++ [none]) = some (if at_ = 0 ∧ b = true then 1 else at_) := by
  have hn1 := h.n1
  have hn2 := h.n2
  have hl1 := h.l1
  have elen : (repS ("." : Str) ((n : Int) + 1)).length = n + 1 := by
    rw [len_repS]
    show ((n : Int) + 1).toNat * 1 = _
    omega
  have hat : ((ts.take at_).map some ++ [g] ++ (ts.drop at_).map some ++ [none])[at_]? = some g := by
    rw [List.append_assoc, List.append_assoc, List.getElem?_append_right (by rw [List.length_map, List.length_take]; omega), List.length_map, List.length_take, Nat.min_eq_left ha, Nat.sub_self]
    rfl
  rcases Nat.eq_zero_or_pos at_ with h0 | h0
  · subst h0
    cases b with
    | false =>
      rw [if_neg (by decide)]
      exact firstBad_at hat (h2 rfl _) fun j g' hj => absurd hj (Nat.not_lt_zero _)
    | true =>
      rw [if_pos (by decide)]
      have hg := h1 rfl
      subst hg
      obtain ⟨z, r, rfl⟩ : ∃ z r, ts = z :: r := by
        cases ts with
        | nil => exact absurd hl1 (by decide)
        | cons z r => exact ⟨z, r, rfl⟩
      have e0 : len0 (((z :: r).take 0).map some ++ [some (repS ("." : Str) ((n : Int) + 1))] ++ ((z :: r).drop 0).map some ++ [none]) = n + 1 := elen
      refine firstBad_at (g := some z) rfl ?_ fun j g' hj e => ?_
      · rw [e0, rowOk_some, decide_eq_false (show ¬ z.length = n + 1 by rw [(h.z z List.mem_cons_self).1]; omega), Bool.and_false]
      · have hj0 : j = 0 := by omega
        subst hj0
        cases e
        rw [e0]
        have := ok_dots (k := (n : Int) + 1) (by omega) (by omega)
        rwa [show ((n : Int) + 1).toNat = n + 1 by omega] at this
  · have e1 : (if at_ = 0 ∧ b = true then 1 else at_) = at_ := if_neg (by omega)
    rw [e1]
    obtain ⟨z, r, rfl⟩ : ∃ z r, ts = z :: r := by
      cases ts with
      | nil => exact absurd hl1 (by decide)
      | cons z r => exact ⟨z, r, rfl⟩
    have e0 : len0 (((z :: r).take at_).map some ++ [g] ++ ((z :: r).drop at_).map some ++ [none]) = n := by
      cases at_ with
      | zero => omega
      | succ m => exact (h.z z List.mem_cons_self).1
    refine firstBad_at hat ?_ fun j g' hj e => ?_
    · rw [e0]
      cases b with
      | false => exact h2 rfl _
      | true => rw [h1 rfl, rowOk_some, decide_eq_false (show ¬ (repS ("." : Str) ((n : Int) + 1)).length = n by omega), Bool.and_false]
    · rw [e0]
      rw [List.append_assoc, List.append_assoc, List.getElem?_append_left (by rw [List.length_map, List.length_take]; omega), List.getElem?_map] at e
      obtain ⟨y, ey, rfl⟩ := Option.map_eq_some_iff.mp e
      exact h.row (List.mem_of_mem_take (List.mem_of_getElem? ey))
/-- the odd row: what is told of it -/
structure OddV (K : PySem.W.Frag) (H : Hp) (n : Nat) (x : V) (g : Option Str) (d : PyData) (b : Bool) : Prop where
  row : RowV K H x g
  dp : Dp K H x d
  sh : SeqAt.shaped d = true
  eq : PyData.eqv d (.str (repS "." ((n : Int) + 1))) = b
  tr : b = true → g = some (repS "." ((n : Int) + 1))
  fa : b = false → ∀ m, rowOk SG 50 m g = false
def odds (n : Nat) (la : Addr) : List V := [.non, .str "", .str (repS "A" (n : Int)), .str (repS "." ((n : Int) + 1)), .str (repS "a" ((n : Int) - 1) ++ " "), .int 5, .ref la]
theorem sh_str {z : Str} (h : ∀ c ∈ tl z, c < 0x110000) : SeqAt.shaped (.str z) = true := by
  unfold SeqAt.shaped
  rw [PyData.canLay0, PyData.depth, strOk_of h]
  rfl
theorem bad_signs {z : Str} (h : okS z SG = false) (m : Nat) : rowOk SG 50 m (some z) = false := by rw [rowOk_some, h]; rfl
theorem odd_str {z : Str} {n : Nat} (hl : z.length ≤ 1000) (hc : ∀ c ∈ tl z, c < 0x110000) (hne : z.length ≠ n + 1) (hb : ∀ m, rowOk SG 50 m (some z) = false) : OddV K H n (.str z) (some z) (.str z) false where
  row := ⟨rfl, hl⟩
  dp := .str z
  sh := sh_str hc
  eq := by
    rw [PyData.eqv]
    refine beq_eq_false_iff_ne.mpr fun e => ?_
    rw [e, len_repS] at hne
    exact hne (by show ((n : Int) + 1).toNat * 1 = _; omega)
  tr := fun e => nomatch e
  fa := fun _ => hb
theorem cd_rep {z : Str} {k : Int} (h : ∀ c ∈ tl z, c < 0x110000) : ∀ c ∈ tl (repS z k), c < 0x110000 := by
  intro c hc
  rw [tl_repS] at hc
  obtain ⟨l, hl, hc⟩ := List.mem_flatten.mp hc
  rw [(List.mem_replicate.mp hl).2] at hc
  exact h c hc
theorem odd_at {n : Nat} {la : Addr} {x : V} (h1 : 1 ≤ n) (h2 : n ≤ 6) (hla : H la = some (.lst [.str "a"])) (hx : x ∈ odds n la) : ∃ g d b, OddV K H n x g d b := by
  unfold odds at hx
  simp only [List.mem_cons, List.not_mem_nil, or_false] at hx
  rcases hx with rfl | rfl | rfl | rfl | rfl | rfl | rfl
  · exact ⟨none, .none, false, ⟨_, .base .non, kit_ty (by decide +kernel)⟩, .non, by decide +kernel, by rw [PyData.eqv], fun e => (nomatch e), fun _ _ => rfl⟩
  · exact ⟨_, _, _, odd_str (by decide) (by decide +kernel) (by show 0 ≠ n + 1; omega) fun m => by
      rw [rowOk_some, decide_eq_false (show ¬ (1 ≤ ("" : Str).length ∧ ((("" : Str).length : Nat) : Int) ≤ 50) by decide +kernel), Bool.and_false, Bool.false_and]⟩
  · have e : (repS ("A" : Str) (n : Int)).length = n := by
      rw [len_repS]
      show ((n : Int)).toNat * 1 = _
      omega
    refine ⟨_, _, _, odd_str (by omega) (cd_rep (by decide +kernel)) (by omega) (bad_signs ?_)⟩
    unfold okS
    rw [tl_repS, List.all_eq_false]
    refine ⟨65, List.mem_flatten.mpr ⟨[65], List.mem_replicate.mpr ⟨by omega, by decide +kernel⟩, List.mem_cons_self⟩, by decide +kernel⟩
  · have e : (repS ("." : Str) ((n : Int) + 1)).length = n + 1 := by
      rw [len_repS]
      show ((n : Int) + 1).toNat * 1 = _
      omega
    exact ⟨some (repS "." ((n : Int) + 1)), .str (repS "." ((n : Int) + 1)), true, ⟨rfl, by omega⟩, .str _, sh_str (cd_rep (by decide +kernel)), by rw [PyData.eqv]; exact beq_self_eq_true _, fun _ => rfl, fun e => nomatch e⟩
  · have e : (repS ("a" : Str) ((n : Int) - 1) ++ (" " : Str)).length = n := by
      rw [strLen_append, len_repS]
      show ((n : Int) - 1).toNat * 1 + 1 = _
      omega
    refine ⟨_, _, _, odd_str (by omega) (fun c hc => ?_) (by omega) (bad_signs ?_)⟩
    · rw [tl_app] at hc
      rcases List.mem_append.mp hc with hc | hc
      · exact cd_rep (by decide +kernel) c hc
      · exact (show ∀ c ∈ tl (" " : Str), c < 0x110000 by decide +kernel) c hc
    · unfold okS
      rw [tl_app, List.all_append]
      rw [show ((tl (" " : Str)).all fun c => decide (c ∈ tl SG)) = false by decide +kernel, Bool.and_false]
  · exact ⟨none, .int 5, false, ⟨_, .base (.int 5), kit_ty (by decide +kernel)⟩, .int 5, by decide +kernel, by rw [PyData.eqv], fun e => (nomatch e), fun _ _ => rfl⟩
  · exact ⟨none, ds ["a"], false, ⟨_, .base (.lst hla), kit_ty (by decide +kernel)⟩, dp_ds (ss := ["a"]) (SqL.of hla), shaped_ds (by unfold Cd; decide +kernel), by rw [PyData.eqv], fun e => (nomatch e), fun _ _ => rfl⟩
def sp_law (K : PySem.W.Frag) : Sp := fun vs H Q _ => ∃ (l : Addr) (ns : List Int), vs = [.ref l] ∧ SqL K H l (ns.map V.int) ∧ ∀ H', Q (.bl true) H'
theorem sp_start (K : PySem.W.Frag) (H : Hp) (a : Addr) (ns : List Int) (hl : ns.length ≤ 63) (hS : SqL K H a (ns.map V.int)) : sp_law K [.ref a] H (fun v _ => v = .bl true) fun _ _ _ => False :=
  ⟨a, ns, rfl, hS, fun _ => rfl⟩
theorem ok_law (T : Txt K mg ad) : FnG P w K mg base CX0 8 ad.law ad.law_d P_law (sp_law K) := by
  have G_Patch_init := ok_Patch_init (P := P) (w := w) (base := base) T
  have G_Patch_rows := ok_Patch_rows (P := P) (w := w) (base := base) T
  have G_Patch_width := ok_Patch_width (P := P) (w := w) (base := base) T
  have G_Patch_height := ok_Patch_height (P := P) (w := w) (base := base) T
  have G_Patch_eq := ok_Patch_eq (P := P) (w := w) (base := base) T
  have G_Patch_repr := ok_Patch_repr (P := P) (w := w) (base := base) T
  have G_law_tape := ok_law_tape (P := P) (w := w) (base := base) T
  have G_law_draw := ok_law_draw (P := P) (w := w) (base := base) T
  have G_law_told := ok_law_told (P := P) (w := w) (base := base) T
  have G_law_some := ok_law_some (P := P) (w := w) (base := base) T
  refine Fun.gn T.F_law sc_law (fun vs H Q E h => ?_) (fun cdv A outer s H vs Q E hr hg h => ?_)
  · obtain ⟨l, ns, rfl, _⟩ := h
    rfl
  · obtain ⟨l, ns, rfl, hS, q⟩ := h
    refine ⟨_, (pss_cons (ps_set (i := 1) sc_law.nd rfl (Or.inl rfl) (peg_call G_law_tape (hr.mono (by decide)) hg (by rfl) T.g_law_tape T.F_law_tape.kp T.b_law_tape .nil pass0 (pa_cons (pv 0) pa_nil)))
      (pss_cons (ps_for PassesOwn.never rfl (pi_list (pe_lst (pa_cons pe_non (pa_cons (pe_lst pa_nil) (pa_cons (pe_tup pa_nil) (pa_cons pe_str (pa_cons pe_int (pa_cons pe_dnewK (pa_cons (pe_op op_rep (pe_lst (pa_cons pe_str pa_nil)) pe_int) pa_nil))))))))) (pg_name (i := 2) sc_law.nd rfl (Or.inl rfl))
      (pss_one (ps_if (pt_cmpR (op_neD hr.units) (peg_call G_law_told (hr.mono (by decide)) hg (by rfl) T.g_law_told T.F_law_told.kp T.b_law_told .nil pass0 (pa_cons (pv 2) pa_nil)) (pe_lst (pa_cons pe_str (pa_cons pe_non pa_nil))) (nomark _))
      (pss_one (ps_ret pe_bl)) pss_nil)))
      (pss_cons (ps_if (PW.pt (pw_or (pt_cmpR (op_neD hr.units) (peg_call G_law_told (hr.mono (by decide)) hg (by rfl) T.g_law_told T.F_law_told.kp T.b_law_told .nil pass0 (pa_cons (pe_op op_rep (pe_lst (pa_cons (pe_op op_mulS pe_str pe_int) pa_nil)) pe_int) pa_nil)) (pe_lst (pa_cons pe_str pa_nil)) (nomark _)) (pw_or1 (pt_cmpR (op_neD hr.units) (peg_call G_law_told (hr.mono (by decide)) hg (by rfl) T.g_law_told T.F_law_told.kp T.b_law_told .nil pass0 (pa_cons (pe_lst (pa_cons (pe_op op_mulS pe_str pe_int) pa_nil)) pa_nil)) (pe_lst (pa_cons pe_str (pa_cons pe_int pa_nil))) (nomark _)))))
      (pss_one (ps_ret pe_bl)) pss_nil)
      (pss_cons (ps_for PassesOwn.never rfl (pi_range1 rfl T.z_range (pa_cons pe_int pa_nil)) (pg_name (i := 3) sc_law.nd rfl (Or.inl rfl))
      (pss_cons (ps_set (i := 4) sc_law.nd rfl (Or.inl rfl) (peg_call G_law_some (hr.mono (by decide)) hg (by rfl) T.g_law_some T.F_law_some.kp T.b_law_some .nil pass0 (pa_cons (pv 1) pa_nil)))
      (pss_cons (ps_set (i := 5) sc_law.nd rfl (Or.inl rfl) (pe_callB (callg_repr hg hr.units) (by rfl) T.z_repr (by decide +kernel) (pa_cons (pv 4) pa_nil)))
      (pss_cons (ps_set (i := 6) sc_law.nd rfl (Or.inl rfl) (peg_make T.k_Patch G_Patch_init (hr.mono (by decide)) hg (by rfl) T.g_Patch T.b_Patch_init .nil passL (pa_cons (pe_ix ix_seq (pe_lst (pa_cons (pv 4) (pa_cons (pe_callTy call_tuple_of (by rfl) T.z_tuple (by decide +kernel) (pa_cons (pv 4) pa_nil)) pa_nil))) (pe_op op_mod (pv 3) pe_int) (fun _ _ => rfl)) pa_nil)))
      (pss_cons (ps_if (PW.pt (pw_or (pt_cmpR (op_neD hr.units) (peg_prop (pv 6) T.cl_Patch T.p_Patch_rows G_Patch_rows (hr.mono (by decide)) hg T.b_Patch_rows .nil pass0) (pv 4) (nomark _)) (pw_or (pt_cmpR op_ne (peg_prop (pv 6) T.cl_Patch T.p_Patch_width G_Patch_width (hr.mono (by decide)) hg T.b_Patch_width .nil pass0) (pe_callB call_len_str (by rfl) T.z_len (by decide +kernel) (pa_cons (pe_ix ix_seq (pv 4) pe_int (fun _ _ => rfl)) pa_nil)) (nomark _)) (pw_or (pt_cmpR op_ne (peg_prop (pv 6) T.cl_Patch T.p_Patch_height G_Patch_height (hr.mono (by decide)) hg T.b_Patch_height .nil pass0) (pe_callB call_len_seq (by rfl) T.z_len (by decide +kernel) (pa_cons (pv 4) pa_nil)) (nomark _)) (pw_or1 (pt_cmpR op_ne (pe_callB (callg_repr hg hr.units) (by rfl) T.z_repr (by decide +kernel) (pa_cons (pv 4) pa_nil)) (pv 5) (nomark _)))))))
      (pss_one (ps_ret pe_bl)) pss_nil)
      (pss_cons (ps_if (PW.pt (pw_or (pt_cmpR op_ne (pe_callB (callg_own (K := K) T.o_Patch_repr G_Patch_repr (hr.mono (by decide)) hg T.b_Patch_repr pass0) (by rfl) T.z_repr (by decide +kernel) (pa_cons (pv 6) pa_nil)) (pe_op op_addS (pe_op op_addS pe_str (pe_callB (callg_repr hg hr.units) (by rfl) T.z_repr (by decide +kernel) (pa_cons (pv 4) pa_nil))) pe_str) (nomark _)) (pw_or (pt_cmpR (opg_ne T.e_Patch G_Patch_eq (hr.mono (by decide)) hg T.b_Patch_eq pass0) (pv 6) (peg_makeK0 T.k_Patch G_Patch_init (hr.mono (by decide)) hg (by rfl) T.g_Patch T.kb_Patch_init_0_rows passL (pk_cons (pv 4) pk_nil)) (nomark _)) (pw_or1 (pt_cmpR (opg_eq T.e_Patch G_Patch_eq (hr.mono (by decide)) hg T.b_Patch_eq pass0) (pv 6) (pv 4) (nomark _))))))
      (pss_one (ps_ret pe_bl)) pss_nil)
      (pss_cons (ps_set (i := 7) sc_law.nd rfl (Or.inl rfl) (peg_call G_law_some (hr.mono (by decide)) hg (by rfl) T.g_law_some T.F_law_some.kp T.b_law_some .nil pass0 (pa_cons (pv 1) pa_nil)))
      (pss_cons (ps_if (pt_cmpR op_ne (pe_cmpR (opg_eq T.e_Patch G_Patch_eq (hr.mono (by decide)) hg T.b_Patch_eq pass0) (peg_make T.k_Patch G_Patch_init (hr.mono (by decide)) hg (by rfl) T.g_Patch T.b_Patch_init .nil passL (pa_cons (pv 7) pa_nil)) (pv 6) (nomark _)) (pe_cmpR (op_eqD hr.units) (pv 7) (pv 4) (nomark _)) (nomark _))
      (pss_one (ps_ret pe_bl)) pss_nil)
      (pss_cons (ps_expr (pe_bm PySem.F.plainAttrs_list PySem.F.slot_list_append PySem.F.type_list_append mt_append (peg_prop (pv 6) T.cl_Patch T.p_Patch_rows G_Patch_rows (hr.mono (by decide)) hg T.b_Patch_rows .nil pass0) (pa_cons pe_str pa_nil)))
      (pss_cons (ps_expr (pe_bm PySem.F.plainAttrs_list PySem.F.slot_list_append PySem.F.type_list_append mt_append (pv 4) (pa_cons pe_str pa_nil)))
      (pss_cons (ps_if (PW.pt (pw_or (pt_cmpR op_ne (pe_callB call_len_seq (by rfl) T.z_len (by decide +kernel) (pa_cons (peg_prop (pv 6) T.cl_Patch T.p_Patch_rows G_Patch_rows (hr.mono (by decide)) hg T.b_Patch_rows .nil pass0) pa_nil)) (peg_prop (pv 6) T.cl_Patch T.p_Patch_height G_Patch_height (hr.mono (by decide)) hg T.b_Patch_height .nil pass0) (nomark _)) (pw_or1 (pt_cmpR (op_eqD hr.units) (peg_prop (pv 6) T.cl_Patch T.p_Patch_rows G_Patch_rows (hr.mono (by decide)) hg T.b_Patch_rows .nil pass0) (pv 4) (nomark _)))))
      (pss_one (ps_ret pe_bl)) pss_nil)
      (pss_cons (ps_set (i := 8) sc_law.nd rfl (Or.inl rfl) (peg_call G_law_draw (hr.mono (by decide)) hg (by rfl) T.g_law_draw T.F_law_draw.kp T.b_law_draw .nil pass0 (pa_cons (pv 1) (pa_cons (pe_op op_add (pe_callB call_len_seq (by rfl) T.z_len (by decide +kernel) (pa_cons (pv 7) pa_nil)) pe_int) pa_nil))))
      (pss_cons (ps_set (i := 9) sc_law.nd rfl (Or.inl rfl) (pe_callB call_len_str (by rfl) T.z_len (by decide +kernel) (pa_cons (pe_ix ix_seq (pv 7) pe_int (fun _ _ => rfl)) pa_nil)))
      (pss_cons (ps_set (i := 2) sc_law.nd rfl (Or.inl rfl) (pe_ix ix_seq (pe_lst (pa_cons pe_non (pa_cons pe_str (pa_cons (pe_op op_mulS pe_str (pv 9)) (pa_cons (pe_op op_mulS pe_str (pe_op op_add (pv 9) pe_int)) (pa_cons (pe_op op_addS (pe_op op_mulS pe_str (pe_op op_sub (pv 9) pe_int)) pe_str) (pa_cons pe_int (pa_cons (pe_lst (pa_cons pe_str pa_nil)) pa_nil)))))))) (peg_call G_law_draw (hr.mono (by decide)) hg (by rfl) T.g_law_draw T.F_law_draw.kp T.b_law_draw .nil pass0 (pa_cons (pv 1) (pa_cons pe_int pa_nil))) (fun _ _ => rfl)))
      (pss_cut (ps_set (i := 10) sc_law.nd rfl (Or.inl rfl) (pe_lst (pa_cons pe_str (pa_cons (pe_ifExp (PW.pt (pw_and (pt_cmpR op_eq (pv 8) pe_int (nomark _)) (pw_and1 (pt_cmpR (op_eqD hr.units) (pv 2) (pe_op op_mulS pe_str (pe_op op_add (pv 9) pe_int)) (nomark _))))) pe_int (pv 8)) pa_nil))))
      (pss_one (ps_if (pt_cmpR (op_neD hr.units) (peg_call G_law_told (hr.mono (by decide)) hg (by rfl) T.g_law_told T.F_law_told.kp T.b_law_told .nil pass0 (pa_cons (pe_op op_cat (pe_op op_cat (pe_op op_cat (pe_slice sl_list (pv 7) po_none (po_some (pv 8))) (pe_lst (pa_cons (pv 2) pa_nil))) (pe_slice sl_list (pv 7) (po_some (pv 8)) po_none)) (pe_lst (pa_cons pe_non pa_nil))) pa_nil)) (pv 10) (nomark _))
      (pss_one (ps_ret pe_bl)) pss_nil)))))))))))))))))
      (pss_one (ps_ret pe_bl)))))), ?_⟩
    walk_at "go"
    refine do_law_tape hS fun t H1 S1 nt T1 => ?_
    walk_at "go"
    refine r_newL (sz100 (Nat.zero_le _)) fun e1 H2 S2 h2 n2 => ?_
    walk_at "go"
    refine r_newT (sz100 (Nat.zero_le _)) fun e2 H3 S3 h3 n3 => ?_
    walk_at "go"
    refine r_dnew fun e3 H4 S4 h4 n4 => ?_
    walk_at "go"
    rename_i e4 H5 S5 h5 n5
    refine r_repL h5 (by decide) (by decide) (by decide) fun e5 H6 S6 h6 n6 => ?_
    walk_at "go"
    refine r_newL (sz100 (Nat.le_of_ble_eq_true rfl)) fun p0 H7 S7 h7 n7 => ?_
    have s67 : Stp none H6 H7 := S7
    have s47 : Stp none H4 H7 := (S5.trans S6).trans S7
    have s37 : Stp none H3 H7 := S4.trans s47
    have s27 : Stp none H2 H7 := S3.trans s37
    have s17 : Stp none H1 H7 := S2.trans s27
    have T7 : Tape H7 t := T1.mvN s17
    have b1 : H7 e1 = some (.lst []) := At.lst s27 h2
    have b2 : H7 e2 = some (.tup []) := At.tup s37 h3
    have b3 : H7 e3 = some (.dK []) := s47.all _ _ h4
    have b5 : H7 e5 = some (.lst (List.replicate (51 : Int).toNat [V.str "a"]).flatten) := At.lst s67 h6
    clear S2 S3 S4 S5 S6 S7 s27 s37 s47 s67 h2 h3 h4 h5 h6 n2 n3 n4 n5 n6
    have odd : ∀ x ∈ [V.non, V.ref e1, V.ref e2, V.str "ab", V.int 5, V.ref e3, V.ref e5], RowsIs K H7 x SG 50 (some .non) := by
      intro x hx
      simp only [List.mem_cons, List.not_mem_nil, or_false] at hx
      rcases hx with rfl | rfl | rfl | rfl | rfl | rfl | rfl
      · exact bad_ty (.base .non) (kit_no (by decide +kernel) (by decide +kernel))
      · exact bad_len (.inl (SqL.of b1)) (by decide) (by decide)
      · exact bad_len (.inr (SqT.of b2)) (by decide) (by decide)
      · exact bad_ty (.base (.str _)) (kit_no (by decide +kernel) (by decide +kernel))
      · exact bad_ty (.base (.int _)) (kit_no (by decide +kernel) (by decide +kernel))
      · exact bad_ty (.base (.dK b3)) (kit_no (by decide +kernel) (by decide +kernel))
      · exact bad_len (.inl (SqL.of b5)) (by decide +kernel) (by decide +kernel)
    clear b1 b2 b3 b5
    walk_at "go"
    refine it_l (SqL.of h7) ?_
    refine ForJ.ok walk_list (fun i σ H' => ∃ c, σ = [some (.ref l), some (.ref t), c, none, none, none, none, none, none, none, none] ∧ Stp none H7 H') ⟨none, rfl, Stp.refl _ _⟩ (fun i σ H' hi pv => (let ⟨_, _, s⟩ := pv; SqL.of (At.lst s h7))) ?_ ?_
    · rintro i x σ H8 H9 hi ⟨c, rfl, s8⟩ ⟨rfl, hx⟩
      have hR := rowsIs_mv s8 (odd x (List.mem_of_getElem? hx))
      walk_at "go"
      refine do_law_told hR (fun e => nomatch e) fun p1 H10 S10 hp1 => ?_
      walk_at "go"
      rename_i p2 H11 S11 hp2 np2
      refine r_neTold .non (At.lst S11 hp1) hp2 ?_
      walk_at "go"
      exact ⟨_, rfl, by walk_at "st"⟩
    · rintro σ H8 ⟨c, rfl, s8⟩
      have T8 : Tape H8 t := T7.mvN s8
      have s18 : Stp none H1 H8 := s17.trans s8
      clear odd h7 s8 T7 s17
      walk_at "go"
      refine r_mulSk (by decide) (by decide) (by decide +kernel) ?_
      walk_at "go"
      rename_i d1 H9 S9 k1 m1
      refine r_repL k1 (by decide) (by decide) (by decide) fun d2 H10 S10 k2 m2 => ?_
      have e2 : (List.replicate (50 : Int).toNat [V.str (repS "." 50)]).flatten = (List.replicate 50 (repS "." 50)).map V.str := by
        rw [List.map_replicate]
        exact flat_one 50 _
      rw [e2] at k2
      have s10 : Stp none H1 H10 := s18.trans (S9.trans S10)
      clear k1 S9 S10 e2 s18 m1 m2
      walk_at "go"
      refine do_law_told (Good.is good_dots (.inl (SqL.of k2))) (fun _ => ⟨d2, _, rfl, .inl (SqL.of k2), good_dots⟩) fun p1 H11 S11 hp1 => ?_
      walk_at "go"
      rename_i p2 H12 S12 hp2 np2
      refine r_neNone (At.lst S12 hp1) hp2 ?_
      have s12 : Stp none H1 H12 := s10.trans (S11.trans S12)
      clear hp1 hp2 S11 S12 k2 s10 np2
      walk_at "go"
      refine r_mulSk (by decide) (by decide) (by decide +kernel) ?_
      walk_at "go"
      rename_i d3 H13 S13 k3 m3
      refine do_law_told (one_row (SqL.of k3) (by rw [len_repS]; decide +kernel)) (fun e => nomatch e) fun p3 H14 S14 hp3 => ?_
      walk_at "go"
      rename_i p4 H15 S15 hp4 np4
      refine r_neTold (.int 0) (At.lst S15 hp3) hp4 ?_
      have T15 : Tape H15 t := (((T1.mvN s12).mvN S13).mvN S14).mvN S15
      clear hp3 hp4 S13 S14 S15 k3 s12 m3 T8 T1 S1
      walk_at "go"
      refine it_r1 (by decide) (by decide) ?_
      refine ForJ.ok walk_range (fun i σ H' => ∃ b2 b3 b4 b5 b6 b7 b8 b9 b10, σ = [some (.ref l), some (.ref t), b2, b3, b4, b5, b6, b7, b8, b9, b10] ∧ Stp (some t) H15 H') ⟨c, none, none, none, none, none, none, none, none, rfl, Stp.refl _ _⟩ (fun _ _ _ _ _ => trivial) ?_ ?_
      · rintro i x σ H16 H17 hi ⟨b2, b3, b4, b5, b6, b7, b8, b9, b10, rfl, s17⟩ ⟨rfl, rfl⟩
        have T17 : Tape H17 t := T15.mvS s17
        walk_at "go"
        refine do_law_some T17 fun p ss n H18 S18 hp np hD => ?_
        obtain ⟨z, r, rfl⟩ : ∃ z r, ss = z :: r := by
          cases ss with
          | nil => exact absurd hD.l1 (by decide)
          | cons z r => exact ⟨z, r, rfl⟩
        have l6 := hD.l2
        have zl : z.length ≤ 6 := by rw [(hD.z z List.mem_cons_self).1]; exact hD.n2
        have hb : (z :: r).length * (10 * 50 + 4) ≤ 6 * 504 := Nat.mul_le_mul l6 (Nat.le_refl _)
        have T18 : Tape H18 t := T17.mvS S18
        have S := shw_ds hD.tx (by omega)
        have sl := ds_len hD.tx
        walk_at "go"
        refine r_repr (dp_ds (ss := z :: r) (SqL.of hp)) S ?_
        walk_at "go"
        refine r_tupA (SqL.of hp) fun tp H19 S19 htp ntp => ?_
        walk_at "go"
        rename_i pl H20 S20 hpl npl
        have s20 : Stp none H18 H20 := S19.trans S20
        have hp20 := At.lst s20 hp
        obtain ⟨a, ha1, ha2⟩ : ∃ a, [V.ref p, V.ref tp][((0 + (i : Int)) % 2).toNat]? = some (.ref a) ∧ (SqL K H20 a ((z :: r).map V.str) ∨ SqT K H20 a ((z :: r).map V.str)) := by
          rcases Int.emod_two_eq (0 + (i : Int)) with e | e
          · rw [e]; exact ⟨p, rfl, .inl (SqL.of hp20)⟩
          · rw [e]; exact ⟨tp, rfl, .inr (SqT.of (At.tup S20 htp))⟩
        refine r_ixLi hpl (by omega) ha1 ?_
        walk_at "go"
        refine do_Patch ha2 hD.good fun v lv H21 S21 nlv hP => ?_
        have s21 : Stp none H18 H21 := s20.trans S21
        have hp21 := At.lst s21 hp
        have T21 : Tape H21 t := T18.mvN s21
        have nlvp : p ≠ lv := by rintro rfl; rw [hp20] at nlv; cases nlv
        clear ha1 ha2 hpl npl S19 S20 htp ntp s20 hp20 S21
        walk_at "go"
        refine do_rows hP fun l1 H22 S22 hl1 nl1 => ?_
        walk_at "go"
        refine r_neDs hD.cd hD.cd (SqL.of hl1) (SqL.of (At.lst S22 hp21)) ?_
        refine r_kV ?_
        refine r_nX rfl ?_
        walk_at "go"
        refine do_width (hP.mv S22) (by omega) ?_
        walk_at "go"
        refine r_lenS (by omega) ?_
        walk_at "go"
        refine r_nX rfl ?_
        walk_at "go"
        refine do_height (hP.mv S22) ?_
        walk_at "go"
        refine r_nX (by rw [List.length_map]) ?_
        walk_at "go"
        refine r_repr (dp_ds (ss := z :: r) (SqL.of (At.lst S22 hp21))) S ?_
        walk_at "go"
        refine r_nX rfl ?_
        walk_at "go"
        refine do_reprP (hP.mv S22) hD.tx (by omega) ?_
        walk_at "go"
        refine r_repr (dp_ds (ss := z :: r) (SqL.of (At.lst S22 hp21))) S ?_
        walk_at "go"
        have lp : ("Patch(" : Str).length = 6 := by decide +kernel
        have lq : (")" : Str).length = 1 := by decide +kernel
        refine r_addS (by omega) ?_
        walk_at "go"
        refine r_addS (by rw [strLen_append]; omega) ?_
        walk_at "go"
        refine r_nX rfl ?_
        walk_at "go"
        refine mkk1 (us := []) ?_
        refine do_Patch (.inl (SqL.of (At.lst S22 hp21))) hD.good fun v2 lv2 H23 S23 nlv2 hP2 => ?_
        refine do_eqP (neg := true) T.i_Patch T.cl_Patch ((hP.mv S22).mv S23) hP2 hD.cd hD.cd ?_
        refine r_kV ?_
        refine r_nX rfl ?_
        walk_at "go"
        refine do_eqL T.nf_Patch ((hP.mv S22).mv S23) (SqL.of (At.lst S23 (At.lst S22 hp21))) hD.cd ?_
        have s23 : Stp none H18 H23 := s21.trans (S22.trans S23)
        have hp23 := At.lst S23 (At.lst S22 hp21)
        have hP23 := (hP.mv S22).mv S23
        have T23 : Tape H23 t := T18.mvN s23
        clear hP hP2 hp21 S22 S23 hl1 nl1 nlv2 T21 s21
        walk_at "go"
        refine do_law_some T23 fun po ts n2 H24 S24 hpo npo hD2 => ?_
        have npt : p ≠ t := ne_tape T18 hp
        have nlt : lv ≠ t := by
          obtain ⟨_, _, _, _, h2⟩ := hP23
          exact ne_tape T23 h2
        have hp24 : H24 p = some (.lst ((z :: r).map V.str)) := At.lstS S24 npt hp23
        have hP24 : PA ad.C_Patch H24 v lv (z :: r) := hP23.mvS S24 nlt
        have T24 : Tape H24 t := T23.mvS S24
        walk_at "go"
        refine do_Patch (.inl (SqL.of hpo)) hD2.good fun v3 lv3 H25 S25 nlv3 hP3 => ?_
        walk_at "go"
        refine do_eqP (neg := false) T.i_Patch T.cl_Patch hP3 (hP24.mv S25) hD2.cd hD.cd ?_
        walk_at "go"
        refine r_eqDs hD2.cd hD.cd (SqL.of (At.lst S25 hpo)) (SqL.of (At.lst S25 hp24)) ?_
        refine r_neB ?_
        refine r_kV ?_
        refine r_nX rfl ?_
        walk_at "go"
        refine do_rows (hP24.mv S25) fun l4 H26 S26 hl4 nl4 => ?_
        refine ⟨.inl ⟨rfl, _, SqL.of hl4⟩, ?_⟩
        walk_at "go"
        refine r_app hl4 (by rw [List.length_map]; exact Nat.lt_of_le_of_lt l6 (by decide)) ?_
        have S27 : Stp none H25 (upd H26 l4 (.lst ((z :: r).map V.str ++ [V.str "odd"]))) := S26.put nl4
        generalize upd H26 l4 (.lst ((z :: r).map V.str ++ [V.str "odd"])) = H27 at S27 ⊢
        have hp27 : H27 p = some (.lst ((z :: r).map V.str)) := At.lst S27 (At.lst S25 hp24)
        have hP27 : PA ad.C_Patch H27 v lv (z :: r) := (hP24.mv S25).mv S27
        have hpo27 : H27 po = some (.lst (ts.map V.str)) := At.lst S27 (At.lst S25 hpo)
        have s27 : Stp (some t) H17 H27 := ((((S18.trans s23.w).trans S24).trans S25.w).trans S27.w)
        have npop : po ≠ p := by rintro rfl; rw [hp23] at npo; cases npo
        clear S26 S27 S25 S24 hl4 nl4 hP3 nlv3 hp24 hP24 T24 hpo T23 hP23 s23 hp
        walk_at "go"
        refine ⟨.inl ⟨rfl, _, SqL.of hp27⟩, ?_⟩
        walk_at "go"
        refine r_app hp27 (by rw [List.length_map]; exact Nat.lt_of_le_of_lt l6 (by decide)) ?_
        have s28 : Stp (some t) H17 (upd H27 p (.lst ((z :: r).map V.str ++ [V.str "odd"]))) := s27.put np
        have hP28 : PA ad.C_Patch (upd H27 p (.lst ((z :: r).map V.str ++ [V.str "odd"]))) v lv (z :: r) := hP27.put hp27 nlvp
        have hpo28 : upd H27 p (.lst ((z :: r).map V.str ++ [V.str "odd"])) po = some (.lst (ts.map V.str)) := by rw [upd_ne npop]; exact hpo27
        have hp28 : upd H27 p (.lst ((z :: r).map V.str ++ [V.str "odd"])) p = some (.lst (((z :: r) ++ [("odd" : Str)]).map V.str)) := by rw [upd_same, List.map_append]; rfl
        generalize upd H27 p (.lst ((z :: r).map V.str ++ [V.str "odd"])) = H28 at s28 hP28 hpo28 hp28 ⊢
        clear s27 hP27 hpo27 hp27
        walk_at "go"
        refine do_rows hP28 fun l5 H29 S29 hl5 nl5 => ?_
        walk_at "go"
        refine do_height (hP28.mv S29) ?_
        walk_at "go"
        refine r_nX (by rw [List.length_map]) ?_
        walk_at "go"
        refine do_rows (hP28.mv S29) fun l6' H30 S30 hl6 nl6 => ?_
        walk_at "go"
        have s30 : Stp none H28 H30 := S29.trans S30
        have cdo : Cd ((z :: r) ++ [("odd" : Str)]) := by
          intro y hy
          rcases List.mem_append.mp hy with hy | hy
          · exact hD.cd y hy
          · rw [List.mem_singleton.mp hy]; decide +kernel
        refine r_eqDs hD.cd cdo (SqL.of hl6) (SqL.of (At.lst s30 hp28)) ?_
        refine r_kV ?_
        refine r_pN (fun e => ?_) ?_
        · have := congrArg List.length e
          rw [List.length_append] at this
          have h1 : [("odd" : Str)].length = 1 := rfl
          omega
        have hpo30 := At.lst s30 hpo28
        have s30' : Stp (some t) H17 H30 := s28.trans s30.w
        have T30 : Tape H30 t := T17.mvS s30'
        clear S29 S30 hl5 hl6 nl5 nl6 s30 s28 hP28 hp28 hpo28 cdo nlt nlvp T18 S18
        walk_at "go"
        rw [List.length_map]
        obtain ⟨y, r2, rfl⟩ : ∃ z r, ts = z :: r := by
          cases ts with
          | nil => exact absurd hD2.l1 (by decide)
          | cons z r => exact ⟨z, r, rfl⟩
        have m6 := hD2.l2
        have ye := (hD2.z y List.mem_cons_self).1
        have y1 := hD2.n1
        have y6 := hD2.n2
        walk_at "dr"
        intro d1 H31 d10 d11 S31
        have npo' : po ≠ t := ne_tape T30 hpo30
        have hpo31 := At.lstS S31 npo' hpo30
        have T31 := T30.mvS S31
        walk_at "go"
        refine r_lenS (by omega) ?_
        walk_at "go"
        rw [ye]
        refine r_mulSk (by omega) (by omega) (by decide +kernel) ?_
        walk_at "go"
        refine r_mulSk (by omega) (by omega) (by decide +kernel) ?_
        walk_at "go"
        refine r_mulSk (by omega) (by omega) (by decide +kernel) ?_
        walk_at "go"
        have la : (repS ("a" : Str) ((n2 : Int) - 1)).length ≤ 6 := by
          rw [len_repS]
          show ((n2 : Int) - 1).toNat * 1 ≤ 6
          omega
        refine r_addS (by show _ + 1 ≤ _; omega) ?_
        walk_at "go"
        rename_i la1 H32 S32 hla nla
        refine r_newL (sz100 (Nat.le_of_ble_eq_true rfl)) fun pk H33 S33 hpk npk => ?_
        have T33 : Tape H33 t := (T31.mvN S32).mvN S33
        walk_at "go"
        walk_at "dr"
        intro d2 H34 d20 d21 S34
        have npk' : pk ≠ t := by
          obtain ⟨_, _, _, _, _, _, e, _⟩ := T33
          rintro rfl
          rw [hpk] at e
          cases e
        have hpk34 := At.lstS S34 npk' hpk
        have hla34 : H34 la1 = some (.lst [.str "a"]) := At.lstS S34 (ne_tape (ss := ["a"]) (T31.mvN S32) hla) (At.lst S33 hla)
        have hpo34 := At.lstS S34 npo' (At.lst S33 (At.lst S32 hpo31))
        have s34 : Stp (some t) H17 H34 := (((s30'.trans S31).trans S32.w).trans S33.w).trans S34
        obtain ⟨x, hx⟩ : ∃ x, (odds n2 la1)[d2.toNat]? = some x := ⟨_, List.getElem?_eq_getElem (show d2.toNat < 7 by omega)⟩
        refine r_ixLi hpk34 d20 hx ?_
        obtain ⟨g, d, b, O⟩ := odd_at (K := K) y1 y6 hla34 (List.mem_of_getElem? hx)
        clear hpk34 hpk npk hla nla S31 S32 S33 S34 T33 T31 s30' hpo30 hpo31 T30
        walk_at "go"
        refine r_cut (fun σ' H' => ∃ pd, σ' = [some (.ref l), some (.ref t), some x, some (.int (0 + (i : Int))), some (.ref p), some (.str (ds (z :: r)).shown), some v, some (.ref po), some (.int d1), some (.int (n2 : Int)), some (.ref pd)] ∧ Stp none H34 H' ∧
          H' pd = some (.lst [.str "rows", .int (if d1 = 0 ∧ b = true then 1 else d1)])) ?_ ?_
        · walk_at "go"
          refine r_ite (fun e0 => ?_) (fun e0 => ?_)
          · walk_at "go"
            refine r_mulSk (by omega) (by omega) (by decide +kernel) ?_
            refine ⟨d, _, O.dp, .str _, O.sh, sh_str (cd_rep (by decide +kernel)), ?_⟩
            rw [O.eq]
            cases b with
            | false =>
              walk_at "go"
              rename_i pd H35 S35 hpd npd
              exact ⟨pd, rfl, S35, by rw [if_neg (by simp)]; exact hpd⟩
            | true =>
              walk_at "go"
              rename_i pd H35 S35 hpd npd
              exact ⟨pd, rfl, S35, by rw [if_pos ⟨e0, rfl⟩]; exact hpd⟩
          · walk_at "go"
            rename_i pd H35 S35 hpd npd
            exact ⟨pd, rfl, S35, by rw [if_neg (fun h => e0 h.1)]; exact hpd⟩
        · rintro σ' H35 ⟨pd, rfl, S35, hpd⟩
          walk_at "go"
          obtain ⟨at_, rfl⟩ : ∃ n : Nat, d1 = (n : Int) := ⟨d1.toNat, by omega⟩
          have hat : at_ ≤ (y :: r2).length := by omega
          have hpo35 := At.lst S35 hpo34
          refine r_slL (SqL.of hpo35) fun q1 H36 S36 hq1 nq1 => ?_
          rw [cut_to (by omega) (by rw [List.length_map]; omega), Int.toNat_natCast] at hq1
          walk_at "go"
          rename_i q2 H37 S37 hq2 nq2
          refine r_cat (At.lst S37 hq1) hq2 (by rw [List.length_take, List.length_map]; show _ + 1 ≤ _; omega) fun q3 H38 S38 hq3 nq3 => ?_
          have hpo38 : H38 po = some (.lst ((y :: r2).map V.str)) := At.lst S38 (At.lst S37 (At.lst S36 hpo35))
          have O38 := RowV.mv (((S35.trans S36).trans S37).trans S38) O.row
          have hpd38 := At.lst S38 (At.lst S37 (At.lst S36 hpd))
          have s38 : Stp (some t) H17 H38 := s34.trans (((S35.trans S36).trans S37).trans S38).w
          clear S35 S36 S37 S38 hq1 hq2 nq1 nq2 nq3 hpo35 hpo34 hpd s34
          walk_at "go"
          refine r_slL (SqL.of hpo38) fun q4 H39 S39 hq4 nq4 => ?_
          rw [cut_from (by omega) (by rw [List.length_map]; omega), Int.toNat_natCast] at hq4
          refine r_cat (At.lst S39 hq3) hq4 (by rw [List.length_append, List.length_take, List.length_drop, List.length_map]; show _ + 1 + _ ≤ _; omega) fun q5 H40 S40 hq5 nq5 => ?_
          walk_at "go"
          rename_i q6 H41 S41 hq6 nq6
          refine r_cat (At.lst S41 hq5) hq6 (by rw [List.length_append, List.length_append, List.length_take, List.length_drop, List.length_map]; show _ + 1 + _ + 1 ≤ _; omega) fun q7 H42 S42 hq7 nq7 => ?_
          walk_at "go"
          have O42 := RowV.mv (((S39.trans S40).trans S41).trans S42) O38
          have hpd42 := At.lst S42 (At.lst S41 (At.lst S40 (At.lst S39 hpd38)))
          have s42 : Stp (some t) H17 H42 := s38.trans (((S39.trans S40).trans S41).trans S42).w
          have hz : ∀ z ∈ (y :: r2), z.length ≤ 1000 := fun z m => by rw [(hD2.z z m).1]; omega
          have hgs : RowsV K H42 (((y :: r2).map V.str).take at_ ++ [x] ++ ((y :: r2).map V.str).drop at_ ++ [V.non]) (((y :: r2).take at_).map some ++ [g] ++ ((y :: r2).drop at_).map some ++ [none]) := by
            rw [← List.map_take, ← List.map_drop]
            exact (((rows_strs fun z m => hz z (List.mem_of_mem_take m)).append (.cons O42 .nil)).append (rows_strs fun z m => hz z (List.mem_of_mem_drop m))).append (.cons (g := none) ⟨_, .base .non, kit_ty (by decide +kernel)⟩ .nil)
          have hlen : (((y :: r2).map V.str).take at_ ++ [x] ++ ((y :: r2).map V.str).drop at_ ++ [V.non]).length = (y :: r2).length + 2 := by
            rw [List.length_append, List.length_append, List.length_append, List.length_take, List.length_drop, List.length_map]
            show _ + 1 + _ + 1 = _
            omega
          have hR : RowsIs K H42 (.ref q7) SG 50 (some (.int ((if at_ = 0 ∧ b = true then 1 else at_ : Nat) : Int))) := by
            refine .inr ⟨q7, _, rfl, .inl (SqL.of hq7), by rw [hlen]; omega, .inr ⟨by rw [hlen]; omega, _, hgs, ?_⟩⟩
            rw [first_odd hD2 hat O.tr O.fa]
            rfl
          refine do_law_told hR (fun e => nomatch e) fun q8 H43 S43 hq8 => ?_
          walk_at "go"
          have ei : ((if at_ = 0 ∧ b = true then 1 else at_ : Nat) : Int) = (if (at_ : Int) = 0 ∧ b = true then 1 else (at_ : Int)) := by
            by_cases h : at_ = 0 ∧ b = true
            · rw [if_pos h, if_pos ⟨by omega, h.2⟩]; rfl
            · rw [if_neg h, if_neg (fun h2 => h ⟨by omega, h2.2⟩)]
          rw [ei] at hq8
          refine r_neTold (.int _) hq8 (At.lst S43 hpd42) ?_
          walk_at "go"
          exact ⟨_, _, _, _, _, _, _, _, _, rfl, s17.trans (s42.trans S43.w)⟩
      · rintro σ H16 ⟨b2, b3, b4, b5, b6, b7, b8, b9, b10, rfl, s17⟩
        walk_at "go"
        exact q H16
end
end Law

set_option Elab.async false
set_option linter.all false
set_option maxRecDepth 100000
set_option maxHeartbeats 4000000
namespace Law
open PySem PySem.Spec PyProof.Rows L2 MV TL
local macro_rules | `(tactic| walk_at "mv_vals") => `(tactic| repeat first | exact Paired.nil | refine Paired.cons ?_ ?_ | exact rfl | exact ⟨_, rfl⟩)
local macro_rules | `(tactic| walk_at "mv_kt") => `(tactic| (refine' MV.kt_mk ?h ?z ?v; (case h => k_is); (case z => decide +kernel); (case v => walk_at "mv_vals")))
local macro_rules | `(tactic| walk_at "mv_lit") => `(tactic| repeat first | exact True.intro | refine ⟨⟨_, _, rfl, rfl⟩, ?_⟩)
local macro_rules | `(tactic| walk_at "mv_kd") => `(tactic| (refine' MV.kd_mk ?h ?l ?n ?v; (case h => k_is); (case n => k_is); (case l => walk_at "mv_lit"); (case v => first | exact rfl | exact ⟨_, rfl⟩)))
local macro_rules | `(tactic| walk_at "mv_kk") => `(tactic| (refine' MV.kk_mk ?h ?n ?v; (case h => k_is); (case n => decide +kernel); (case v => walk_at "mv_vals")))
local macro_rules | `(tactic| walk_at "mv_bind") => `(tactic| (refine ⟨?k, ?h, ?g⟩; (case h => (unfold bindArgs; dsimp only; rw [List.forIn_nil, pure_bind])); (case g => exact rfl)))
theorem all_mk {K : PySem.W.Frag} {h : Heap} {mg : Str → Option Value} {fa : Addr} (X : K.In h) (G : h.Ns mainGlobals mg) (hfa : mg "law" = some (.ref fa))
    {C_InvalidRows : Addr}
    {nm_InvalidRows q_InvalidRows : Str} {N_InvalidRows : Addr} {bs_InvalidRows bm_InvalidRows sub_InvalidRows : List Value} {sn_InvalidRows : List Str} {ab_InvalidRows : Bool} {col_InvalidRows : Option Bool} {dd_InvalidRows : Option Addr} {k0_InvalidRows k1_InvalidRows k2_InvalidRows k3_InvalidRows k5_InvalidRows : Option Value}
    {C_Patch : Addr}
    {InvalidRows_init : Addr} {od_InvalidRows_init an_InvalidRows_init : Option Addr} {sl_InvalidRows_init : Array (Option Value)} {oc_InvalidRows_init kV_InvalidRows_init dc_InvalidRows_init pm_InvalidRows_init cd_InvalidRows_init ct_InvalidRows_init : Value}
    {is_written : Addr} {od_is_written an_is_written : Option Addr} {sl_is_written : Array (Option Value)} {oc_is_written kV_is_written dc_is_written pm_is_written cd_is_written ct_is_written : Value}
    {check_rows : Addr} {od_check_rows an_check_rows : Option Addr} {sl_check_rows : Array (Option Value)} {oc_check_rows kV_check_rows dc_check_rows pm_check_rows cd_check_rows ct_check_rows : Value}
    {Patch_init : Addr} {od_Patch_init an_Patch_init : Option Addr} {sl_Patch_init : Array (Option Value)} {oc_Patch_init kV_Patch_init dc_Patch_init pm_Patch_init cd_Patch_init ct_Patch_init : Value}
    {Patch_rows : Addr} {od_Patch_rows an_Patch_rows : Option Addr} {sl_Patch_rows : Array (Option Value)} {oc_Patch_rows kV_Patch_rows dc_Patch_rows pm_Patch_rows cd_Patch_rows ct_Patch_rows : Value}
    {p_Patch_rows : Addr} {r_Patch_rows : List Value}
    {Patch_width : Addr} {od_Patch_width an_Patch_width : Option Addr} {sl_Patch_width : Array (Option Value)} {oc_Patch_width kV_Patch_width dc_Patch_width pm_Patch_width cd_Patch_width ct_Patch_width : Value}
    {p_Patch_width : Addr} {r_Patch_width : List Value}
    {Patch_height : Addr} {od_Patch_height an_Patch_height : Option Addr} {sl_Patch_height : Array (Option Value)} {oc_Patch_height kV_Patch_height dc_Patch_height pm_Patch_height cd_Patch_height ct_Patch_height : Value}
    {p_Patch_height : Addr} {r_Patch_height : List Value}
    {Patch_eq : Addr} {od_Patch_eq an_Patch_eq : Option Addr} {sl_Patch_eq : Array (Option Value)} {oc_Patch_eq kV_Patch_eq dc_Patch_eq pm_Patch_eq cd_Patch_eq ct_Patch_eq : Value}
    {Patch_repr : Addr} {od_Patch_repr an_Patch_repr : Option Addr} {sl_Patch_repr : Array (Option Value)} {oc_Patch_repr kV_Patch_repr dc_Patch_repr pm_Patch_repr cd_Patch_repr ct_Patch_repr : Value}
    {law_tape : Addr} {od_law_tape an_law_tape : Option Addr} {sl_law_tape : Array (Option Value)} {oc_law_tape kV_law_tape dc_law_tape pm_law_tape cd_law_tape ct_law_tape : Value}
    {law_draw : Addr} {od_law_draw an_law_draw : Option Addr} {sl_law_draw : Array (Option Value)} {oc_law_draw kV_law_draw dc_law_draw pm_law_draw cd_law_draw ct_law_draw : Value}
    {law_told : Addr} {od_law_told an_law_told : Option Addr} {sl_law_told : Array (Option Value)} {oc_law_told kV_law_told dc_law_told pm_law_told cd_law_told ct_law_told : Value}
    {law_some : Addr} {od_law_some an_law_some : Option Addr} {sl_law_some : Array (Option Value)} {oc_law_some kV_law_some dc_law_some pm_law_some cd_law_some ct_law_some : Value}
    {law : Addr} {od_law an_law : Option Addr} {sl_law : Array (Option Value)} {oc_law kV_law dc_law pm_law cd_law ct_law : Value}
    {t_LETTERS : Tok}
    {t_ANY_COLOUR : Tok}
    {t_SIDE_LIMIT : Tok}
    (a_InvalidRows : PySem.W.nsIn K mainGlobals "InvalidRows" = some (some (.ref C_InvalidRows)))
    (lc_InvalidRows : K.lookup C_InvalidRows = some (PySem.excClassObj nm_InvalidRows q_InvalidRows C_InvalidRows N_InvalidRows bs_InvalidRows bm_InvalidRows true sn_InvalidRows sub_InvalidRows ab_InvalidRows col_InvalidRows dd_InvalidRows k0_InvalidRows k1_InvalidRows k2_InvalidRows k3_InvalidRows k5_InvalidRows "ValueError.__new__"))
    (rv_InvalidRows : PySem.HandSPX.refsVE bm_InvalidRows = true)
    (sa_InvalidRows : PySem.W.findIn K (.ref C_InvalidRows) "__setattr__" = some (some (.builtin "object.__setattr__")))
    (ex_InvalidRows : PySem.W.subIn K (.ref C_InvalidRows) (.type "BaseException") = some true)
    (ty_InvalidRows : PySem.W.typeIn K (.ref C_InvalidRows) = some (.type "type"))
    (kc_InvalidRows : PySem.W.keepIn K (.ref C_InvalidRows) = true)
    (nf_InvalidRows : PySem.W.findIn K (.ref C_InvalidRows) "index" = some none)
    (xg_InvalidRows : xfB K C_InvalidRows = true)
    (xa_InvalidRows : PySem.W.findIn K (.ref C_InvalidRows) "__class__" = some (some (.builtin "object.__class__")))
    (xn_InvalidRows : PySem.W.specialIn K (.builtin "object.__class__") "__get__" = some (some (.builtin "getset_descriptor.__get__")))
    (xt_InvalidRows : PySem.W.takesIn K (.builtin "object.__class__") = some true)
    (xm_InvalidRows : PySem.W.mroIn K C_InvalidRows (.type "object") = some true)
    (a_Patch : PySem.W.nsIn K mainGlobals "Patch" = some (some (.ref C_Patch)))
    (pg_Patch : PySem.W.plainGet K C_Patch Str.empty = true)
    (hd_Patch : PySem.W.hasDictIn K C_Patch = true)
    (po_Patch : PySem.W.plainOver K C_Patch = true)
    (sa_Patch : PySem.W.findIn K (.ref C_Patch) "__setattr__" = some (some (.builtin "object.__setattr__")))
    (mk_Patch : PySem.W.makesIn K C_Patch = true)
    (kc_Patch : PySem.W.keepIn K (.ref C_Patch) = true)
    (a_InvalidRows_init : PySem.W.findIn K (.ref C_InvalidRows) "__init__" = some (some (.ref InvalidRows_init)))
    (i_InvalidRows_init : PySem.W.isFn K (.ref InvalidRows_init) = true)
    (l_InvalidRows_init : K.lookup InvalidRows_init = some ⟨oc_InvalidRows_init, od_InvalidRows_init, .func (PySem.W.fnOf "__init__" "InvalidRows.__init__" (defArgs s_InvalidRows_init) (defBody s_InvalidRows_init) (defScope s_InvalidRows_init) .none kV_InvalidRows_init dc_InvalidRows_init pm_InvalidRows_init an_InvalidRows_init cd_InvalidRows_init ct_InvalidRows_init), sl_InvalidRows_init⟩)
    (c_InvalidRows_init : PySem.W.codeIn K cd_InvalidRows_init "InvalidRows.__init__" = true)
    (k_InvalidRows_init : PySem.W.keepIn K (.ref InvalidRows_init) = true)
    (tf_InvalidRows : PySem.W.typeIn K (.ref InvalidRows_init) = some (.type "function"))
    (a_is_written : PySem.W.nsIn K mainGlobals "is_written" = some (some (.ref is_written)))
    (l_is_written : K.lookup is_written = some ⟨oc_is_written, od_is_written, .func (PySem.W.fnOf "is_written" "is_written" (defArgs s_is_written) (defBody s_is_written) (defScope s_is_written) .none kV_is_written dc_is_written pm_is_written an_is_written cd_is_written ct_is_written), sl_is_written⟩)
    (c_is_written : PySem.W.codeIn K cd_is_written "is_written" = true)
    (k_is_written : PySem.W.keepIn K (.ref is_written) = true)
    (a_check_rows : PySem.W.nsIn K mainGlobals "check_rows" = some (some (.ref check_rows)))
    (l_check_rows : K.lookup check_rows = some ⟨oc_check_rows, od_check_rows, .func (PySem.W.fnOf "check_rows" "check_rows" (defArgs s_check_rows) (defBody s_check_rows) (defScope s_check_rows) .none kV_check_rows dc_check_rows pm_check_rows an_check_rows cd_check_rows ct_check_rows), sl_check_rows⟩)
    (c_check_rows : PySem.W.codeIn K cd_check_rows "check_rows" = true)
    (k_check_rows : PySem.W.keepIn K (.ref check_rows) = true)
    (a_Patch_init : PySem.W.findIn K (.ref C_Patch) "__init__" = some (some (.ref Patch_init)))
    (i_Patch_init : PySem.W.isFn K (.ref Patch_init) = true)
    (l_Patch_init : K.lookup Patch_init = some ⟨oc_Patch_init, od_Patch_init, .func (PySem.W.fnOf "__init__" "Patch.__init__" (defArgs s_Patch_init) (defBody s_Patch_init) (defScope s_Patch_init) .none kV_Patch_init dc_Patch_init pm_Patch_init an_Patch_init cd_Patch_init ct_Patch_init), sl_Patch_init⟩)
    (c_Patch_init : PySem.W.codeIn K cd_Patch_init "Patch.__init__" = true)
    (k_Patch_init : PySem.W.keepIn K (.ref Patch_init) = true)
    (a_Patch_rows : PySem.W.findIn K (.ref C_Patch) "rows" = some (some (.ref p_Patch_rows)))
    (g1_Patch_rows : PySem.W.specialIn K (.ref p_Patch_rows) "__get__" = some (some (.builtin "property.__get__")))
    (g2_Patch_rows : PySem.W.takesIn K (.ref p_Patch_rows) = some true)
    (g3_Patch_rows : PySem.W.recIn K p_Patch_rows "property" = some (.ref Patch_rows :: r_Patch_rows))
    (l_Patch_rows : K.lookup Patch_rows = some ⟨oc_Patch_rows, od_Patch_rows, .func (PySem.W.fnOf "rows" "Patch.rows" (defArgs s_Patch_rows) (defBody s_Patch_rows) (defScope s_Patch_rows) .none kV_Patch_rows dc_Patch_rows pm_Patch_rows an_Patch_rows cd_Patch_rows ct_Patch_rows), sl_Patch_rows⟩)
    (c_Patch_rows : PySem.W.codeIn K cd_Patch_rows "Patch.rows" = true)
    (k_Patch_rows : PySem.W.keepIn K (.ref Patch_rows) = true)
    (a_Patch_width : PySem.W.findIn K (.ref C_Patch) "width" = some (some (.ref p_Patch_width)))
    (g1_Patch_width : PySem.W.specialIn K (.ref p_Patch_width) "__get__" = some (some (.builtin "property.__get__")))
    (g2_Patch_width : PySem.W.takesIn K (.ref p_Patch_width) = some true)
    (g3_Patch_width : PySem.W.recIn K p_Patch_width "property" = some (.ref Patch_width :: r_Patch_width))
    (l_Patch_width : K.lookup Patch_width = some ⟨oc_Patch_width, od_Patch_width, .func (PySem.W.fnOf "width" "Patch.width" (defArgs s_Patch_width) (defBody s_Patch_width) (defScope s_Patch_width) .none kV_Patch_width dc_Patch_width pm_Patch_width an_Patch_width cd_Patch_width ct_Patch_width), sl_Patch_width⟩)
    (c_Patch_width : PySem.W.codeIn K cd_Patch_width "Patch.width" = true)
    (k_Patch_width : PySem.W.keepIn K (.ref Patch_width) = true)
    (a_Patch_height : PySem.W.findIn K (.ref C_Patch) "height" = some (some (.ref p_Patch_height)))
    (g1_Patch_height : PySem.W.specialIn K (.ref p_Patch_height) "__get__" = some (some (.builtin "property.__get__")))
    (g2_Patch_height : PySem.W.takesIn K (.ref p_Patch_height) = some true)
    (g3_Patch_height : PySem.W.recIn K p_Patch_height "property" = some (.ref Patch_height :: r_Patch_height))
    (l_Patch_height : K.lookup Patch_height = some ⟨oc_Patch_height, od_Patch_height, .func (PySem.W.fnOf "height" "Patch.height" (defArgs s_Patch_height) (defBody s_Patch_height) (defScope s_Patch_height) .none kV_Patch_height dc_Patch_height pm_Patch_height an_Patch_height cd_Patch_height ct_Patch_height), sl_Patch_height⟩)
    (c_Patch_height : PySem.W.codeIn K cd_Patch_height "Patch.height" = true)
    (k_Patch_height : PySem.W.keepIn K (.ref Patch_height) = true)
    (a_Patch_eq : PySem.W.findIn K (.ref C_Patch) "__eq__" = some (some (.ref Patch_eq)))
    (i_Patch_eq : PySem.W.isFn K (.ref Patch_eq) = true)
    (ne_Patch : PySem.W.findIn K (.ref C_Patch) "__ne__" = some (some (.builtin "object.__ne__")))
    (ob_Patch : PySem.W.subIn K (.ref C_Patch) (.type "object") = some true)
    (l_Patch_eq : K.lookup Patch_eq = some ⟨oc_Patch_eq, od_Patch_eq, .func (PySem.W.fnOf "__eq__" "Patch.__eq__" (defArgs s_Patch_eq) (defBody s_Patch_eq) (defScope s_Patch_eq) .none kV_Patch_eq dc_Patch_eq pm_Patch_eq an_Patch_eq cd_Patch_eq ct_Patch_eq), sl_Patch_eq⟩)
    (c_Patch_eq : PySem.W.codeIn K cd_Patch_eq "Patch.__eq__" = true)
    (k_Patch_eq : PySem.W.keepIn K (.ref Patch_eq) = true)
    (a_Patch_repr : PySem.W.findIn K (.ref C_Patch) "__repr__" = some (some (.ref Patch_repr)))
    (i_Patch_repr : PySem.W.isFn K (.ref Patch_repr) = true)
    (l_Patch_repr : K.lookup Patch_repr = some ⟨oc_Patch_repr, od_Patch_repr, .func (PySem.W.fnOf "__repr__" "Patch.__repr__" (defArgs s_Patch_repr) (defBody s_Patch_repr) (defScope s_Patch_repr) .none kV_Patch_repr dc_Patch_repr pm_Patch_repr an_Patch_repr cd_Patch_repr ct_Patch_repr), sl_Patch_repr⟩)
    (c_Patch_repr : PySem.W.codeIn K cd_Patch_repr "Patch.__repr__" = true)
    (k_Patch_repr : PySem.W.keepIn K (.ref Patch_repr) = true)
    (a_law_tape : PySem.W.nsIn K mainGlobals "_law_tape" = some (some (.ref law_tape)))
    (l_law_tape : K.lookup law_tape = some ⟨oc_law_tape, od_law_tape, .func (PySem.W.fnOf "_law_tape" "_law_tape" (defArgs s_law_tape) (defBody s_law_tape) (defScope s_law_tape) .none kV_law_tape dc_law_tape pm_law_tape an_law_tape cd_law_tape ct_law_tape), sl_law_tape⟩)
    (c_law_tape : PySem.W.codeIn K cd_law_tape "_law_tape" = true)
    (k_law_tape : PySem.W.keepIn K (.ref law_tape) = true)
    (a_law_draw : PySem.W.nsIn K mainGlobals "_law_draw" = some (some (.ref law_draw)))
    (l_law_draw : K.lookup law_draw = some ⟨oc_law_draw, od_law_draw, .func (PySem.W.fnOf "_law_draw" "_law_draw" (defArgs s_law_draw) (defBody s_law_draw) (defScope s_law_draw) .none kV_law_draw dc_law_draw pm_law_draw an_law_draw cd_law_draw ct_law_draw), sl_law_draw⟩)
    (c_law_draw : PySem.W.codeIn K cd_law_draw "_law_draw" = true)
    (k_law_draw : PySem.W.keepIn K (.ref law_draw) = true)
    (a_law_told : PySem.W.nsIn K mainGlobals "_law_told" = some (some (.ref law_told)))
    (l_law_told : K.lookup law_told = some ⟨oc_law_told, od_law_told, .func (PySem.W.fnOf "_law_told" "_law_told" (defArgs s_law_told) (defBody s_law_told) (defScope s_law_told) .none kV_law_told dc_law_told pm_law_told an_law_told cd_law_told ct_law_told), sl_law_told⟩)
    (c_law_told : PySem.W.codeIn K cd_law_told "_law_told" = true)
    (k_law_told : PySem.W.keepIn K (.ref law_told) = true)
    (a_law_some : PySem.W.nsIn K mainGlobals "_law_some" = some (some (.ref law_some)))
    (l_law_some : K.lookup law_some = some ⟨oc_law_some, od_law_some, .func (PySem.W.fnOf "_law_some" "_law_some" (defArgs s_law_some) (defBody s_law_some) (defScope s_law_some) .none kV_law_some dc_law_some pm_law_some an_law_some cd_law_some ct_law_some), sl_law_some⟩)
    (c_law_some : PySem.W.codeIn K cd_law_some "_law_some" = true)
    (k_law_some : PySem.W.keepIn K (.ref law_some) = true)
    (a_law : PySem.W.nsIn K mainGlobals "law" = some (some (.ref law)))
    (l_law : K.lookup law = some ⟨oc_law, od_law, .func (PySem.W.fnOf "law" "law" (defArgs s_law) (defBody s_law) (defScope s_law) .none kV_law dc_law pm_law an_law cd_law ct_law), sl_law⟩)
    (c_law : PySem.W.codeIn K cd_law "law" = true)
    (k_law : PySem.W.keepIn K (.ref law) = true)
    (z_all : PySem.W.nsIn K mainGlobals "all" = some none)
    (z_bool : PySem.W.nsIn K mainGlobals "bool" = some none)
    (z_enumerate : PySem.W.nsIn K mainGlobals "enumerate" = some none)
    (z_int : PySem.W.nsIn K mainGlobals "int" = some none)
    (z_isinstance : PySem.W.nsIn K mainGlobals "isinstance" = some none)
    (z_len : PySem.W.nsIn K mainGlobals "len" = some none)
    (z_list : PySem.W.nsIn K mainGlobals "list" = some none)
    (z_range : PySem.W.nsIn K mainGlobals "range" = some none)
    (z_repr : PySem.W.nsIn K mainGlobals "repr" = some none)
    (z_str : PySem.W.nsIn K mainGlobals "str" = some none)
    (z_tuple : PySem.W.nsIn K mainGlobals "tuple" = some none)
    (v_LETTERS : PySem.W.nsIn K mainGlobals "LETTERS" = some (some (.str "abcdefghijklmnopqrstuvwxyz" t_LETTERS)))
    (v_ANY_COLOUR : PySem.W.nsIn K mainGlobals "ANY_COLOUR" = some (some (.str "." t_ANY_COLOUR)))
    (v_SIDE_LIMIT : PySem.W.nsIn K mainGlobals "SIDE_LIMIT" = some (some (.int 50 t_SIDE_LIMIT)))
    (em_IR : PySem.W.exmOne K (.ref C_InvalidRows) (.ref C_InvalidRows) = some true)
    (nn_rows : PySem.W.findIn K (.ref C_Patch) "_rows" = some none)
    (ic1 : PySem.W.findIn K (.ref C_Patch) "__class__" = some (some (.builtin "object.__class__")))
    (ic2 : PySem.W.specialIn K (.builtin "object.__class__") "__get__" = some (some (.builtin "getset_descriptor.__get__")))
    (ic3 : PySem.W.takesIn K (.builtin "object.__class__") = some true)
    (ic4 : PySem.W.mroIn K C_Patch (.type "object") = some true)
    (kl_P : PySem.W.kitOne K (.type "list") (.ref C_Patch) = some false)
    (nf_P : PySem.W.notFirst K C_Patch (.type "list") = true)
    : ∃ a : Ad, a.law = fa ∧ (∀ (s : Shared) (v : Value), BindsTo s a.law_d ⟨[v], []⟩ [("_law_script", v)]) ∧ Txt K mg a := by
  have e := hfa.symm.trans (PySem.W.mg_of X G a_law)
  cases e
  refine ⟨{ C_InvalidRows := C_InvalidRows, C_Patch := C_Patch, InvalidRows_init := InvalidRows_init, InvalidRows_init_d := PySem.W.fnOf "__init__" "InvalidRows.__init__" (defArgs s_InvalidRows_init) (defBody s_InvalidRows_init) (defScope s_InvalidRows_init) .none kV_InvalidRows_init dc_InvalidRows_init pm_InvalidRows_init an_InvalidRows_init cd_InvalidRows_init ct_InvalidRows_init, is_written := is_written, is_written_d := PySem.W.fnOf "is_written" "is_written" (defArgs s_is_written) (defBody s_is_written) (defScope s_is_written) .none kV_is_written dc_is_written pm_is_written an_is_written cd_is_written ct_is_written, check_rows := check_rows, check_rows_d := PySem.W.fnOf "check_rows" "check_rows" (defArgs s_check_rows) (defBody s_check_rows) (defScope s_check_rows) .none kV_check_rows dc_check_rows pm_check_rows an_check_rows cd_check_rows ct_check_rows, Patch_init := Patch_init, Patch_init_d := PySem.W.fnOf "__init__" "Patch.__init__" (defArgs s_Patch_init) (defBody s_Patch_init) (defScope s_Patch_init) .none kV_Patch_init dc_Patch_init pm_Patch_init an_Patch_init cd_Patch_init ct_Patch_init, Patch_rows := Patch_rows, Patch_rows_d := PySem.W.fnOf "rows" "Patch.rows" (defArgs s_Patch_rows) (defBody s_Patch_rows) (defScope s_Patch_rows) .none kV_Patch_rows dc_Patch_rows pm_Patch_rows an_Patch_rows cd_Patch_rows ct_Patch_rows, p_Patch_rows := p_Patch_rows, Patch_width := Patch_width, Patch_width_d := PySem.W.fnOf "width" "Patch.width" (defArgs s_Patch_width) (defBody s_Patch_width) (defScope s_Patch_width) .none kV_Patch_width dc_Patch_width pm_Patch_width an_Patch_width cd_Patch_width ct_Patch_width, p_Patch_width := p_Patch_width, Patch_height := Patch_height, Patch_height_d := PySem.W.fnOf "height" "Patch.height" (defArgs s_Patch_height) (defBody s_Patch_height) (defScope s_Patch_height) .none kV_Patch_height dc_Patch_height pm_Patch_height an_Patch_height cd_Patch_height ct_Patch_height, p_Patch_height := p_Patch_height, Patch_eq := Patch_eq, Patch_eq_d := PySem.W.fnOf "__eq__" "Patch.__eq__" (defArgs s_Patch_eq) (defBody s_Patch_eq) (defScope s_Patch_eq) .none kV_Patch_eq dc_Patch_eq pm_Patch_eq an_Patch_eq cd_Patch_eq ct_Patch_eq, Patch_repr := Patch_repr, Patch_repr_d := PySem.W.fnOf "__repr__" "Patch.__repr__" (defArgs s_Patch_repr) (defBody s_Patch_repr) (defScope s_Patch_repr) .none kV_Patch_repr dc_Patch_repr pm_Patch_repr an_Patch_repr cd_Patch_repr ct_Patch_repr, law_tape := law_tape, law_tape_d := PySem.W.fnOf "_law_tape" "_law_tape" (defArgs s_law_tape) (defBody s_law_tape) (defScope s_law_tape) .none kV_law_tape dc_law_tape pm_law_tape an_law_tape cd_law_tape ct_law_tape, law_draw := law_draw, law_draw_d := PySem.W.fnOf "_law_draw" "_law_draw" (defArgs s_law_draw) (defBody s_law_draw) (defScope s_law_draw) .none kV_law_draw dc_law_draw pm_law_draw an_law_draw cd_law_draw ct_law_draw, law_told := law_told, law_told_d := PySem.W.fnOf "_law_told" "_law_told" (defArgs s_law_told) (defBody s_law_told) (defScope s_law_told) .none kV_law_told dc_law_told pm_law_told an_law_told cd_law_told ct_law_told, law_some := law_some, law_some_d := PySem.W.fnOf "_law_some" "_law_some" (defArgs s_law_some) (defBody s_law_some) (defScope s_law_some) .none kV_law_some dc_law_some pm_law_some an_law_some cd_law_some ct_law_some, law := fa, law_d := PySem.W.fnOf "law" "law" (defArgs s_law) (defBody s_law) (defScope s_law) .none kV_law dc_law pm_law an_law cd_law ct_law }, rfl, fun s v => .of_eq rfl, ?_⟩
  exact {
    g_InvalidRows := PySem.W.mg_of X G a_InvalidRows,
    x_InvalidRows := ⟨⟨⟨_, _, _, _, _, _, _, _, _, _, _, _, _, _, _, lc_InvalidRows, rv_InvalidRows⟩, sa_InvalidRows, ex_InvalidRows, ty_InvalidRows, kc_InvalidRows⟩, a_InvalidRows_init, tf_InvalidRows, nf_InvalidRows⟩,
    xf_InvalidRows := xfB_ok xg_InvalidRows,
    xi_InvalidRows := (let z := xfB_ok xg_InvalidRows; ⟨z.ga, z.gg, z.exC, z.hdC, xa_InvalidRows, xn_InvalidRows, xt_InvalidRows, xm_InvalidRows⟩),
    g_Patch := PySem.W.mg_of X G a_Patch,
    cl_Patch := ⟨pg_Patch, hd_Patch, po_Patch, sa_Patch⟩,
    k_Patch := ⟨mk_Patch, a_Patch_init, i_Patch_init, kc_Patch⟩,
    F_InvalidRows_init := fun_mk (st := s_InvalidRows_init) l_InvalidRows_init c_InvalidRows_init k_InvalidRows_init,
    b_InvalidRows_init := (fun_mk (st := s_InvalidRows_init) l_InvalidRows_init c_InvalidRows_init k_InvalidRows_init).binds (ps := P_InvalidRows_init) fun _ _ _ _ _ _ us hl => match us, hl with | [_, _], _ => rfl,
    g_is_written := PySem.W.mg_of X G a_is_written,
    F_is_written := fun_mk (st := s_is_written) l_is_written c_is_written k_is_written,
    b_is_written := (fun_mk (st := s_is_written) l_is_written c_is_written k_is_written).binds (ps := P_is_written) fun _ _ _ _ _ _ us hl => match us, hl with | [_, _], _ => rfl,
    g_check_rows := PySem.W.mg_of X G a_check_rows,
    F_check_rows := fun_mk (st := s_check_rows) l_check_rows c_check_rows k_check_rows,
    b_check_rows := (fun_mk (st := s_check_rows) l_check_rows c_check_rows k_check_rows).binds (ps := P_check_rows) fun _ _ _ _ _ _ us hl => match us, hl with | [_, _, _], _ => rfl,
    F_Patch_init := fun_mk (st := s_Patch_init) l_Patch_init c_Patch_init k_Patch_init,
    b_Patch_init := (fun_mk (st := s_Patch_init) l_Patch_init c_Patch_init k_Patch_init).binds (ps := P_Patch_init) fun _ _ _ _ _ _ us hl => match us, hl with | [_, _], _ => rfl,
    p_Patch_rows := ⟨a_Patch_rows, g1_Patch_rows, g2_Patch_rows, _, g3_Patch_rows⟩,
    F_Patch_rows := fun_mk (st := s_Patch_rows) l_Patch_rows c_Patch_rows k_Patch_rows,
    b_Patch_rows := (fun_mk (st := s_Patch_rows) l_Patch_rows c_Patch_rows k_Patch_rows).binds (ps := P_Patch_rows) fun _ _ _ _ _ _ us hl => match us, hl with | [_], _ => rfl,
    p_Patch_width := ⟨a_Patch_width, g1_Patch_width, g2_Patch_width, _, g3_Patch_width⟩,
    F_Patch_width := fun_mk (st := s_Patch_width) l_Patch_width c_Patch_width k_Patch_width,
    b_Patch_width := (fun_mk (st := s_Patch_width) l_Patch_width c_Patch_width k_Patch_width).binds (ps := P_Patch_width) fun _ _ _ _ _ _ us hl => match us, hl with | [_], _ => rfl,
    p_Patch_height := ⟨a_Patch_height, g1_Patch_height, g2_Patch_height, _, g3_Patch_height⟩,
    F_Patch_height := fun_mk (st := s_Patch_height) l_Patch_height c_Patch_height k_Patch_height,
    b_Patch_height := (fun_mk (st := s_Patch_height) l_Patch_height c_Patch_height k_Patch_height).binds (ps := P_Patch_height) fun _ _ _ _ _ _ us hl => match us, hl with | [_], _ => rfl,
    e_Patch := ⟨a_Patch_eq, i_Patch_eq, ne_Patch, ob_Patch⟩,
    F_Patch_eq := fun_mk (st := s_Patch_eq) l_Patch_eq c_Patch_eq k_Patch_eq,
    b_Patch_eq := (fun_mk (st := s_Patch_eq) l_Patch_eq c_Patch_eq k_Patch_eq).binds (ps := P_Patch_eq) fun _ _ _ _ _ _ us hl => match us, hl with | [_, _], _ => rfl,
    o_Patch_repr := ⟨a_Patch_repr, i_Patch_repr⟩,
    F_Patch_repr := fun_mk (st := s_Patch_repr) l_Patch_repr c_Patch_repr k_Patch_repr,
    b_Patch_repr := (fun_mk (st := s_Patch_repr) l_Patch_repr c_Patch_repr k_Patch_repr).binds (ps := P_Patch_repr) fun _ _ _ _ _ _ us hl => match us, hl with | [_], _ => rfl,
    g_law_tape := PySem.W.mg_of X G a_law_tape,
    F_law_tape := fun_mk (st := s_law_tape) l_law_tape c_law_tape k_law_tape,
    b_law_tape := (fun_mk (st := s_law_tape) l_law_tape c_law_tape k_law_tape).binds (ps := P_law_tape) fun _ _ _ _ _ _ us hl => match us, hl with | [_], _ => rfl,
    g_law_draw := PySem.W.mg_of X G a_law_draw,
    F_law_draw := fun_mk (st := s_law_draw) l_law_draw c_law_draw k_law_draw,
    b_law_draw := (fun_mk (st := s_law_draw) l_law_draw c_law_draw k_law_draw).binds (ps := P_law_draw) fun _ _ _ _ _ _ us hl => match us, hl with | [_, _], _ => rfl,
    g_law_told := PySem.W.mg_of X G a_law_told,
    F_law_told := fun_mk (st := s_law_told) l_law_told c_law_told k_law_told,
    b_law_told := (fun_mk (st := s_law_told) l_law_told c_law_told k_law_told).binds (ps := P_law_told) fun _ _ _ _ _ _ us hl => match us, hl with | [_], _ => rfl,
    g_law_some := PySem.W.mg_of X G a_law_some,
    F_law_some := fun_mk (st := s_law_some) l_law_some c_law_some k_law_some,
    b_law_some := (fun_mk (st := s_law_some) l_law_some c_law_some k_law_some).binds (ps := P_law_some) fun _ _ _ _ _ _ us hl => match us, hl with | [_], _ => rfl,
    g_law := PySem.W.mg_of X G a_law,
    F_law := fun_mk (st := s_law) l_law c_law k_law,
    b_law := (fun_mk (st := s_law) l_law c_law k_law).binds (ps := P_law) fun _ _ _ _ _ _ us hl => match us, hl with | [_], _ => rfl,
    kb_Patch_init_0_rows := ⟨fun s us ws _ h1 h2 => match us, ws, h1, h2 with | [_], [_], _, _ => .of_eq rfl, fun r1 r2 => r1.append r2⟩,
    z_all := PySem.W.mg_none_of X G z_all,
    z_bool := PySem.W.mg_none_of X G z_bool,
    z_enumerate := PySem.W.mg_none_of X G z_enumerate,
    z_int := PySem.W.mg_none_of X G z_int,
    z_isinstance := PySem.W.mg_none_of X G z_isinstance,
    z_len := PySem.W.mg_none_of X G z_len,
    z_list := PySem.W.mg_none_of X G z_list,
    z_range := PySem.W.mg_none_of X G z_range,
    z_repr := PySem.W.mg_none_of X G z_repr,
    z_str := PySem.W.mg_none_of X G z_str,
    z_tuple := PySem.W.mg_none_of X G z_tuple,
    v_LETTERS := ⟨_, PySem.W.mg_of X G v_LETTERS, ⟨_, rfl⟩⟩,
    v_ANY_COLOUR := ⟨_, PySem.W.mg_of X G v_ANY_COLOUR, ⟨_, rfl⟩⟩,
    v_SIDE_LIMIT := ⟨_, PySem.W.mg_of X G v_SIDE_LIMIT, ⟨_, rfl⟩⟩,
    em_InvalidRows_InvalidRows := em_IR,
    n_rows := nn_rows,
    i_Patch := ⟨ic1, ic2, ic3, ic4⟩,
    kl_Patch := kl_P,
    nf_Patch := nf_P }
end Law
open PySem PySem.W PyProof.Rows
local macro_rules | `(tactic| walk_at "mv_vals") => `(tactic| repeat first | exact Paired.nil | refine Paired.cons ?_ ?_ | exact rfl | exact ⟨_, rfl⟩)
local macro_rules | `(tactic| walk_at "mv_kt") => `(tactic| (refine' MV.kt_mk ?h ?z ?v; (case h => k_is); (case z => decide +kernel); (case v => walk_at "mv_vals")))
local macro_rules | `(tactic| walk_at "mv_lit") => `(tactic| repeat first | exact True.intro | refine ⟨⟨_, _, rfl, rfl⟩, ?_⟩)
local macro_rules | `(tactic| walk_at "mv_kd") => `(tactic| (refine' MV.kd_mk ?h ?l ?n ?v; (case h => k_is); (case n => k_is); (case l => walk_at "mv_lit"); (case v => first | exact rfl | exact ⟨_, rfl⟩)))
local macro_rules | `(tactic| walk_at "mv_kk") => `(tactic| (refine' MV.kk_mk ?h ?n ?v; (case h => k_is); (case n => decide +kernel); (case v => walk_at "mv_vals")))
local macro_rules | `(tactic| walk_at "mv_bind") => `(tactic| (refine ⟨?k, ?h, ?g⟩; (case h => (unfold bindArgs; dsimp only; rw [List.forIn_nil, pure_bind])); (case g => exact rfl)))
set_option maxHeartbeats 0 in
theorem PySem.Challenge.cw_carpets_k40_patches_made_holds : PySem.Challenge.rw_carpets_k40_patches_made.Holds := by
  w_on; o_law; k_head; (case hw => w_witness2)
  k_fill
  refine MV.walkG (l := PySem.Challenge.rw_carpets_k40_patches_made) (n := 63) (k := 8) (x := "_law_script") (CX := L2.CX0) (sp := Law.sp_law) rfl (by decide) rfl ⟨rfl, by decide, by decide⟩ (fun w h Y => PySem.W.kIn_of Y) ?F (fun K H a ns hl hS => Law.sp_start K H a ns hl hS) (fun _ _ _ _ h => h)
  case F =>
    intro w mg fa h KX G hmg
    refine' MV.byTxt (Law.all_mk KX G hmg ?a_InvalidRows ?lc_InvalidRows ?rv_InvalidRows ?sa_InvalidRows ?ex_InvalidRows ?ty_InvalidRows ?kc_InvalidRows ?nf_InvalidRows ?xg_InvalidRows ?xa_InvalidRows ?xn_InvalidRows ?xt_InvalidRows ?xm_InvalidRows ?a_Patch ?pg_Patch ?hd_Patch ?po_Patch ?sa_Patch ?mk_Patch ?kc_Patch ?a_InvalidRows_init ?i_InvalidRows_init ?l_InvalidRows_init ?c_InvalidRows_init ?k_InvalidRows_init ?tf_InvalidRows ?a_is_written ?l_is_written ?c_is_written ?k_is_written ?a_check_rows ?l_check_rows ?c_check_rows ?k_check_rows ?a_Patch_init ?i_Patch_init ?l_Patch_init ?c_Patch_init ?k_Patch_init ?a_Patch_rows ?g1_Patch_rows ?g2_Patch_rows ?g3_Patch_rows ?l_Patch_rows ?c_Patch_rows ?k_Patch_rows ?a_Patch_width ?g1_Patch_width ?g2_Patch_width ?g3_Patch_width ?l_Patch_width ?c_Patch_width ?k_Patch_width ?a_Patch_height ?g1_Patch_height ?g2_Patch_height ?g3_Patch_height ?l_Patch_height ?c_Patch_height ?k_Patch_height ?a_Patch_eq ?i_Patch_eq ?ne_Patch ?ob_Patch ?l_Patch_eq ?c_Patch_eq ?k_Patch_eq ?a_Patch_repr ?i_Patch_repr ?l_Patch_repr ?c_Patch_repr ?k_Patch_repr ?a_law_tape ?l_law_tape ?c_law_tape ?k_law_tape ?a_law_draw ?l_law_draw ?c_law_draw ?k_law_draw ?a_law_told ?l_law_told ?c_law_told ?k_law_told ?a_law_some ?l_law_some ?c_law_some ?k_law_some ?a_law ?l_law ?c_law ?k_law ?z_all ?z_bool ?z_enumerate ?z_int ?z_isinstance ?z_len ?z_list ?z_range ?z_repr ?z_str ?z_tuple ?v_LETTERS ?v_ANY_COLOUR ?v_SIDE_LIMIT ?em_IR ?nn_rows ?ic1 ?ic2 ?ic3 ?ic4 ?kl_P ?nf_P) (fun a z => ?go)
    (case go =>
      obtain ⟨e, b, T⟩ := z
      subst e
      exact ⟨_, b, fun base _ _ => Law.ok_law T⟩)
    (case a_InvalidRows => first | k_is | rfl)
    (case lc_InvalidRows => first | k_is | rfl)
    (case rv_InvalidRows => first | k_is | rfl)
    (case sa_InvalidRows => first | k_is | rfl)
    (case ex_InvalidRows => first | k_is | rfl)
    (case ty_InvalidRows => first | k_is | rfl)
    (case kc_InvalidRows => first | k_is | rfl)
    (case nf_InvalidRows => first | k_is | rfl)
    (case xg_InvalidRows => first | k_is | rfl)
    (case xa_InvalidRows => first | k_is | rfl)
    (case xn_InvalidRows => first | k_is | rfl)
    (case xt_InvalidRows => first | k_is | rfl)
    (case xm_InvalidRows => first | k_is | rfl)
    (case a_Patch => first | k_is | rfl)
    (case pg_Patch => first | k_is | rfl)
    (case hd_Patch => first | k_is | rfl)
    (case po_Patch => first | k_is | rfl)
    (case sa_Patch => first | k_is | rfl)
    (case mk_Patch => first | k_is | rfl)
    (case kc_Patch => first | k_is | rfl)
    (case a_InvalidRows_init => first | k_is | rfl)
    (case i_InvalidRows_init => first | k_is | rfl)
    (case l_InvalidRows_init => first | k_is | rfl)
    (case c_InvalidRows_init => first | k_is | rfl)
    (case k_InvalidRows_init => first | k_is | rfl)
    (case tf_InvalidRows => first | k_is | rfl)
    (case a_is_written => first | k_is | rfl)
    (case l_is_written => first | k_is | rfl)
    (case c_is_written => first | k_is | rfl)
    (case k_is_written => first | k_is | rfl)
    (case a_check_rows => first | k_is | rfl)
    (case l_check_rows => first | k_is | rfl)
    (case c_check_rows => first | k_is | rfl)
    (case k_check_rows => first | k_is | rfl)
    (case a_Patch_init => first | k_is | rfl)
    (case i_Patch_init => first | k_is | rfl)
    (case l_Patch_init => first | k_is | rfl)
    (case c_Patch_init => first | k_is | rfl)
    (case k_Patch_init => first | k_is | rfl)
    (case a_Patch_rows => first | k_is | rfl)
    (case g1_Patch_rows => first | k_is | rfl)
    (case g2_Patch_rows => first | k_is | rfl)
    (case g3_Patch_rows => first | k_is | rfl)
    (case l_Patch_rows => first | k_is | rfl)
    (case c_Patch_rows => first | k_is | rfl)
    (case k_Patch_rows => first | k_is | rfl)
    (case a_Patch_width => first | k_is | rfl)
    (case g1_Patch_width => first | k_is | rfl)
    (case g2_Patch_width => first | k_is | rfl)
    (case g3_Patch_width => first | k_is | rfl)
    (case l_Patch_width => first | k_is | rfl)
    (case c_Patch_width => first | k_is | rfl)
    (case k_Patch_width => first | k_is | rfl)
    (case a_Patch_height => first | k_is | rfl)
    (case g1_Patch_height => first | k_is | rfl)
    (case g2_Patch_height => first | k_is | rfl)
    (case g3_Patch_height => first | k_is | rfl)
    (case l_Patch_height => first | k_is | rfl)
    (case c_Patch_height => first | k_is | rfl)
    (case k_Patch_height => first | k_is | rfl)
    (case a_Patch_eq => first | k_is | rfl)
    (case i_Patch_eq => first | k_is | rfl)
    (case ne_Patch => first | k_is | rfl)
    (case ob_Patch => first | k_is | rfl)
    (case l_Patch_eq => first | k_is | rfl)
    (case c_Patch_eq => first | k_is | rfl)
    (case k_Patch_eq => first | k_is | rfl)
    (case a_Patch_repr => first | k_is | rfl)
    (case i_Patch_repr => first | k_is | rfl)
    (case l_Patch_repr => first | k_is | rfl)
    (case c_Patch_repr => first | k_is | rfl)
    (case k_Patch_repr => first | k_is | rfl)
    (case a_law_tape => first | k_is | rfl)
    (case l_law_tape => first | k_is | rfl)
    (case c_law_tape => first | k_is | rfl)
    (case k_law_tape => first | k_is | rfl)
    (case a_law_draw => first | k_is | rfl)
    (case l_law_draw => first | k_is | rfl)
    (case c_law_draw => first | k_is | rfl)
    (case k_law_draw => first | k_is | rfl)
    (case a_law_told => first | k_is | rfl)
    (case l_law_told => first | k_is | rfl)
    (case c_law_told => first | k_is | rfl)
    (case k_law_told => first | k_is | rfl)
    (case a_law_some => first | k_is | rfl)
    (case l_law_some => first | k_is | rfl)
    (case c_law_some => first | k_is | rfl)
    (case k_law_some => first | k_is | rfl)
    (case a_law => first | k_is | rfl)
    (case l_law => first | k_is | rfl)
    (case c_law => first | k_is | rfl)
    (case k_law => first | k_is | rfl)
    (case z_all => first | k_is | rfl)
    (case z_bool => first | k_is | rfl)
    (case z_enumerate => first | k_is | rfl)
    (case z_int => first | k_is | rfl)
    (case z_isinstance => first | k_is | rfl)
    (case z_len => first | k_is | rfl)
    (case z_list => first | k_is | rfl)
    (case z_range => first | k_is | rfl)
    (case z_repr => first | k_is | rfl)
    (case z_str => first | k_is | rfl)
    (case z_tuple => first | k_is | rfl)
    (case v_LETTERS => first | k_is | rfl)
    (case v_ANY_COLOUR => first | k_is | rfl)
    (case v_SIDE_LIMIT => first | k_is | rfl)
    (case em_IR => first | k_is | rfl)
    (case nn_rows => first | k_is | rfl)
    (case ic1 => first | k_is | rfl)
    (case ic2 => first | k_is | rfl)
    (case ic3 => first | k_is | rfl)
    (case ic4 => first | k_is | rfl)
    (case kl_P => first | k_is | rfl)
    (case nf_P => first | k_is | rfl)

