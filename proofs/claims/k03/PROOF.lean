import PyProof.Rows.All
import Wide.All
import OpenK.AllK
import Wide.FinOn
import HandS.ForMost
import HandS.ForExc
import HandS.Wide
import HandS.Gcd
import HandS.IsInst
import HandS.Property
import HandS.Flow
import HandS.RaiseMore
import HandS.Ends
import HandS.Style
import OpenK.KMeth
import KE.KOpsOwn
import KE.KCallOwn
import HandS.ClsMeth
import HandS.Defaults
import HandS.FStr
import OpenK.KOps
import HandS.Star
import HandS.Iter
import PySem.Challenge.RW_carpets_k03_nets_of_shifts
set_option Elab.async false
set_option linter.all false
set_option maxRecDepth 100000
set_option maxHeartbeats 2000000
/-! MVA: calls that know that no repr is under way (A.guards), and rules of calls over them. -/
namespace MV
open PySem PySem.Spec PyProof.Rows L2

/-- as FnOk, asked only where no repr is under way -/
structure FnG (P : Program) (w : World) (K : PySem.W.Frag) (mg : Str → Option Value) (base : Heap) (CX : CXT)
    (k : Nat) (f : Addr) (fd : FuncData) (ps : List Str) (sp : Sp) : Prop where
  ln : ∀ vs H Q E, sp vs H Q E → vs.length = ps.length
  go : ∀ (A : Around) (outer : List Env) (s : Shared) (H : Hp) (args : Args) (us : List Value) (vs : List V) (Q : VK) (E : XK),
    Room k A → A.guards = some [] → Env0 P w K mg base A outer s H → BindsTo s fd args (ps.zip us) → Vals vs us →
    sp vs H Q E → codeAny (model P w) A (.call (.ref f) args) (CR CX outer P w H s Q E) s

section
variable {P : Program} {w : World} {K : PySem.W.Frag} {mg : Str → Option Value} {base : Heap} {CX : CXT}
  {k j : Nat} {f : Addr} {fd : FuncData} {ps : List Str} {sp sp' : Sp}

theorem FnG.ofOk (F : FnOk P w K mg base CX k f fd ps sp) : FnG P w K mg base CX k f fd ps sp where
  ln := F.len
  go A outer s H args us vs Q E r _ e b v q := F.run A outer s H args us vs Q E r e b v q

theorem FnG.up (F : FnG P w K mg base CX j f fd ps sp) (h : j ≤ k) : FnG P w K mg base CX k f fd ps sp where
  ln := F.ln
  go A outer s H args us vs Q E r g e b v q := F.go A outer s H args us vs Q E (r.mono h) g e b v q

/-- the rule of a def, the context of its body knowing that no repr is under way -/
theorem fng_of {name qual : Str} {params : Arguments} {body : List Stmt} {scope : Scope} {dV kV doc pm cdv ct oc : Value}
    {an od : Option Addr} {osl : Array (Option Value)} {N : List Str}
    (lk : K.lookup f = some ⟨oc, od, .func (PySem.W.fnOf name qual params body scope dV kV doc pm an cdv ct), osl⟩)
    (hcd : PySem.W.codeIn K cdv qual = true) (S : FnScope N ps scope)
    (ln : ∀ vs H Q E, sp vs H Q E → vs.length = ps.length)
    (hbody : ∀ (A : Around) (outer : List Env) (s : Shared) (H : Hp) (vs : List V) (Q : VK) (E : XK),
      Room k (A.deeper (envOfC qual scope s.heap.objs.size f cdv)) →
      (A.deeper (envOfC qual scope s.heap.objs.size f cdv)).guards = some [] → sp vs H Q E →
      ∃ t, PSs (cxOf CX P w K mg base N qual scope f cdv A outer s H E) body t ∧
        t { nx := fun _ H' => Q .non H', rt := Q } (start N vs) H) :
    FnG P w K mg base CX (k + 1) f (PySem.W.fnOf name qual params body scope dV kV doc pm an cdv ct) ps sp where
  ln := ln
  go A outer s H args us vs Q E hr hg e0 hb r hsp := by
    have keep := fun b o e => (e0.bs b o e).1
    have KX : K.In s.heap := e0.mod.kin.keeps keep
    have kinds : ∀ y ∈ ps.zip us, scope.names.lookup y.1 = some .local ∨ (scope.names.lookup y.1 = some .cell ∧
        ((cellsFrom (s.heap.objs.size + 1) scope.names []).lookup y.1).isSome = true) := by
      rintro ⟨n, v⟩ hy
      cases S.par n (List.of_mem_zip hy).1 with
      | inl q => exact .inl q
      | inr q => exact .inr ⟨q, PySem.W.cellsFrom_some _ _ _ (.inl q)⟩
    apply codeAny_call_function hr.depth (KX _ _ lk) rfl S.co S.gen rfl (PySem.W.codeRec_of KX hcd)
    refine hb _ _ _ _ (wpAny_newFunctionEnv_cells S.kind kinds ?_)
    rintro env rfl s1 x
    refine ⟨(e0.mod.nolimit.keeps keep).keeps x.toInCall.keep, codeAny_func ?_⟩
    obtain ⟨t, ht, q⟩ := hbody A outer s H vs Q E (hr.deeper _) hg hsp
    have I := inv_start (CX := CX) (E := E) S hr.hd e0 (ln _ _ _ _ hsp) r x
    apply wpAny_mono (ht.run [] s1 _ H _ I q)
    · intro fl s' hs
      cases fl with
      | brk => exact (let ⟨_, _, _, z⟩ := hs; False.elim z)
      | cont => exact (let ⟨_, _, _, z⟩ := hs; False.elim z)
      | ret u => exact (let ⟨v, _, H', J, rv, z⟩ := hs; ⟨v, H', J.os, J.bare, J.base, J.hok, rv, z⟩)
      | next => exact (let ⟨_, H', J, z⟩ := hs; ⟨V.non, H', J.os, J.bare, J.base, J.hok, rfl, z⟩)
    · exact fun _ _ hs => hs

/-- the rule of a def of the text; what it raises lies as CX says -/
theorem Fun.g {x qual : Str} {st : Stmt} {N : List Str} (F : Fun K x qual st f fd) (S : FnScope N ps (defScope st))
    (ln : ∀ vs H Q E, sp vs H Q E → vs.length = ps.length)
    (hb : ∀ (cdv : Value) (A : Around) (outer : List Env) (s : Shared) (H : Hp) (vs : List V) (Q : VK) (E : XK),
      Room k (A.deeper (envOfC qual (defScope st) s.heap.objs.size f cdv)) →
      (A.deeper (envOfC qual (defScope st) s.heap.objs.size f cdv)).guards = some [] → sp vs H Q E →
      ∃ t, PSs (cxOf CX P w K mg base N qual (defScope st) f cdv A outer s H E) (defBody st) t ∧
        t { nx := fun _ H' => Q .non H', rt := Q } (start N vs) H) :
    FnG P w K mg base CX (k + 1) f fd ps sp := by
  obtain ⟨oc, od, kV, doc, pm, an, cdv, ct, osl, rfl, lk, hcd⟩ := F.ex
  exact fng_of lk hcd S ln fun A outer s H vs Q E hr hg h => hb cdv A outer s H vs Q E hr hg h

/-- as Fun.g, for a def of which nothing comes out but values: with loops -/
theorem Fun.gn {x qual : Str} {st : Stmt} {N : List Str} (F : Fun K x qual st f fd) (S : FnScope N ps (defScope st))
    (ln : ∀ vs H Q E, sp vs H Q E → vs.length = ps.length)
    (hb : ∀ (cdv : Value) (A : Around) (outer : List Env) (s : Shared) (H : Hp) (vs : List V) (Q : VK) (E : XK),
      Room k (A.deeper (envOfC qual (defScope st) s.heap.objs.size f cdv)) →
      (A.deeper (envOfC qual (defScope st) s.heap.objs.size f cdv)).guards = some [] → sp vs H Q E →
      ∃ t, PSs (cxOf CX P w K mg base N qual (defScope st) f cdv A outer s H E).nox (defBody st) t ∧
        t { nx := fun _ H' => Q .non H', rt := Q } (start N vs) H) :
    FnG P w K mg base CX (k + 1) f fd ps sp :=
  Fun.g F S ln fun cdv A outer s H vs Q E hr hg h => (let ⟨t, p, q⟩ := hb cdv A outer s H vs Q E hr hg h; ⟨t, p.nox, q⟩)
end

/-! ### the call of such a def, by values and in the text -/
section
variable {X : Cx} {CX : CXT} {k : Nat} {f C : Addr} {fd : FuncData} {ps : List Str} {sp : Sp} {dvs : List V} {ds : List Value}
  {E : XK} {x m : Str} {p pos apos : Pos} {e o : Expr} {es : List Expr} {ta : TE} {t : TA}

/-- what a caller reads off a callee's end -/
def Back (X : Cx) (pins : List (Addr × Obj)) (σ : L2.St) (Q : VK) : Result → Shared → Prop
  | .ok (.ret u), s' => EP X pins σ Q u s'
  | .ok _, _ => False
  | .error z, s' => X.xe z s'
theorem ended {pins : List (Addr × Obj)} {σ : L2.St} {H : Hp} {s s' : Shared} {Q : VK} {r : Result} (hx : Passes CX X E)
    (I : Inv X pins σ H s) (h : CR CX X.stack X.prog X.w H s Q E r s') :
    Back X pins σ Q r s' := by
  match r, h with
  | .ok (.ret u), h => exact I.after h
  | .ok .next, h => exact h
  | .ok .brk, h => exact h
  | .ok .cont, h => exact h
  | .error z, h => exact hx pins σ H s z s' I h

theorem runG {A : Around} {pins : List (Addr × Obj)} {σ : L2.St} {H : Hp} {s : Shared} {Q : VK} {us : List Value} {vs : List V}
    (F : FnG X.prog X.w X.K X.mg X.base CX k f fd ps sp) (hr : Room k A) (hg : A.guards = some [])
    (e0 : Env0 X.prog X.w X.K X.mg X.base A X.stack s H) (hb : Binds X.K fd ps ds) (hd : Vals dvs ds) (hx : Passes CX X E)
    (I : Inv X pins σ H s) (r : Vals vs us) (h : sp (vs ++ dvs) H Q E) :
    codeAny (model X.prog X.w) A (.call (.ref f) ⟨us, []⟩) (Back X pins σ Q) s := by
  have r2 := r.append hd
  have hl : (us ++ ds).length = ps.length := r2.length.symm.trans (F.ln _ _ _ _ h)
  exact codeAny_mono (F.go A X.stack s H ⟨us, []⟩ (us ++ ds) (vs ++ dvs) Q E hr hg e0 (hb s us I.kIn hl) r2 h)
    fun r s' hq => ended hx I hq

/-- a call by values -/
theorem callG {pins : List (Addr × Obj)} {σ : L2.St} {H : Hp} {s : Shared} {Q : VK} {us : List Value} {vs : List V}
    (F : FnG X.prog X.w X.K X.mg X.base CX k f fd ps sp) (hr : Room k X.A) (hg : X.A.guards = some [])
    (hb : Binds X.K fd ps ds) (hd : Vals dvs ds) (hx : Passes CX X E)
    (I : Inv X pins σ H s) (r : Vals vs us) (h : sp (vs ++ dvs) H Q E) :
    wpAny (model X.prog X.w) X.A (call (.ref f) us) (EP X pins σ Q) X.xe s := by
  refine wpAny_call (codeAny_mono (runG F hr hg I.env0 hb hd hx I r h) fun z s' q => ?_)
  match z, q with
  | .ok (.ret _), q => exact q
  | .error _, q => exact q

theorem peg_call (F : FnG X.prog X.w X.K X.mg X.base CX k f fd ps sp) (hr : Room k X.A) (hg : X.A.guards = some [])
    (hn : Gl X x) (hm : X.mg x = some (.ref f)) (hk : PySem.W.keepIn X.K (.ref f) = true) (hb : Binds X.K fd ps ds)
    (hd : Vals dvs ds) (hx : Passes CX X E) (ha : PA X (e :: es) t)
    (hdb : (x == ("__debug__" : Str)) = false := by decide)
    (he : starEach (e :: es) X.env = (false, eval e X.env) :: starEach es X.env := by rfl)
    (hpl : (backTo pos (starEach es X.env)).any (·.1) = false := by rfl) :
    PE X (.Call (.Name x p) (e :: es) [] pos) (tCall sp dvs E t) := by
  constructor
  intro pins s σ H Q I h
  apply wpAny_Call_Name_kw
  refine ld_glob I hn hm (PySem.W.callWith_K (h₀ := X.base) I.ok.mod.kin hk ?_ he hpl) hdb
  exact thn (ha.run pos pins s σ H _ I h) fun us s1 ⟨vs, H1, I1, r, q⟩ => ⟨I1.kIn, callG F hr hg hb hd hx I1 r q⟩

theorem peg_call0 (F : FnG X.prog X.w X.K X.mg X.base CX k f fd ps sp) (hr : Room k X.A) (hg : X.A.guards = some [])
    (hn : Gl X x) (hm : X.mg x = some (.ref f)) (hk : PySem.W.keepIn X.K (.ref f) = true) (hb : Binds X.K fd ps ds)
    (hd : Vals dvs ds) (hx : Passes CX X E) (hdb : (x == ("__debug__" : Str)) = false := by decide) :
    PE X (.Call (.Name x p) [] [] pos) (tCall sp dvs E tNil) := by
  constructor
  intro pins s σ H Q I h
  apply wpAny_Call_Name_kw
  exact ld_glob I hn hm (PySem.W.callWith_K0 I.kIn hk (callG (us := []) F hr hg hb hd hx I .nil h)) hdb

/-- o.m(..) -/
theorem peg_meth {pl : Sem Bool} (he : PE X o ta) (c : Cls X.K C) (hm : Meth X.K C m f)
    (F : FnG X.prog X.w X.K X.mg X.base CX k f fd ps sp) (hr : Room k X.A) (hg : X.A.guards = some [])
    (hb : Binds X.K fd ps ds) (hd : Vals dvs ds) (hx : Passes CX X E) (ha : PA X (e :: es) t)
    (hst : starEach (e :: es) X.env = (false, eval e X.env) :: starEach es X.env := by rfl)
    (hpl : (backTo pos (starEach es X.env)).any (·.1) = false := by rfl)
    (ht : eval (.Call (.Attribute o m apos) (e :: es) [] pos) X.env = (do
      let ov ← eval o X.env
      standAt apos.atName
      let (g, first) ← holding [ov] (getMethod ov m pl)
      callWith pos g first (backTo pos (starEach (e :: es) X.env)) (backToKw pos (keywordEach [] X.env))) := by rfl) :
    PE X (.Call (.Attribute o m apos) (e :: es) [] pos) (tMeth C m sp dvs E ta t) := by
  constructor
  intro pins s σ H Q I h
  refine PySem.W.methodCall_KW (pl := pl) (thn (he.run pins s σ H _ I h) ?_) ht
  rintro u s1 ⟨_, H1, I1, rx, a, dx, fs, rfl, ea, l, q⟩
  cases rx
  refine getmeth_ok I1 ea c hm l (PySem.W.callWith_K (first := [.ref a]) (h₀ := X.base) I.ok.mod.kin hm.kp ?_ hst hpl)
  refine thn (ha.run pos pins s1 σ H1 _ I1 q) fun us s2 ⟨vs, H2, I2, r, q2⟩ => ⟨I2.kIn, ?_⟩
  exact callG (us := .ref a :: us) (vs := .ref a :: vs) F hr hg hb hd hx I2 (.cons rfl r) q2

theorem peg_meth0 {pl : Sem Bool} (he : PE X o ta) (c : Cls X.K C) (hm : Meth X.K C m f)
    (F : FnG X.prog X.w X.K X.mg X.base CX k f fd ps sp) (hr : Room k X.A) (hg : X.A.guards = some [])
    (hb : Binds X.K fd ps ds) (hd : Vals dvs ds) (hx : Passes CX X E)
    (ht : eval (.Call (.Attribute o m apos) [] [] pos) X.env = (do
      let ov ← eval o X.env
      standAt apos.atName
      let (g, first) ← holding [ov] (getMethod ov m pl)
      callWith pos g first (backTo pos (starEach [] X.env)) (backToKw pos (keywordEach [] X.env))) := by rfl) :
    PE X (.Call (.Attribute o m apos) [] [] pos) (tMeth C m sp dvs E ta tNil) := by
  constructor
  intro pins s σ H Q I h
  refine PySem.W.methodCall_KW (pl := pl) (thn (he.run pins s σ H _ I h) ?_) ht
  rintro u s1 ⟨_, H1, I1, rx, a, dx, fs, rfl, ea, l, q⟩
  cases rx
  refine getmeth_ok I1 ea c hm l (PySem.W.callWith_K0 (first := [.ref a]) I1.kIn hm.kp ?_)
  exact callG (us := [.ref a]) (vs := [.ref a]) F hr hg hb hd hx I1 (.cons rfl .nil) q

theorem guards_make {A : Around} (h : A.guards = some []) (C : Addr) (us : List Value) (kw : List (Str × Value)) :
    (A.under (.builtin "type.__call__" ⟨.ref C :: us, kw⟩)).guards = some [] := by
  have z : ∀ c : Code, c.isGuard = false → (A.under c).guards = A.guards := fun c hc => by
    simp [Around.under, Code.guards, hc, pushGuards]
  rw [z _ rfl, h]

/-- C(..), by values -/
theorem makeG {pins : List (Addr × Obj)} {σ : L2.St} {H : Hp} {s : Shared} {Q : VK} {us : List Value} {vs : List V} (M : Mk X.K C f)
    (F : FnG X.prog X.w X.K X.mg X.base CX k f fd ps sp) (hr : Room (k + 1) X.A) (hg : X.A.guards = some [])
    (hb : Binds X.K fd ps ds) (hd : Vals dvs ds) (hx : Passes CX X E) (I : Inv X pins σ H s) (r : Vals vs us)
    (h : ∀ x dx, H x = none → H dx = none → dx ≠ x → sp (.ref x :: (vs ++ dvs)) (upd (upd H dx (.own x)) x (.ins C dx []))
      (fun v H2 => v = .non ∧ Q (.ref x) H2) E) :
    wpAny (model X.prog X.w) X.A (call (.ref C) us) (EP X pins σ Q) X.xe s := by
  have n := s.heap.objs.size
  have free : ∀ i, s.heap.objs.size ≤ i → H i = none := fun i hi => I.hok.fresh hi
  have q := h (s.heap.objs.size + 1) s.heap.objs.size (free _ (by omega)) (free _ (by omega)) (by
    show s.heap.objs.size ≠ s.heap.objs.size + 1
    exact Nat.ne_of_lt (Nat.lt_succ_self _))
  have J := Inv.made (C := C) I
  have w2 := runG (us := Value.ref (s.heap.objs.size + 1) :: us) (vs := V.ref (s.heap.objs.size + 1) :: vs) F (hr.make C us [])
    (guards_make hg C us []) (J.env0.make C us []) hb hd hx J (.cons rfl r) q
  refine wpAny_call (make_map (f := f) I.kIn M.makes M.init (beq_iff_eq.mp M.fn) (codeAny_mono w2 ?_))
  rintro (z | (_ | _ | _ | u)) s' hq
  · exact hq
  · exact hq.elim
  · exact hq.elim
  · exact hq.elim
  · obtain ⟨v, H', I3, rv, rfl, q3⟩ := hq
    exact ⟨rv, V.ref (s.heap.objs.size + 1), H', I3, rfl, q3⟩

theorem peg_make (M : Mk X.K C f) (F : FnG X.prog X.w X.K X.mg X.base CX k f fd ps sp) (hr : Room (k + 1) X.A)
    (hg : X.A.guards = some []) (hn : Gl X x) (hm : X.mg x = some (.ref C)) (hb : Binds X.K fd ps ds) (hd : Vals dvs ds)
    (hx : Passes CX X E) (ha : PA X (e :: es) t) (hdb : (x == ("__debug__" : Str)) = false := by decide)
    (he : starEach (e :: es) X.env = (false, eval e X.env) :: starEach es X.env := by rfl)
    (hpl : (backTo pos (starEach es X.env)).any (·.1) = false := by rfl) :
    PE X (.Call (.Name x p) (e :: es) [] pos) (tMake C sp dvs E t) := by
  constructor
  intro pins s σ H Q I h
  apply wpAny_Call_Name_kw
  refine ld_glob I hn hm (PySem.W.callWith_K (h₀ := X.base) I.ok.mod.kin M.kp ?_ he hpl) hdb
  exact thn (ha.run pos pins s σ H _ I h) fun us s1 ⟨vs, H1, I1, r, q⟩ => ⟨I1.kIn, makeG M F hr hg hb hd hx I1 r q⟩
end
end MV

set_option Elab.async false
set_option linter.all false
set_option maxRecDepth 100000
set_option maxHeartbeats 2000000
/-! MVB: the end of a law over FnG; repr of data; own in, ==, !=. -/
namespace MV
open PySem PySem.Spec PyProof.Rows L2

/-! ### the end -/
/-- the abstract heap at the law's entry: the script and nothing else -/
def scriptHp (a : Addr) (o : Obj) (xs : List V) : Hp := fun b => if b = a then some (.frz o (.lst xs)) else none
theorem scriptHp_at {a b : Addr} {o : Obj} {xs : List V} {u : HO} (h : scriptHp a o xs b = some u) : b = a ∧ u = .frz o (.lst xs) := by
  unfold scriptHp at h
  split at h
  · exact ⟨by assumption, (Option.some.inj h).symm⟩
  · cases h
theorem scriptHp_none {a b : Addr} {o : Obj} {xs : List V} (h : b ≠ a) : scriptHp a o xs b = none := if_neg h

/-- what the law's run needs of an abstract heap in which at most the script is tracked -/
theorem law_core {P : Program} {w : World} {K : PySem.W.Frag} {mg mb : Str → Option Value} {k : Nat} {fa a : Addr} {fd : FuncData}
    {x : Str} {sp : Sp} {s₁ : Shared} {H : Hp} {CX : CXT}
    (KX : K.In s₁.heap) (hns : s₁.heap.Ns mainGlobals mg) (hb : s₁.heap.Ns builtinsNs mb) (hbb : ∀ x : Str, x ≠ "__name__" → mb x = bootBuiltins x)
    (hlim : s₁.heap.NoLimit) (hg : s₁.gens = #[]) (hr : Room k callerA)
    (F : ∀ base : Heap, K.In base → base.Ns mainGlobals mg → FnG P w K mg base CX k fa fd [x] sp)
    (hbind : ∀ (s : Shared) (u : Value), BindsTo s fd ⟨[u], []⟩ [(x, u)])
    (hsp : sp [.ref a] H (fun v _ => v = .bl true) fun _ _ _ => False)
    (hCX : ∀ e s', CX [] H s₁ (fun _ _ _ => False) e s' → False)
    (ok : HOk P w H s₁.heap) (only : ∀ b u, H b = some u → K.lookup b = none ∧ ∃ o xs, u = .frz o (.lst xs)) :
    codeAny (model P w) callerA (.call (.ref fa) ⟨[.ref a], []⟩)
      (fun r s' => r = .ok (.ret (.bool true)) ∧ OldK s₁.heap s'.heap ∧ s'.os = s₁.os ∧ AllBare s'.gens) s₁ := by
  have dictFree : ∀ {b : Addr} {o : Obj} {es : Array DictEntry} {ep : Nat}, s₁.heap.get? b = some o → o.data = .dict es ep → H b = none := by
    intro b o es ep e d
    match q : H b with
    | none => rfl
    | some u =>
      obtain ⟨_, ob, xs, rfl⟩ := only b u q
      obtain ⟨e2, _, its, n, _, e3⟩ := ok b _ q
      rw [e2] at e3
      cases e3
      rw [e2] at e
      cases e
      cases d
  have ns : ∀ {b : Addr} {m : Str → Option Value}, s₁.heap.Ns b m → (hidT s₁.heap H).Ns b m := by
    rintro b m ⟨o, es, ep, e, d, r⟩
    exact ⟨o, es, ep, hidT_get e (dictFree e d), d, r⟩
  have kin : K.In (hidT s₁.heap H) := by
    intro b o e
    refine hidT_get (KX b o e) ?_
    match q : H b with
    | none => rfl
    | some u => exact absurd e (by rw [(only b u q).1]; simp)
  obtain ⟨ml, l1, l2⟩ := hlim
  have e0 : Env0 P w K mg (hidT s₁.heap H) callerA [] s₁ H :=
    { frames := rfl
      mod := ⟨kin, ns hns, ⟨mb, ns hb, hbb⟩, ⟨ml, ns l1, l2⟩⟩
      bs := fun b o e => of_hidT e
      bsz := Nat.le_of_eq (hidT_size _ _)
      funs := trivial
      frf := fun b z => absurd z List.not_mem_nil
      hok := ok
      bare := .of_eq hg }
  refine codeAny_mono ((F _ kin (ns hns)).go callerA [] s₁ H _ [.ref a] [.ref a] _ _ hr rfl e0 (hbind s₁ (.ref a)) (.cons rfl .nil) hsp) ?_
  intro r s' h
  match r, h with
  | .error e, h => exact (hCX e s' h).elim
  | .ok (.ret u), h =>
    obtain ⟨v, H', os, bare, un, hok', rv, q⟩ := h
    have e1 : v = .bl true := q
    subst e1
    have e2 : u = Value.bool true := rv
    subst e2
    refine ⟨rfl, OldK.of_keep ?_, os, bare⟩
    intro b o e
    match q : H b with
    | none => exact un.keep b o e q List.not_mem_nil List.not_mem_nil
    | some z =>
      obtain ⟨_, ob, xs, rfl⟩ := only b z q
      have e3 := (ok b _ q).1
      rw [e] at e3
      cases e3
      exact (hok' b _ (un.frzs b o _ q)).1

theorem law_callG {P : Program} {w : World} {K : PySem.W.Frag} {mg mb : Str → Option Value} {k : Nat} {fa a : Addr} {fd : FuncData}
    {x : Str} {sp : Sp} {s₁ : Shared} {vs : List Value} {ns : List Int} {CX : CXT}
    (KX : K.In s₁.heap) (hns : s₁.heap.Ns mainGlobals mg) (hb : s₁.heap.Ns builtinsNs mb) (hbb : ∀ x : Str, x ≠ "__name__" → mb x = bootBuiltins x)
    (hlim : s₁.heap.NoLimit) (hg : s₁.gens = #[])
    (ha : s₁.heap.get? a = some { cls := .type "list", data := .seq vs.toArray }) (hi : IntsAre vs ns) (hl : ns.length ≤ sizeLine) (hr : Room k callerA)
    (F : ∀ base : Heap, K.In base → base.Ns mainGlobals mg → FnG P w K mg base CX k fa fd [x] sp)
    (hbind : ∀ (s : Shared) (u : Value), BindsTo s fd ⟨[u], []⟩ [(x, u)])
    (hsp : ∀ H : Hp, SqL K H a (ns.map V.int) → sp [.ref a] H (fun v _ => v = .bl true) fun _ _ _ => False)
    (hCX : ∀ H e s', CX [] H s₁ (fun _ _ _ => False) e s' → False) :
    codeAny (model P w) callerA (.call (.ref fa) ⟨[.ref a], []⟩)
      (fun r s' => r = .ok (.ret (.bool true)) ∧ OldK s₁.heap s'.heap ∧ s'.os = s₁.os ∧ AllBare s'.gens) s₁ := by
  have rv := vals_ints hi
  have n1 := hi.length
  match hk : K.lookup a with
  | some o =>
    have e := (KX a o hk).symm.trans ha
    cases e
    refine law_core (H := fun _ => none) KX hns hb hbb hlim hg hr F hbind (hsp _ (.inr ⟨_, vs.toArray, _, hk, rfl, rfl, rfl, ?_, by simpa using rv⟩)) (hCX _) (fun b u z => nomatch z) (fun b u z => nomatch z)
    rw [List.size_toArray]
    omega
  | none =>
    have hS : SqL K (scriptHp a { cls := .type "list", data := .seq vs.toArray } (ns.map V.int)) a (ns.map V.int) := .inl (.inr ⟨_, if_pos rfl⟩)
    refine law_core (H := scriptHp a { cls := .type "list", data := .seq vs.toArray } (ns.map V.int)) KX hns hb hbb hlim hg hr F hbind (hsp _ hS) (hCX _) (fun b u z => ?_) (fun b u z => ?_)
    · obtain ⟨rfl, rfl⟩ := scriptHp_at z
      exact ⟨ha, by rw [List.length_map]; exact hl, vs, _, rv, ha⟩
    · obtain ⟨rfl, rfl⟩ := scriptHp_at z
      exact ⟨hk, _, _, rfl⟩

/-- the law's row from the promise of its def -/
theorem walkG {l : PySem.W.OpenLaw} {n k : Nat} {q : Program} {loose : List Str} {XP : (Str → Option Value) → Heap → Prop} {YP : World → Heap → Prop}
    {d : DefRec} {K : Params → PySem.W.Frag} {CX : CXT} {sp : PySem.W.Frag → Sp} {x : Str}
    (hn : l.most = some n) (hn2 : n ≤ sizeLine) (hdf : d.params.defaults = []) (hr : Room k callerA)
    (hY : ∀ (w : World) (h : Heap), YP w h → (K w.params).In h)
    (F : ∀ (w : World) (mg : Str → Option Value) (fa : Addr) (h : Heap), (K w.params).In h → h.Ns mainGlobals mg → mg d.name = some (.ref fa) →
      ∃ fd : FuncData, (∀ (s : Shared) (u : Value), BindsTo s fd ⟨[u], []⟩ [(x, u)]) ∧
        ∀ base : Heap, (K w.params).In base → base.Ns mainGlobals mg → FnG l.prog w (K w.params) mg base CX k fa fd [x] (sp (K w.params)))
    (hsp : ∀ (K : PySem.W.Frag) (H : Hp) (a : Addr) (ns : List Int), ns.length ≤ n → SqL K H a (ns.map V.int) → sp K [.ref a] H (fun v _ => v = .bl true) fun _ _ _ => False)
    (hCX : ∀ (H : Hp) (s : Shared) (e : Value) (s' : Shared), CX [] H s (fun _ _ _ => False) e s' → False) :
    PySem.W.WalkO q loose XP YP l.row.toRowW d [] (fun f vs => PySem.call f vs) := by
  refine Att.attach_call hn hdf ?_
  intro w s₀ s₁ mg mb fa o pm cd doc a vs ns G Y ho hd hcd hmg hobj hints hlen hg
  obtain ⟨fd, hb, hF⟩ := F w mg fa _ (hY w _ Y) G.T.g hmg
  exact law_callG (hY w _ Y) G.T.g G.T.b G.T.builtins G.T.nolimit hg hobj hints (Nat.le_trans hlen hn2) hr hF hb
    (fun H hS => hsp _ H a ns hlen hS) fun H e s' => hCX H s₁ e s'

/-! ### properties, own in, own ==, own != -/
section
variable {X : Cx} {CX : CXT} {k : Nat} {f C p : Addr} {fd : FuncData} {ps : List Str} {sp : Sp} {dvs : List V} {ds : List Value}
  {E : XK} {x m : Str} {pos : Pos} {e : Expr} {ta : TE} {n : Str}
/-- e.n, a property -/
theorem peg_prop (he : PE X e ta) (c : Cls X.K C) (hp : PropOf X.K C n p f)
    (F : FnG X.prog X.w X.K X.mg X.base CX k f fd ps sp) (hr : Room (k + 1) X.A) (hg : X.A.guards = some [])
    (hb : Binds X.K fd ps ds) (hd : Vals dvs ds) (hx : Passes CX X.nox E)
    (hab : attributeBase e n X.env (eval e X.env) = eval e X.env := by rfl) :
    PE X (.Attribute e n pos) (tProp C sp dvs E ta) := by
  constructor
  intro pins s σ H Q I h
  refine attr_of hab (thn (he.run pins s σ H _ I h) ?_)
  rintro u s1 ⟨_, H1, I1, rx, a, dx, fs, rfl, ea, q⟩
  cases rx
  obtain ⟨mA, O, _⟩ := ins_get I1.hok ea
  obtain ⟨od, J, _⟩ := O.look
  obtain ⟨rest, hrec⟩ := hp.rec_
  have g := PySem.W.plainGet_of (c.get n)
  have hc : (PySem.W.clsIn X.K C).isSome = true := by
    obtain ⟨cd, hc, _⟩ := PySem.W.any_some c.hd
    rw [hc]
    rfl
  have I2 := I1.tok (s1.toks + 1)
  refine PySem.W.get_bind I1.kIn J g.1 (PySem.W.findObj_data hc hp.at_ hp.get hp.tak) g.2
    (wpAny_call (PySem.W.prop_get (s := { s1 with toks := s1.toks + 1 }) I1.kIn hrec ?_))
  refine codeAny_mono (runG (X := X.nox) (us := [.ref a]) (vs := [.ref a]) F hr.in1 hg I2.env0.in1 hb hd hx (I2.wish _) (.cons rfl .nil) q) fun r s' hq => ?_
  match r, hq with
  | .error _, hq => exact False.elim hq
  | .ok (.ret u), ⟨v, H', I3, rv, q3⟩ =>
    show wpAny _ _ (handedOut u) _ _ _
    rw [PySem.W.handedOut_of (handed_of rv)]
    exact wpAny_pure ⟨v, H', I3.wish _, rv, q3⟩

/-- y in x, x an instance whose class has a def __contains__ -/
def rHas (C : Addr) (sp : Sp) (E : XK) (neg : Bool) : R2 := fun y x H Q => ∃ a dx fs, x = .ref a ∧ H a = some (.ins C dx fs) ∧
  sp [x, y] H (fun z H' => ∃ b, z = .bl b ∧ Q (.bl (if neg then !b else b)) H') E
structure HasC (K : PySem.W.Frag) (C f : Addr) : Prop where
  at_ : PySem.W.findIn K (.ref C) "__contains__" = some (some (.ref f))
  fn : PySem.W.isFn K (.ref f) = true
theorem opg_in (h : HasC X.K C f) (F : FnG X.prog X.w X.K X.mg X.base CX k f fd ps sp) (hr : Room k X.A) (hg : X.A.guards = some [])
    (hb : Binds X.K fd ps []) (hx : Passes CX X E) : OpR X (compareOp .In) (rHas C sp E false) := by
  intro pins s σ H y x v u Q I ry rx q
  obtain ⟨a, dx, fs, rfl, ea, q⟩ := q
  cases rx
  obtain ⟨mA, O, _⟩ := ins_get I.hok ea
  obtain ⟨od, J, _⟩ := O.look
  obtain ⟨m, hF⟩ := I.fr
  refine PySem.W.in_K hF I.ok.mod.kin J h.at_ h.fn (thn (callG (us := [.ref a, v]) (vs := [.ref a, y]) F hr hg hb .nil hx I (.cons rfl (.cons ry .nil)) q) ?_)
  rintro _ s' ⟨_, H', I', rv, b, rfl, q'⟩
  cases rv
  exact wpAny_truthy_bool ⟨V.bl _, H', I', rfl, q'⟩
theorem opg_notIn (h : HasC X.K C f) (F : FnG X.prog X.w X.K X.mg X.base CX k f fd ps sp) (hr : Room k X.A) (hg : X.A.guards = some [])
    (hb : Binds X.K fd ps []) (hx : Passes CX X E) : OpR X (compareOp .NotIn) (rHas C sp E true) := by
  intro pins s σ H y x v u Q I ry rx q
  obtain ⟨a, dx, fs, rfl, ea, q⟩ := q
  cases rx
  obtain ⟨mA, O, _⟩ := ins_get I.hok ea
  obtain ⟨od, J, _⟩ := O.look
  obtain ⟨m, hF⟩ := I.fr
  refine PySem.W.notIn_K hF I.ok.mod.kin J h.at_ h.fn (thn (callG (us := [.ref a, v]) (vs := [.ref a, y]) F hr hg hb .nil hx I (.cons rfl (.cons ry .nil)) q) ?_)
  rintro _ s' ⟨_, H', I', rv, b, rfl, q'⟩
  cases rv
  exact wpAny_truthy_bool ⟨V.bl _, H', I', rfl, q'⟩
end
end MV

set_option Elab.async false
set_option linter.all false
set_option maxRecDepth 100000
set_option maxHeartbeats 2000000
/-! MVC: == and != by an own __eq__. -/
namespace MV
open PySem PySem.Spec PyProof.Rows L2
open PySem.W (InstAt looks_findIn looks_subIn findIn subIn isFn ifBound_K notFirst)

section
variable {prog : Program} {w : World} {A : Around} {E : Value → Shared → Prop} {s : Shared} {K : PySem.W.Frag} {x C f : Addr} {ox : Obj} {od : Option Obj} {name : Str} {b tb : Value} {id : String}

/-- a special name that the class has from a built-in, called -/
theorem ifBoundB {M : Model} {args : List Value} {Q : Option Value → Shared → Prop} (X : K.In s.heap) (I : InstAt s.heap x ox C od)
    (hs : findIn K (.ref C) name = some (some (.builtin id))) (hb : ∀ self, bindSpecial (.builtin id) self = pure (.builtin id, [self]))
    (h : wpAny M A (call (.builtin id) (.ref x :: args)) (fun v => Q (some v)) E s) :
    wpAny M A (callSpecialIfBound? (.ref x) name args) Q E s := by
  simp only [callSpecialIfBound?, bindSpecialIfBound?]
  apply wpAny_holding
  apply wpAny_bind
  apply wpAny_bind
  apply wpAny_bind
  refine I.type.here ((looks_findIn X hs).here ?_)
  simp only [hb]
  have fin : wpAny M A (call (.builtin id) ([.ref x] ++ args) >>= fun v => pure (some v)) Q E s :=
    wpAny_bind (thn h fun v s' z => wpAny_pure z)
  refine wpAny_bind (wpAny_askSetting (wpAny_ite ?_))
  split
  · exact wpAny_bind (wpAny_pure (wpAny_pure fin))
  · exact wpAny_tryCatch (wpAny_bind (wpAny_pure (wpAny_pure fin)))

/-- a built-in slot's own check of its first argument, an instance -/
theorem checkSlot {M : Model} {owner n : String} {rest : List Value} {Q : Unit → Shared → Prop} (hk : builtinKind id = some .slot)
    (hs : splitId id = some (owner, n)) (ha : argsOk id ⟨.ref x :: rest, []⟩) (X : K.In s.heap) (I : InstAt s.heap x ox C od)
    (hob : subIn K (.ref C) (.type owner) = some true) (hq : Q () s) :
    wpAny M A (checkBuiltinCall id ⟨.ref x :: rest, []⟩) Q E s := by
  simp only [checkBuiltinCall, hk, hs]
  apply wpAny_bind
  unfold isInstance
  refine wpAny_bind (I.type.here ((looks_subIn X hob).here ?_))
  match hsig : Manifest.signature? id with
  | none => exact wpAny_pure hq
  | some sig =>
    simp only [argsOk, hsig] at ha
    have h2 : Bind.checkArgs id sig ⟨.ref x :: rest, []⟩ = pure () := ha
    show wpAny M A (Bind.checkArgs id sig ⟨.ref x :: rest, []⟩) Q E _
    rw [h2]
    exact wpAny_pure hq

/-- what != asks of a class with an own __eq__ and no own __ne__ -/
structure EqC (K : PySem.W.Frag) (C f : Addr) : Prop where
  at_ : findIn K (.ref C) "__eq__" = some (some (.ref f))
  fn : isFn K (.ref f) = true
  ne_ : findIn K (.ref C) "__ne__" = some (some (.builtin "object.__ne__"))
  ob : subIn K (.ref C) (.type "object") = some true

theorem neEntry (X : K.In s.heap) (I : InstAt s.heap x ox C od) (c : EqC K C f) (hu : A.units < cLine) {Q : Fin → Shared → Prop}
    (hcall : wpAny (model prog w) A (call (.ref f) [.ref x, b]) (fun v s' => ∃ r, v = .bool r ∧ Q (.done (.ret (.bool (!r)))) s') E s) :
    wpAny (model prog w) A (Builtin.«object.__ne__» ⟨[.ref x, b], []⟩) Q E s := by
  unfold Builtin.«object.__ne__»
  repeat (first
    | with_reducible refine wpAny_cRoomFor hu ?_
    | (refine wpAny_bind (m := callSpecialIfBound? (.ref x) (Str.ofString "__eq__") [b])
        (ifBound_K X I c.at_ c.fn (thn hcall fun r s' hr => by
          obtain ⟨b, rfl, hq⟩ := hr
          repeat (first | exact hq | exact wpAny_pure hq | exact wpAny_truthy_bool hq | (refine wpAny_bind (m := truthy (.bool _)) (wpAny_truthy_bool ?_)) | wp_step))))
    | wp_step)

theorem neOwn (X : K.In s.heap) (I : InstAt s.heap x ox C od) (c : EqC K C f) (hb : PySem.W.Looks (model prog w) s.heap (typeOf b) tb)
    (hn : notFirst K C tb = true) (hu : A.units + 1 < cLine) {Q : Value → Shared → Prop}
    (hcall : wpAny (model prog w) A.in1 (call (.ref f) [.ref x, b]) (fun v s' => ∃ r, v = .bool r ∧ Q (.bool (!r)) s') E s) :
    wpAny (model prog w) A (richCompare .NotEq (.ref x) b) Q E s := by
  have one : wpAny (model prog w) A (tryCompare (.ref x) (cmpInfo .NotEq).2.1 b) (fun r s' => ∃ v, r = some v ∧ Q v s') E s := by
    have ent : wpAny (model prog w) A.in1 (Builtin.«object.__ne__» ⟨[.ref x, b], []⟩)
        (fun fin s' => match fin with
          | .done q => ∃ r, q = .ret (.bool r) ∧ Q (.bool r) s'
          | .again _ => False) E s :=
      neEntry X I c hu (thn hcall fun v s' ⟨r, e, q⟩ => ⟨r, e, !r, rfl, q⟩)
    unfold tryCompare
    refine wpAny_bind (ifBoundB X I c.ne_ F.cmp_object.ne.bind (wpAny_call (codeAny_call_builtin F.cmp_object.ne.plain F.cmpEntry_ne
      (checkSlot F.cmpKind_ne F.cmpSplit_ne (F.cmpArgs_ne _ _) X I c.ob ?_))))
    refine thn ent ?_
    rintro (q | _) s' h
    · obtain ⟨r, rfl, q⟩ := h
      first | exact ⟨_, rfl, q⟩ | exact wpAny_pure ⟨_, rfl, q⟩
    · exact h.elim
  unfold richCompare
  simp only [oneThing_ref]
  refine wpAny_holding (wpAny_bind (wpAny_cRoomFor (Nat.lt_of_succ_lt hu) ?_))
  refine wpAny_bind (I.type.here (wpAny_bind (hb.here ?_)))
  have tail : wpAny (model prog w) A (tryCompare (.ref x) (cmpInfo .NotEq).2.1 b >>= fun r => match r with
      | some v => pure v
      | none => (pure .none : Sem Value)) Q E s := wpAny_bind (thn one fun r s' ⟨v, e, q⟩ => by subst e; exact wpAny_pure q)
  split
  · rename_i q
    have e : subIn K tb (.ref C) = some false := by
      rcases Bool.or_eq_true_iff.mp hn with e | e
      · rw [beq_iff_eq.mp e] at q
        simp at q
      · exact beq_iff_eq.mp e
    refine wpAny_bind ((looks_subIn X e).here ?_)
    simp only [Bool.false_eq_true, if_false]
    refine wpAny_bind (thn one ?_)
    rintro _ s' ⟨v, rfl, q⟩
    exact wpAny_pure q
  · refine wpAny_bind (wpAny_pure ?_)
    simp only [Bool.false_eq_true, if_false]
    refine wpAny_bind (thn one ?_)
    rintro _ s' ⟨v, rfl, q⟩
    exact wpAny_pure q
end
end MV

set_option Elab.async false
set_option linter.all false
set_option maxRecDepth 100000
set_option maxHeartbeats 2000000
namespace MV
open PySem PySem.Spec PyProof.Rows L2
section
variable {X : Cx} {CX : CXT} {k : Nat} {f C : Addr} {fd : FuncData} {ps : List Str} {sp : Sp} {E : XK}
/-- x == y, x != y, x an instance of a class with an own __eq__ -/
def rOwnEq (K : PySem.W.Frag) (C : Addr) (sp : Sp) (E : XK) (neg : Bool) : R2 := fun x y H Q => ∃ a dx fs t, x = .ref a ∧ H a = some (.ins C dx fs) ∧
  TyX K H y t ∧ PySem.W.notFirst K C t = true ∧ sp [x, y] H (fun z H' => ∃ b, z = .bl b ∧ Q (.bl (if neg then !b else b)) H') E
theorem opg_eq (c : EqC X.K C f) (F : FnG X.prog X.w X.K X.mg X.base CX k f fd ps sp) (hr : Room k X.A) (hg : X.A.guards = some [])
    (hb : Binds X.K fd ps []) (hx : Passes CX X E) : OpR X (compareOp .Eq) (rOwnEq X.K C sp E false) := by
  intro pins s σ H x y v u Q I rx ry q
  obtain ⟨a, dx, fs, t, rfl, ea, ty, nf, q⟩ := q
  cases rx
  obtain ⟨mA, O, _⟩ := ins_get I.hok ea
  obtain ⟨od, J, _⟩ := O.look
  obtain ⟨m, hF⟩ := I.fr
  obtain ⟨P, kx, hP, _⟩ := kit_of I ry ty
  show wpAny _ _ (richCompare .Eq _ _) _ _ _
  refine PySem.W.cmp_K (op := .Eq) hr.units0 hF I.ok.mod.kin J (kx.ty _ _ I.kIn hP) nf c.at_ c.fn ?_
  refine thn (callG (us := [.ref a, u]) (vs := [.ref a, y]) F hr hg hb .nil hx I (.cons rfl (.cons ry .nil)) q) ?_
  rintro _ s' ⟨_, H', I', rv, b, rfl, q'⟩
  cases rv
  exact ⟨V.bl _, H', I', rfl, q'⟩
theorem opg_ne (c : EqC X.K C f) (F : FnG X.prog X.w X.K X.mg X.base CX k f fd ps sp) (hr : Room (k + 1) X.A) (hg : X.A.guards = some [])
    (hb : Binds X.K fd ps []) (hx : Passes CX X E) : OpR X (compareOp .NotEq) (rOwnEq X.K C sp E true) := by
  intro pins s σ H x y v u Q I rx ry q
  obtain ⟨a, dx, fs, t, rfl, ea, ty, nf, q⟩ := q
  cases rx
  obtain ⟨mA, O, _⟩ := ins_get I.hok ea
  obtain ⟨od, J, _⟩ := O.look
  obtain ⟨P, kx, hP, _⟩ := kit_of I ry ty
  show wpAny _ _ (richCompare .NotEq _ _) _ _ _
  have hu : X.A.units + 1 < cLine := by have := hr.un; omega
  refine neOwn I.kIn J c (kx.ty _ _ I.kIn hP) nf hu (wpAny_call ?_)
  refine codeAny_mono (runG (us := [.ref a, u]) (vs := [.ref a, y]) F hr.in1 hg I.env0.in1 hb .nil hx I (.cons rfl (.cons ry .nil)) q) fun r s' hq => ?_
  match r, hq with
  | .error _, hq => exact hq
  | .ok (.ret w), ⟨_, H', I', rv, b, e, q'⟩ =>
    subst e
    have e2 : w = Value.bool b := rv
    subst e2
    exact ⟨b, rfl, V.bl (!b), H', I', rfl, q'⟩
end
end MV

set_option Elab.async false
set_option linter.all false
set_option maxRecDepth 100000
set_option maxHeartbeats 2000000
/-! MVE: what a step leaves of the heap (Stp), int tuples (IT), readings by lemmas (r_*), the walk over them. -/
namespace MV
open PySem PySem.Spec PyProof.Rows L2

/-! ### the tape of draws -/
/-- at t the tape: the script's ints, how many are read, what is left of a great one, the seed -/
def TapeL (H : Hp) (t l : Addr) : Prop := ∃ (ns : List Int) (a b c : Int), l ≠ t ∧
  H t = some (.lst [.ref l, .int a, .int b, .int c]) ∧ H l = some (.lst (ns.map V.int)) ∧ 0 ≤ a ∧ 0 ≤ c ∧ c < 2147483647
def Tape (H : Hp) (t : Addr) : Prop := ∃ l, TapeL H t l

/-- what a step leaves: all objects, but for the list at t (the tape), which stays a tape -/
structure Stp (t : Option Addr) (H H' : Hp) : Prop where
  ge : ∀ b o, (t = some b → ∀ xs, o ≠ .lst xs) → H b = some o → H' b = some o
  tp : ∀ a l, t = some a → TapeL H a l → TapeL H' a l

theorem TapeL.more {H H' : Hp} {a l : Addr} (T : TapeL H a l) (s : ∀ b o, H b = some o → H' b = some o) : TapeL H' a l := by
  obtain ⟨ns, x, b, c, h1, h2, h3, h4⟩ := T
  exact ⟨ns, x, b, c, h1, s _ _ h2, s _ _ h3, h4⟩
theorem Tape.more {H H' : Hp} {a : Addr} (T : Tape H a) (s : ∀ b o, H b = some o → H' b = some o) : Tape H' a := (let ⟨l, h⟩ := T; ⟨l, h.more s⟩)
theorem Stp.refl (t : Option Addr) (H : Hp) : Stp t H H := ⟨fun _ _ _ h => h, fun _ _ _ h => h⟩
theorem Stp.all {H H' : Hp} (s : Stp none H H') : ∀ b o, H b = some o → H' b = some o := fun b o h => s.ge b o (fun z => nomatch z) h
theorem Stp.of {H H' : Hp} (s : ∀ b o, H b = some o → H' b = some o) (t : Option Addr) : Stp t H H' := ⟨fun b o _ h => s b o h, fun _ _ _ T => T.more s⟩
theorem Stp.w {H H' : Hp} {t : Option Addr} (s : Stp none H H') : Stp t H H' := Stp.of s.all t
theorem Stp.trans {H H1 H2 : Hp} {t : Option Addr} (a : Stp t H H1) (b : Stp t H1 H2) : Stp t H H2 :=
  ⟨fun c o n h => b.ge c o n (a.ge c o n h), fun c l e T => b.tp c l e (a.tp c l e T)⟩
theorem Stp.new {H : Hp} {p : Addr} {o : HO} (h : H p = none) : Stp none H (upd H p o) := Stp.of (fun b u e => by
  rw [upd_ne (ne_of_none e h)]
  exact e) none
theorem Tape.mv {t : Option Addr} {H H' : Hp} {a : Addr} (s : Stp t H H') (h : t = none ∨ t = some a) (T : Tape H a) : Tape H' a := by
  rcases h with rfl | rfl
  · exact T.more s.all
  · exact (let ⟨l, h⟩ := T; ⟨l, s.tp a l rfl h⟩)
theorem Tape.mvN {H H' : Hp} {a : Addr} (s : Stp none H H') (T : Tape H a) : Tape H' a := T.more s.all
theorem Tape.mvS {H H' : Hp} {a : Addr} (s : Stp (some a) H H') (T : Tape H a) : Tape H' a := (let ⟨l, h⟩ := T; ⟨l, s.tp a l rfl h⟩)
theorem Stp.same {H H' : Hp} (s : Stp none H H') : Same H H' := s.all

/-! ### int tuples, lists, instances -/
/-- v is a tuple of the ints ns -/
def IT (H : Hp) (v : V) (ns : List Int) : Prop := ∃ p, v = .ref p ∧ H p = some (.tup (ns.map V.int))
theorem IT.mv {t : Option Addr} {H H' : Hp} {v : V} {ns : List Int} (s : Stp t H H') (h : IT H v ns) : IT H' v ns := by
  obtain ⟨p, e, h⟩ := h
  exact ⟨p, e, s.ge _ _ (fun _ xs z => by cases z) h⟩
/-- as IT, or a tuple of the text that is always there -/
def IK (K : PySem.W.Frag) (H : Hp) (v : V) (ns : List Int) : Prop := ∃ p, v = .ref p ∧ SqT K H p (ns.map V.int)
theorem IT.k {K : PySem.W.Frag} {H : Hp} {v : V} {ns : List Int} (h : IT H v ns) : IK K H v ns := by
  obtain ⟨p, e, h⟩ := h
  exact ⟨p, e, SqT.of h⟩
theorem SqT.mvS {K : PySem.W.Frag} {t : Option Addr} {H H' : Hp} {p : Addr} {xs : List V} (s : Stp t H H') (h : SqT K H p xs) : SqT K H' p xs := by
  rcases h with h | h
  · rcases h with h | ⟨o, h⟩
    · exact .inl (.inl (s.ge _ _ (fun _ xs z => by cases z) h))
    · exact .inl (.inr ⟨o, s.ge _ _ (fun _ xs z => by cases z) h⟩)
  · exact .inr h
theorem IK.mv {K : PySem.W.Frag} {t : Option Addr} {H H' : Hp} {v : V} {ns : List Int} (s : Stp t H H') (h : IK K H v ns) : IK K H' v ns := by
  obtain ⟨p, e, h⟩ := h
  exact ⟨p, e, SqT.mvS s h⟩
theorem At.tup {t : Option Addr} {H H' : Hp} {p : Addr} {xs : List V} (s : Stp t H H') (h : H p = some (.tup xs)) : H' p = some (.tup xs) :=
  s.ge _ _ (fun _ xs z => by cases z) h
theorem At.ins {t : Option Addr} {H H' : Hp} {p C dx : Addr} {fs : List (Str × V)} (s : Stp t H H') (h : H p = some (.ins C dx fs)) : H' p = some (.ins C dx fs) :=
  s.ge _ _ (fun _ xs z => by cases z) h
theorem At.lst {H H' : Hp} {p : Addr} {xs : List V} (s : Stp none H H') (h : H p = some (.lst xs)) : H' p = some (.lst xs) := s.all _ _ h
theorem At.lstS {t : Addr} {H H' : Hp} {p : Addr} {xs : List V} (s : Stp (some t) H H') (n : p ≠ t) (h : H p = some (.lst xs)) : H' p = some (.lst xs) :=
  s.ge _ _ (fun z => absurd (Option.some.inj z).symm n) h

theorem dp_ints {K : PySem.W.Frag} {H : Hp} : ∀ ns : List Int, DpAll K H (ns.map V.int) (ns.map PyData.int)
  | [] => .nil
  | n :: r => .cons (.int n) (dp_ints r)
theorem IK.dp {K : PySem.W.Frag} {H : Hp} {v : V} {ns : List Int} (h : IK K H v ns) : Dp K H v (.tuple (ns.map PyData.int)) := by
  obtain ⟨p, rfl, h⟩ := h
  exact .tup h (dp_ints ns)
theorem canLay_ints : ∀ ns : List Int, PyData.canLayAll0 (ns.map PyData.int) = true
  | [] => by rw [List.map_nil, PyData.canLayAll0]
  | n :: r => by rw [List.map_cons, PyData.canLayAll0, canLay_ints r, PyData.canLay0]; rfl
theorem depth_ints : ∀ ns : List Int, PyData.depthAll (ns.map PyData.int) = 0
  | [] => by rw [List.map_nil, PyData.depthAll]
  | n :: r => by rw [List.map_cons, PyData.depthAll, depth_ints r, PyData.depth]; rfl
theorem shaped_int (ns : List Int) : SeqAt.shaped (.tuple (ns.map PyData.int)) = true := by
  unfold SeqAt.shaped
  rw [PyData.canLay0, canLay_ints, PyData.depth, depth_ints]
  rfl
theorem eqvAll_ints : ∀ ns ms : List Int, PyData.eqvAll (ns.map PyData.int) (ms.map PyData.int) = decide (ns = ms)
  | [], [] => by rw [List.map_nil, PyData.eqvAll]; rfl
  | [], _ :: _ => by rw [List.map_nil, List.map_cons, PyData.eqvAll]; rfl
  | _ :: _, [] => by rw [List.map_nil, List.map_cons, PyData.eqvAll]; rfl
  | n :: r, m :: q => by
    rw [List.map_cons, List.map_cons, PyData.eqvAll, PyData.eqv, eqvAll_ints r q]
    by_cases h : n = m
    · subst h
      by_cases h2 : r = q
      · subst h2; simp
      · simp [h2]
    · simp [h]
theorem eqv_ints (ns ms : List Int) : PyData.eqv (.tuple (ns.map PyData.int)) (.tuple (ms.map PyData.int)) = decide (ns = ms) := by
  rw [PyData.eqv, eqvAll_ints]

/-! ### readings -/
section
variable {K : PySem.W.Frag} {σ : L2.St} {H H1 H2 : Hp} {Q : VK} {v x y : V} {i j : Int} {n : Nat} {ta tb te tc : TE} {t u : TS} {D : Ends} {tt uu : TT} {a tr : TA} {r : R2} {g : TG} {gs : TGs}
theorem r_var (h : σ[n]? = some (some v)) (q : Q v H) : tVar n σ H Q := ⟨v, h, q⟩
theorem r_c (q : Q v H) : tC v σ H Q := q
theorem r_op (q : ta σ H fun x H1 => tb σ H1 fun y H2 => r x y H2 Q) : tOp r ta tb σ H Q := q
theorem r_un {r : V → Hp → VK → Prop} (q : ta σ H fun x H1 => r x H1 Q) : tUn r ta σ H Q := q
theorem r_nil {Q : List V → Hp → Prop} (q : Q [] H) : tNil σ H Q := q
theorem r_cons {Q : List V → Hp → Prop} (q : ta σ H fun x H1 => tr σ H1 fun xs H2 => Q (x :: xs) H2) : tCons ta tr σ H Q := q
/-- a new tuple, a new list of xs is handed to Q -/
def NewT (xs : List V) (H : Hp) (Q : VK) : Prop := xs.length ≤ sizeLine ∧ ∀ p, H p = none → Q (.ref p) (upd H p (.tup xs))
def NewL (xs : List V) (H : Hp) (Q : VK) : Prop := xs.length ≤ sizeLine ∧ ∀ p, H p = none → Q (.ref p) (upd H p (.lst xs))
theorem r_tup (q : a σ H fun xs H1 => NewT xs H1 Q) : tTup a σ H Q := q
theorem r_lst (q : a σ H fun xs H1 => NewL xs H1 Q) : tLst a σ H Q := q
theorem r_newT {xs : List V} (hl : xs.length ≤ sizeLine) (k : ∀ p H2, Stp none H H2 → H2 p = some (.tup xs) → H p = none → Q (.ref p) H2) :
    NewT xs H Q := ⟨hl, fun p hp => k p _ (Stp.new hp) upd_same hp⟩
theorem r_newL {xs : List V} (hl : xs.length ≤ sizeLine) (k : ∀ p H2, Stp none H H2 → H2 p = some (.lst xs) → H p = none → Q (.ref p) H2) :
    NewL xs H Q := ⟨hl, fun p hp => k p _ (Stp.new hp) upd_same hp⟩
theorem sz100 {n : Nat} (h : n ≤ 100) : n ≤ sizeLine := Nat.le_trans h (by decide)
theorem r_newI {ns : List Int} (hl : ns.length ≤ 100) (k : ∀ v H2, Stp none H H2 → IT H2 v ns → Q v H2) :
    NewT (ns.map V.int) H Q :=
  ⟨sz100 (by rw [List.length_map]; exact hl), fun p hp => k _ _ (Stp.new hp) ⟨p, rfl, upd_same⟩⟩
theorem r_newI2 (k : ∀ v H2, Stp none H H2 → IT H2 v [i, j] → Q v H2) : NewT [V.int i, V.int j] H Q := r_newI (ns := [i, j]) (Nat.le_of_ble_eq_true rfl) k
theorem r_newI3 {l : Int} (k : ∀ v H2, Stp none H H2 → IT H2 v [i, j, l] → Q v H2) : NewT [V.int i, V.int j, V.int l] H Q := r_newI (ns := [i, j, l]) (Nat.le_of_ble_eq_true rfl) k
theorem r_newL1 (k : ∀ p H2, Stp none H H2 → H2 p = some (.lst [x]) → H p = none → Q (.ref p) H2) : NewL [x] H Q := r_newL (sz100 (Nat.le_of_ble_eq_true rfl)) k
theorem r_newL2 (k : ∀ p H2, Stp none H H2 → H2 p = some (.lst [x, y]) → H p = none → Q (.ref p) H2) : NewL [x, y] H Q := r_newL (sz100 (Nat.le_of_ble_eq_true rfl)) k
theorem r_newL3 {z : V} (k : ∀ p H2, Stp none H H2 → H2 p = some (.lst [x, y, z]) → H p = none → Q (.ref p) H2) : NewL [x, y, z] H Q := r_newL (sz100 (Nat.le_of_ble_eq_true rfl)) k
theorem r_cb {r : List V → Hp → VK → Prop} (q : a σ H fun vs H1 => r vs H1 Q) : tCB r a σ H Q := q
theorem r_call {sp : Sp} {dvs : List V} {E : XK} (q : a σ H fun vs H1 => sp (vs ++ dvs) H1 Q E) : tCall sp dvs E a σ H Q := q
theorem r_prop {C : Addr} {sp : Sp} {dvs : List V} {E : XK} (q : ta σ H fun x H1 => ∃ a dx fs, x = .ref a ∧ H1 a = some (.ins C dx fs) ∧ sp (.ref a :: dvs) H1 Q E) : tProp C sp dvs E ta σ H Q := q
theorem r_meth {C : Addr} {m : Str} {sp : Sp} {dvs : List V} {E : XK} (q : ta σ H fun x H1 => ∃ b dx fs, x = .ref b ∧ H1 b = some (.ins C dx fs) ∧ fs.lookup m = none ∧ a σ H1 fun vs H2 => sp (x :: (vs ++ dvs)) H2 Q E) :
    tMeth C m sp dvs E ta a σ H Q := q
/-- C(..): a new object is handed to __init__ and then to Q -/
def MkR (C : Addr) (sp : Sp) (vs : List V) (H1 : Hp) (Q : VK) (E : XK) : Prop := ∀ x dx, H1 x = none → H1 dx = none → dx ≠ x →
    sp (.ref x :: vs) (upd (upd H1 dx (.own x)) x (.ins C dx [])) (fun v H2 => v = .non ∧ Q (.ref x) H2) E
theorem r_make {C : Addr} {sp : Sp} {dvs : List V} {E : XK} (q : a σ H fun vs H1 => MkR C sp (vs ++ dvs) H1 Q E) : tMake C sp dvs E a σ H Q := q
theorem r_andV (q : ta σ H fun x H1 => ∃ c, x = .bl c ∧ if c = true then tb σ H1 Q else Q (.bl false) H1) : tAndV ta tb σ H Q := q
theorem r_orV (q : ta σ H fun x H1 => ∃ c, x = .bl c ∧ if c = true then Q (.bl true) H1 else tb σ H1 Q) : tOrV ta tb σ H Q := q
theorem r_notV (q : ta σ H fun x H1 => ∃ c, x = .bl c ∧ Q (.bl (!c)) H1) : tNotV ta σ H Q := q
theorem r_chain {r' : R2} (q : ta σ H fun x H1 => tb σ H1 fun y H2 => r x y H2 fun z H3 => ∃ k, z = .bl k ∧ (if k = true then tc σ H3 fun w' H4 => r' y w' H4 Q else Q (.bl false) H3)) : tChain r r' ta tb tc σ H Q := q
theorem r_ifE (q : tt σ H fun c H1 => if c = true then ta σ H1 Q else tb σ H1 Q) : tIf tt ta tb σ H Q := q
section
variable {Q : Bool → Hp → Prop}
theorem r_test (q : te σ H fun x H' => ∃ k, x = .bl k ∧ Q k H') : tTest te σ H Q := q
theorem r_B (q : te σ H fun x H' => ∃ k, x = .bl k ∧ Q k H') : tB te σ H Q := q
theorem r_and (q : tt σ H fun c H1 => if c = true then uu σ H1 Q else Q false H1) : tAnd tt uu σ H Q := q
theorem r_or (q : tt σ H fun c H1 => if c = true then Q true H1 else uu σ H1 Q) : tOr tt uu σ H Q := q
theorem r_not (q : tt σ H fun c H1 => Q (!c) H1) : tNot tt σ H Q := q
theorem r_yes (q : Q true H) : tYes σ H Q := q
theorem r_k {b : Bool} (q : Q b H) : ∃ k, V.bl b = .bl k ∧ Q k H := ⟨b, rfl, q⟩
end
theorem r_kV {b : Bool} {P : Bool → Prop} (q : P b) : ∃ k, V.bl b = .bl k ∧ P k := ⟨b, rfl, q⟩
theorem r_seq (q : t { D with nx := u D } σ H) : tSeq t u D σ H := q
theorem r_next (q : D.nx σ H) : tNext D σ H := q
theorem r_asg (q : te σ H fun x H1 => g x σ H1 D.nx) : tAsg te g D σ H := q
theorem r_drop (q : te σ H fun _ H1 => D.nx σ H1) : tDrop te D σ H := q
theorem r_ret (q : te σ H D.rt) : tRet te D σ H := q
theorem r_ifS (q : tt σ H fun b H1 => if b = true then t D σ H1 else u D σ H1) : tIfS tt t u D σ H := q
theorem r_par {m : Nat} (q : a σ H fun vs H1 => ∃ v w, vs = [v, w] ∧ D.nx ((σ.set n (some v)).set m (some w)) H1) : tPar n m a D σ H := q
theorem r_par1 {m : Nat} (q : D.nx ((σ.set n (some x)).set m (some y)) H) : ∃ v w, [x, y] = [v, w] ∧ D.nx ((σ.set n (some v)).set m (some w)) H := ⟨x, y, rfl, q⟩
section
variable {Q : L2.St → Hp → Prop} {vs : List V}
theorem r_gname (q : Q (σ.set n (some v)) H) : gName n v σ H Q := q
theorem r_gnil (q : Q σ H) : gNil [] σ H Q := ⟨rfl, q⟩
theorem r_gcons (q : g v σ H fun σ' H' => gs vs σ' H' Q) : gCons g gs (v :: vs) σ H Q := ⟨v, vs, rfl, q⟩
theorem r_unpack {ns : List Int} (h : IK K H v ns) (hn : ns.length = n) (q : gs (ns.map V.int) σ H Q) : gTup K n gs v σ H Q := by
  obtain ⟨p, rfl, h⟩ := h
  exact ⟨p, _, rfl, h, by rw [List.length_map]; exact hn, q⟩
theorem r_unpack2 (h : IK K H v [i, j]) (q : gs [V.int i, V.int j] σ H Q) : gTup K 2 gs v σ H Q := r_unpack h rfl q
theorem r_unpack3 {l : Int} (h : IK K H v [i, j, l]) (q : gs [V.int i, V.int j, V.int l] σ H Q) : gTup K 3 gs v σ H Q := r_unpack h rfl q
end
-- operators by values
theorem r_add (q : Q (.int (i + j)) H) : rI0 (fun i j => .int (i + j)) (.int i) (.int j) H Q := ⟨i, j, rfl, rfl, q⟩
theorem r_sub (q : Q (.int (i - j)) H) : rI0 (fun i j => .int (i - j)) (.int i) (.int j) H Q := ⟨i, j, rfl, rfl, q⟩
theorem r_mod (h : 0 < j) (q : Q (.int (i % j)) H) : rI (fun _ j => 0 < j) (fun i j => .int (i % j)) (.int i) (.int j) H Q := ⟨i, j, rfl, rfl, h, q⟩
theorem r_div (h : CDivW i j) (q : Q (.int (i / j)) H) : rI CDivW (fun i j => .int (i / j)) (.int i) (.int j) H Q := ⟨i, j, rfl, rfl, h, q⟩
theorem r_mulW (h : CMulW i j) (q : Q (.int (i * j)) H) : rI CMulW (fun i j => .int (i * j)) (.int i) (.int j) H Q := ⟨i, j, rfl, rfl, h, q⟩
theorem r_mul (h : CMul i j) (q : Q (.int (i * j)) H) : rI CMul (fun i j => .int (i * j)) (.int i) (.int j) H Q := ⟨i, j, rfl, rfl, h, q⟩
theorem r_pow (h : CPow i j) (q : Q (.int (i ^ j.toNat)) H) : rI CPow (fun i j => .int (i ^ j.toNat)) (.int i) (.int j) H Q := ⟨i, j, rfl, rfl, h, q⟩
theorem r_neg (q : Q (.int (-i)) H) : rU (fun i => .int (-i)) (.int i) H Q := ⟨i, rfl, q⟩
theorem r_lt (q : Q (.bl (decide (i < j))) H) : rI0 (fun i j => .bl (decide (i < j))) (.int i) (.int j) H Q := ⟨i, j, rfl, rfl, q⟩
theorem r_le (q : Q (.bl (decide (i ≤ j))) H) : rI0 (fun i j => .bl (decide (i ≤ j))) (.int i) (.int j) H Q := ⟨i, j, rfl, rfl, q⟩
theorem r_gt (q : Q (.bl (decide (j < i))) H) : rI0 (fun i j => .bl (decide (j < i))) (.int i) (.int j) H Q := ⟨i, j, rfl, rfl, q⟩
theorem r_ge (q : Q (.bl (decide (j ≤ i))) H) : rI0 (fun i j => .bl (decide (j ≤ i))) (.int i) (.int j) H Q := ⟨i, j, rfl, rfl, q⟩
theorem dec_int : decide (V.int i = V.int j) = decide (i = j) := decide_eq_decide.mpr ⟨V.int.inj, congrArg V.int⟩
theorem r_eqI (q : Q (.bl (decide (i = j))) H) : rEq (.int i) (.int j) H Q := ⟨rfl, by rw [dec_int]; exact q⟩
theorem r_neI (q : Q (.bl (!decide (i = j))) H) : rNe (.int i) (.int j) H Q := ⟨rfl, by rw [dec_int]; exact q⟩
theorem dec_str {s z : Str} : decide (V.str s = V.str z) = decide (s = z) := decide_eq_decide.mpr ⟨V.str.inj, congrArg V.str⟩
theorem r_eqS {s z : Str} (q : Q (.bl (decide (s = z))) H) : rEq (.str s) (.str z) H Q := ⟨rfl, by rw [dec_str]; exact q⟩
theorem r_neS {s z : Str} (q : Q (.bl (!decide (s = z))) H) : rNe (.str s) (.str z) H Q := ⟨rfl, by rw [dec_str]; exact q⟩
/-- == and != of int tuples -/
theorem r_eqT {ns ms : List Int} (hx : IK K H x ns) (hy : IK K H y ms) (q : Q (.bl (decide (ns = ms))) H) : rEqD K x y H Q :=
  ⟨_, _, hx.dp, hy.dp, shaped_int ns, shaped_int ms, by rw [eqv_ints]; exact q⟩
theorem r_neT {ns ms : List Int} (hx : IK K H x ns) (hy : IK K H y ms) (q : Q (.bl (!decide (ns = ms))) H) : rNeD K x y H Q :=
  ⟨_, _, hx.dp, hy.dp, shaped_int ns, shaped_int ms, by rw [eqv_ints]; exact q⟩
/-- an item of an int tuple -/
theorem r_ixI {ns : List Int} {m : Int} (h : IK K H v ns) (hn : ns[n]? = some m) (q : Q (.int m) H) : rIx K v (.int (n : Nat)) H Q := by
  obtain ⟨p, rfl, h⟩ := h
  exact .inr (.inl ⟨p, _, _, _, rfl, rfl, h, atI_nat (by rw [List.getElem?_map, hn]; rfl), q⟩)
theorem r_ix0 {m : Int} {ns : List Int} (h : IK K H v (m :: ns)) (q : Q (.int m) H) : rIx K v (.int 0) H Q := r_ixI (n := 0) h rfl q
theorem r_ix1 {m k : Int} {ns : List Int} (h : IK K H v (k :: m :: ns)) (q : Q (.int m) H) : rIx K v (.int 1) H Q := r_ixI (n := 1) h rfl q
theorem r_ix2 {m k l : Int} {ns : List Int} (h : IK K H v (k :: l :: m :: ns)) (q : Q (.int m) H) : rIx K v (.int 2) H Q := r_ixI (n := 2) h rfl q
/-- an item of a list that stands in H -/
theorem r_ixL {p : Addr} {xs : List V} (h : H p = some (.lst xs)) (hn : xs[n]? = some v) (q : Q v H) : rIx K (.ref p) (.int (n : Nat)) H Q :=
  .inl ⟨p, xs, _, v, rfl, rfl, SqL.of h, atI_nat hn, q⟩
theorem r_ixLi {p : Addr} {xs : List V} {i : Int} (h : H p = some (.lst xs)) (h0 : 0 ≤ i) (hn : xs[i.toNat]? = some v) (q : Q v H) : rIx K (.ref p) (.int i) H Q := by
  have e : i = ((i.toNat : Nat) : Int) := (Int.toNat_of_nonneg h0).symm
  rw [e]
  exact r_ixL h hn q
theorem ixN_nat {m k : Nat} (h : k < m) : ixN m ((k : Nat) : Int) = some k := by
  unfold ixN
  rw [if_pos (Int.natCast_nonneg k), if_pos (by omega)]
  rfl
theorem r_setL {p : Addr} {xs : List V} {Q : Hp → Prop} (h : H p = some (.lst xs)) (hn : n < xs.length) (q : Q (upd H p (.lst (xs.set n v)))) : rSetL (.ref p) (.int (n : Nat)) v H Q :=
  ⟨p, xs, _, n, rfl, rfl, h, ixN_nat hn, q⟩
-- tests
theorem r_ite {p : Prop} [Decidable p] {A B : Prop} (h1 : p → A) (h2 : ¬ p → B) : if decide p = true then A else B := by
  by_cases h : p
  · rw [if_pos (decide_eq_true h)]; exact h1 h
  · rw [if_neg (by simp [h])]; exact h2 h
theorem r_iteN {p : Prop} [Decidable p] {A B : Prop} (h1 : ¬ p → A) (h2 : p → B) : if (!decide p) = true then A else B := by
  by_cases h : p
  · rw [if_neg (by simp [h])]; exact h2 h
  · rw [if_pos (by simp [h])]; exact h1 h
theorem r_T {A B : Prop} (q : A) : if true = true then A else B := q
theorem r_F {A B : Prop} (q : B) : if false = true then A else B := q
theorem r_iT {b : Bool} {A B : Prop} (h : b = true) (q : A) : if b = true then A else B := by rw [h]; exact q
theorem r_iF {b : Bool} {A B : Prop} (h : b = false) (q : B) : if b = true then A else B := by rw [h]; exact q

/-! ### more readings -/
theorem r_call0 {sp : Sp} {E : XK} (q : a σ H fun vs H1 => sp vs H1 Q E) : tCall sp [] E a σ H Q := by
  unfold tCall
  simp only [List.append_nil]
  exact q
theorem r_meth0 {C : Addr} {m : Str} {sp : Sp} {E : XK} (q : ta σ H fun x H1 => ∃ b dx fs, x = .ref b ∧ H1 b = some (.ins C dx fs) ∧ fs.lookup m = none ∧ a σ H1 fun vs H2 => sp (x :: vs) H2 Q E) :
    tMeth C m sp [] E ta a σ H Q := by
  unfold tMeth
  simp only [List.append_nil]
  exact q
theorem r_make0 {C : Addr} {sp : Sp} {E : XK} (q : a σ H fun vs H1 => MkR C sp vs H1 Q E) : tMake C sp [] E a σ H Q := by
  unfold tMake
  simp only [List.append_nil]
  exact q
theorem r_isi {c t u : _} {b : Bool} {x : V} (cl : ClsV c u) (ty : TyX K H x t) (e : PySem.W.kitOne K t u = some b) (q : Q (.bl b) H) : rIsi K [x, c] H Q :=
  ⟨x, c, t, u, b, rfl, cl, ty, e, q⟩
theorem r_isiII (q : Q (.bl true) H) : rIsi K [.int i, .ty "int"] H Q := r_isi (.ty _) (.base (.int i)) (kit_ty (by decide +kernel)) q
theorem r_isiIB (q : Q (.bl false) H) : rIsi K [.int i, .ty "bool"] H Q := r_isi (.ty _) (.base (.int i)) (kit_ty (by decide +kernel)) q
theorem ty_tup {p : Addr} {xs : List V} (h : SqT K H p xs) : TyX K H (.ref p) (.type "tuple") := by
  rcases h with h | ⟨o, _, _, h1, h2, _⟩
  · rcases h with h | ⟨o, h⟩
    · exact .base (.tup h)
    · exact .fTuple h
  · exact .kTuple h1 h2
theorem r_isiTT {ns : List Int} (h : IK K H v ns) (q : Q (.bl true) H) : rIsi K [v, .ty "tuple"] H Q := by
  obtain ⟨p, rfl, h⟩ := h
  exact r_isi (.ty _) (ty_tup h) (kit_ty (by decide +kernel)) q
def rLenV (K : PySem.W.Frag) : List V → Hp → VK → Prop := fun xs H Q => ∃ p ys, xs = [.ref p] ∧ (SqL K H p ys ∨ SqT K H p ys) ∧ Q (.int ys.length) H
theorem r_cbLen (q : a σ H fun vs H1 => rLenV K vs H1 Q) : tCB (fun xs H Q => ∃ p ys, xs = [.ref p] ∧ (SqL K H p ys ∨ SqT K H p ys) ∧ Q (.int ys.length) H) a σ H Q := q
theorem r_lenI {ns : List Int} {m : Int} (h : IK K H v ns) (e : (ns.length : Int) = m) (q : Q (.int m) H) : rLenV K [v] H Q := by
  obtain ⟨p, rfl, h⟩ := h
  refine ⟨p, _, rfl, .inr h, ?_⟩
  rw [List.length_map, e]
  exact q
theorem r_len2 (h : IK K H v [i, j]) (q : Q (.int 2) H) : rLenV K [v] H Q := r_lenI h rfl q
theorem r_len3 {l : Int} (h : IK K H v [i, j, l]) (q : Q (.int 3) H) : rLenV K [v] H Q := r_lenI h rfl q
theorem r_lenL {p : Addr} {xs : List V} (h : H p = some (.lst xs)) (q : Q (.int xs.length) H) : rLenV K [.ref p] H Q := ⟨p, xs, rfl, .inl (SqL.of h), q⟩
def rInt1 : List V → Hp → VK → Prop := fun xs H Q => (∃ i, xs = [.int i] ∧ Q (.int i) H) ∨ ∃ k, xs = [.bl k] ∧ Q (.int (if k then 1 else 0)) H
theorem r_cbInt (q : a σ H fun vs H1 => rInt1 vs H1 Q) : tCB (fun xs H Q => (∃ i, xs = [.int i] ∧ Q (.int i) H) ∨ ∃ k, xs = [.bl k] ∧ Q (.int (if k then 1 else 0)) H) a σ H Q := q
theorem r_int1 (q : Q (.int i) H) : rInt1 [.int i] H Q := .inl ⟨i, rfl, q⟩
theorem r_int1B {b : Bool} (q : Q (.int (if b then 1 else 0)) H) : rInt1 [.bl b] H Q := .inr ⟨b, rfl, q⟩
def rReprI : List V → Hp → VK → Prop := fun xs H Q => ∃ i, xs = [.int i] ∧ i.natAbs.log2 < 1920 ∧ Q (.str (toString i)) H
theorem r_cbRepr (q : a σ H fun vs H1 => rReprI vs H1 Q) : tCB (fun xs H Q => ∃ i, xs = [.int i] ∧ i.natAbs.log2 < 1920 ∧ Q (.str (toString i)) H) a σ H Q := q
theorem r_reprI (h : i.natAbs.log2 < 1920) (q : Q (.str (toString i)) H) : rReprI [.int i] H Q := ⟨i, rfl, h, q⟩
def rTupL (K : PySem.W.Frag) : List V → Hp → VK → Prop := fun xs H Q => ∃ p ys, xs = [.ref p] ∧ ((SqL K H p ys ∧ ∀ l, H l = none → Q (.ref l) (upd H l (.tup ys))) ∨ (SqT K H p ys ∧ Q (.ref p) H))
theorem r_cbTup (q : a σ H fun vs H1 => rTupL K vs H1 Q) : tCB (fun xs H Q => ∃ p ys, xs = [.ref p] ∧ ((SqL K H p ys ∧ ∀ l, H l = none → Q (.ref l) (upd H l (.tup ys))) ∨ (SqT K H p ys ∧ Q (.ref p) H))) a σ H Q := q
theorem r_tupL {p : Addr} {ns : List Int} (h : H p = some (.lst (ns.map V.int))) (k : ∀ v H2, Stp none H H2 → IT H2 v ns → Q v H2) : rTupL K [.ref p] H Q :=
  ⟨p, _, rfl, .inl ⟨SqL.of h, fun l hl => k _ _ (Stp.new hl) ⟨l, rfl, upd_same⟩⟩⟩
def rLstL (K : PySem.W.Frag) : List V → Hp → VK → Prop := fun xs H Q => ∃ p ys, xs = [.ref p] ∧ (SqL K H p ys ∨ SqT K H p ys) ∧ ∀ l, H l = none → Q (.ref l) (upd H l (.lst ys))
theorem r_cbLst (q : a σ H fun vs H1 => rLstL K vs H1 Q) : tCB (fun xs H Q => ∃ p ys, xs = [.ref p] ∧ (SqL K H p ys ∨ SqT K H p ys) ∧ ∀ l, H l = none → Q (.ref l) (upd H l (.lst ys))) a σ H Q := q
theorem r_lstL {p : Addr} {xs : List V} (h : SqL K H p xs) (k : ∀ l H2, Stp none H H2 → H2 l = some (.lst xs) → H l = none → Q (.ref l) H2) : rLstL K [.ref p] H Q :=
  ⟨p, xs, rfl, .inl h, fun l hl => k l _ (Stp.new hl) upd_same hl⟩
theorem r_nT {A B : Prop} (q : B) : if (!true) = true then A else B := q
theorem r_nF {A B : Prop} (q : A) : if (!false) = true then A else B := q
theorem r_gcd {i j : Int} (q : Q (.int ((Nat.gcd i.natAbs j.natAbs : Nat) : Int)) H) : rGcd [.int i, .int j] H Q := ⟨i, j, rfl, q⟩
theorem r_setLi {p : Addr} {xs : List V} {i : Int} {Q : Hp → Prop} (h : H p = some (.lst xs)) (h0 : 0 ≤ i) (hn : i.toNat < xs.length) (q : Q (upd H p (.lst (xs.set i.toNat v)))) : rSetL (.ref p) (.int i) v H Q := by
  have e : i = ((i.toNat : Nat) : Int) := (Int.toNat_of_nonneg h0).symm
  rw [e]
  exact r_setL h hn q
/-- xs[i] = v, both parts read -/
theorem r_gsub {to ti : TE} {t : TSet} {Q : L2.St → Hp → Prop} (q : to σ H fun o H1 => ti σ H1 fun i H2 => t o i v H2 fun H3 => Q σ H3) : gSub to ti t v σ H Q := q
/-- x.f handed to Q -/
def FldR (K : PySem.W.Frag) (f : Str) (x : V) (H : Hp) (Q : VK) : Prop := ∃ a C dx fs v, x = .ref a ∧ H a = some (.ins C dx fs) ∧ Cls K C ∧ NoAttr K C f ∧ fs.lookup f = some v ∧ Q v H
theorem r_fld {f : Str} (q : ta σ H fun x H1 => FldR K f x H1 Q) : tFld K ta f σ H Q := q
theorem mulW_of {i j : Int} (hi : i.natAbs < 10 ^ 70) (hj : j.natAbs < 10 ^ 70) : CMulW i j :=
  wide_mul (a := 240) (b := 240) (Nat.lt_of_lt_of_le hi (by decide)) (Nat.lt_of_lt_of_le hj (by decide)) (by decide) (by decide) (by decide)
theorem divW_of {i j : Int} (h : 0 < j) (hj : j.natAbs < 10 ^ 70) : CDivW i j :=
  wide_div (b := 240) h (Nat.lt_of_lt_of_le hj (by decide)) (by decide) (by decide)
theorem log2_of {i : Int} (h : i.natAbs < 10 ^ 500) : i.natAbs.log2 < 1920 := by
  have : i.natAbs < 2 ^ 1920 := Nat.lt_of_lt_of_le h (by decide +kernel)
  by_cases z : i.natAbs = 0
  · rw [z]; decide
  · exact (Nat.log2_lt z).mpr this
theorem r_p6 (q : Q (.int 1000000) H) : rI CPow (fun i j => .int (i ^ j.toNat)) (.int 10) (.int 6) H Q := ⟨10, 6, rfl, rfl, ⟨by decide, by decide, by decide⟩, q⟩
theorem r_p9 (q : Q (.int 1000000000) H) : rI CPow (fun i j => .int (i ^ j.toNat)) (.int 10) (.int 9) H Q := ⟨10, 9, rfl, rfl, ⟨by decide, by decide, by decide⟩, q⟩
theorem r_p10 (q : Q (.int 10000000000) H) : rI CPow (fun i j => .int (i ^ j.toNat)) (.int 10) (.int 10) H Q := ⟨10, 10, rfl, rfl, ⟨by decide, by decide, by decide⟩, q⟩
theorem r_p11 (q : Q (.int 100000000000) H) : rI CPow (fun i j => .int (i ^ j.toNat)) (.int 10) (.int 11) H Q := ⟨10, 11, rfl, rfl, ⟨by decide, by decide, by decide⟩, q⟩
theorem r_p12 (q : Q (.int 1000000000000) H) : rI CPow (fun i j => .int (i ^ j.toNat)) (.int 10) (.int 12) H Q := ⟨10, 12, rfl, rfl, ⟨by decide, by decide, by decide⟩, q⟩
theorem r_p18 (q : Q (.int 1000000000000000000) H) : rI CPow (fun i j => .int (i ^ j.toNat)) (.int 10) (.int 18) H Q := ⟨10, 18, rfl, rfl, ⟨by decide, by decide, by decide⟩, q⟩
theorem r_p20 (q : Q (.int 100000000000000000000) H) : rI CPow (fun i j => .int (i ^ j.toNat)) (.int 10) (.int 20) H Q := ⟨10, 20, rfl, rfl, ⟨by decide, by decide, by decide⟩, q⟩
theorem r_p26 (q : Q (.int 100000000000000000000000000) H) : rI CPow (fun i j => .int (i ^ j.toNat)) (.int 10) (.int 26) H Q := ⟨10, 26, rfl, rfl, ⟨by decide, by decide, by decide⟩, q⟩
theorem r_p27 (q : Q (.int 1000000000000000000000000000) H) : rI CPow (fun i j => .int (i ^ j.toNat)) (.int 10) (.int 27) H Q := ⟨10, 27, rfl, rfl, ⟨by decide, by decide, by decide⟩, q⟩
theorem r_p30 (q : Q (.int 1000000000000000000000000000000) H) : rI CPow (fun i j => .int (i ^ j.toNat)) (.int 10) (.int 30) H Q := ⟨10, 30, rfl, rfl, ⟨by decide, by decide, by decide⟩, q⟩
theorem r_sfld {f : Str} {tv : TE} (q : tv σ H fun y H1 => ta σ H1 fun x H2 => ∃ a C dx fs, x = .ref a ∧ H2 a = some (.ins C dx fs) ∧ Cls K C ∧ NoAttr K C f ∧ fs.length < 1000 ∧ D.nx σ (upd H2 a (.ins C dx (putF f y fs)))) :
    sFld K ta tv f D σ H := q
theorem r_unl2 {Q : L2.St → Hp → Prop} {p : Addr} (h : H p = some (.lst [x, y])) (q : gs [x, y] σ H Q) : gLst K 2 gs (.ref p) σ H Q := ⟨p, _, rfl, SqL.of h, rfl, q⟩
/-- what isinstance asks of a class of the text -/
structure IsC (K : PySem.W.Frag) (C : Addr) : Prop where
  ca : PySem.W.findIn K (.ref C) "__class__" = some (some (.builtin "object.__class__"))
  cn : PySem.W.specialIn K (.builtin "object.__class__") "__get__" = some (some (.builtin "getset_descriptor.__get__"))
  ct : PySem.W.takesIn K (.builtin "object.__class__") = some true
  cm : PySem.W.mroIn K C (.type "object") = some true
theorem IsC.ty {C p dx : Addr} {fs : List (Str × V)} (c : IsC K C) (cl : Cls K C) (h : H p = some (.ins C dx fs)) : TyX K H (.ref p) (.ref C) :=
  .base (.ins h cl c.ca c.cn c.ct c.cm)
theorem kit_self {C : Addr} : PySem.W.kitOne K (.ref C) (.ref C) = some true := by
  unfold PySem.W.kitOne
  rw [if_pos (by simp)]
theorem notFirst_self {C : Addr} : PySem.W.notFirst K C (.ref C) = true := by
  unfold PySem.W.notFirst
  simp
/-- a property's object is known -/
theorem r_propAt {C p dx : Addr} {fs : List (Str × V)} {sp : Sp} {E : XK} (h : H p = some (.ins C dx fs)) (q : sp [.ref p] H Q E) :
    ∃ a dx fs, V.ref p = .ref a ∧ H a = some (.ins C dx fs) ∧ sp (.ref a :: []) H Q E := ⟨p, dx, fs, rfl, h, q⟩
theorem r_sl {rs : V → Option Int → Option Int → Hp → VK → Prop} {tl th : TO} (q : te σ H fun x H1 => tl σ H1 fun l H2 => th σ H2 fun u H3 => rs x l u H3 Q) : tSl rs te tl th σ H Q := q
theorem r_noPart {Q : Option Int → Hp → Prop} (q : Q none H) : tNoPart σ H Q := q
theorem r_part {Q : Option Int → Hp → Prop} (q : te σ H fun x H1 => ∃ i, x = .int i ∧ Q (some i) H1) : tPart te σ H Q := q
theorem r_pk {P : Int → Prop} (q : P i) : ∃ i', V.int i = .int i' ∧ P i' := ⟨i, rfl, q⟩
theorem r_slL {p : Addr} {xs : List V} {lo hi : Option Int} (h : SqL K H p xs) (k : ∀ l H2, Stp none H H2 → H2 l = some (.lst (cutV xs lo hi)) → H l = none → Q (.ref l) H2) : rSlL K (.ref p) lo hi H Q :=
  ⟨p, xs, rfl, h, fun l hl => k l _ (Stp.new hl) upd_same hl⟩
theorem cutV_map (ns : List Int) (lo hi : Option Int) : ∃ ms : List Int, cutV (ns.map V.int) lo hi = ms.map V.int :=
  ⟨(ns.drop (HT.sIx ns.length 0 lo)).take (HT.sIx ns.length ns.length hi - HT.sIx ns.length 0 lo), by
    unfold cutV
    simp only [List.length_map, List.map_take, List.map_drop]⟩
theorem r_set1 {t : Addr} {p q r s : V} {Q : Hp → Prop} (h : H t = some (.lst [p, q, r, s])) (k : Q (upd H t (.lst [p, v, r, s]))) : rSetL (.ref t) (.int 1) v H Q := r_setLi h (by decide) (Nat.le_of_ble_eq_true rfl) k
theorem r_set2 {t : Addr} {p q r s : V} {Q : Hp → Prop} (h : H t = some (.lst [p, q, r, s])) (k : Q (upd H t (.lst [p, q, v, s]))) : rSetL (.ref t) (.int 2) v H Q := r_setLi h (by decide) (Nat.le_of_ble_eq_true rfl) k
theorem r_set3 {t : Addr} {p q r s : V} {Q : Hp → Prop} (h : H t = some (.lst [p, q, r, s])) (k : Q (upd H t (.lst [p, q, r, v]))) : rSetL (.ref t) (.int 3) v H Q := r_setLi h (by decide) (Nat.le_of_ble_eq_true rfl) k
/-- the tape at t, written out -/
structure TapeIs (H : Hp) (t l : Addr) (ns : List Int) (a b c : Int) : Prop where
  ne : l ≠ t
  at_ : H t = some (.lst [.ref l, .int a, .int b, .int c])
  li : H l = some (.lst (ns.map V.int))
  a0 : 0 ≤ a
  c0 : 0 ≤ c
  c1 : c < 2147483647
theorem Tape.is {t : Addr} (T : Tape H t) : ∃ l ns a b c, TapeIs H t l ns a b c := by
  obtain ⟨l, ns, a, b, c, h1, h2, h3, h4, h5, h6⟩ := T
  exact ⟨l, ns, a, b, c, h1, h2, h3, h4, h5, h6⟩
theorem TapeIs.put {t l : Addr} {ns : List Int} {a b c a' b' c' : Int} (T : TapeIs H t l ns a b c) (a0 : 0 ≤ a') (c0 : 0 ≤ c') (c1 : c' < 2147483647) :
    Stp (some t) H (upd H t (.lst [.ref l, .int a', .int b', .int c'])) ∧ TapeIs (upd H t (.lst [.ref l, .int a', .int b', .int c'])) t l ns a' b' c' := by
  have T' : TapeIs (upd H t (.lst [.ref l, .int a', .int b', .int c'])) t l ns a' b' c' := ⟨T.ne, upd_same, by rw [upd_ne T.ne]; exact T.li, a0, c0, c1⟩
  refine ⟨⟨fun x o n e => ?_, fun x l' e z => ?_⟩, T'⟩
  · by_cases h : x = t
    · subst h
      rw [T.at_] at e
      exact absurd (Option.some.inj e).symm (n rfl _)
    · rw [upd_ne h]; exact e
  · cases e
    have el : l' = l := by
      obtain ⟨_, _, _, _, _, h, _⟩ := z
      rw [T.at_] at h
      simp only [Option.some.injEq, HO.lst.injEq, List.cons.injEq, V.ref.injEq] at h
      exact h.1.symm
    subst el
    exact ⟨ns, a', b', c', T'.ne, T'.at_, T'.li, a0, c0, c1⟩
theorem r_while {c : TT} {tb : TS} (W : Nat → L2.St → Hp → Prop) (h0 : ∃ m, W m σ H) (hs : ∀ m σ H, W m σ H →
    c σ H fun b H1 => if b = true then ∃ N : L2.St → Hp → Prop, (∀ σ' H', N σ' H' → ∃ m', m' < m ∧ W m' σ' H') ∧ tb { D with nx := N, ct := N, bk := D.nx } σ H1 else D.nx σ H1) :
    tWhile c tb D σ H := ⟨W, h0, hs⟩
end
end MV

set_option Elab.async false
set_option linter.all false
set_option maxRecDepth 100000
set_option maxHeartbeats 2000000
/-! MVF: loops and comprehensions as readings. -/
namespace MV
open PySem PySem.Spec PyProof.Rows L2
section
variable {K : PySem.W.Frag} {σ : L2.St} {H : Hp} {n : Nat} {tl : TE} {g : TG} {tb : TS} {D : Ends} {ta : TA} {x : V}
/-- a loop over a list that stands still -/
def ForL (g : TG) (tb : TS) (D : Ends) (σ : L2.St) (x : V) (H1 : Hp) : Prop := ∃ (a : Addr) (xs : List V) (Pv : Nat → L2.St → Hp → Prop), x = .ref a ∧ Pv 0 σ H1 ∧
  (∀ i σ H, i ≤ xs.length → Pv i σ H → H a = some (.lst xs)) ∧
  (∀ i x σ H, xs[i]? = some x → Pv i σ H → g x σ H fun σ2 H2 => tb { D with nx := Pv (i + 1), ct := Pv (i + 1), bk := D.nx } σ2 H2) ∧ (∀ σ H, Pv xs.length σ H → D.nx σ H)
def ForLR (K : PySem.W.Frag) (g : TG) (tb : TS) (D : Ends) (σ : L2.St) (x : V) (H1 : Hp) : Prop := ∃ a, x = .ref a ∧ (∃ xs, SqL K H1 a xs) ∧ ∃ W : Nat → Nat → L2.St → Hp → Prop, (∃ m, W 0 m σ H1) ∧ ∀ i m σ H, W i m σ H →
  ((Itl K a).stop i H ∧ D.nx σ H) ∨ ((Itl K a).go i H ∧ ∃ N : L2.St → Hp → Prop, (∀ σ' H', N σ' H' → ∃ m', m' < m ∧ W (i + 1) m' σ' H') ∧ ∀ x H', (Itl K a).yld i H x H' → g x σ H' fun σ2 H2 => tb { D with nx := N, ct := N, bk := D.nx } σ2 H2)
theorem r_forL (q : tl σ H fun x H1 => ForLR K g tb D σ x H1) : tFor (iList K tl) g tb D σ H := q
theorem ForL.ok (q : ForL g tb D σ x H) : ForLR K g tb D σ x H := by
  obtain ⟨a, xs, Pv, rfl, h0, hl, hs, hd⟩ := q
  exact ⟨a, rfl, ⟨xs, SqL.of (hl 0 σ H (Nat.zero_le _) h0)⟩, for_list Pv h0 (fun i σ H h p => SqL.of (hl i σ H h p)) hs hd⟩
/-- range(n) -/
def ForR (g : TG) (tb : TS) (D : Ends) (σ : L2.St) (vs : List V) (H1 : Hp) : Prop := ∃ (n : Nat) (Pv : Nat → L2.St → Hp → Prop), vs = [.int n] ∧ n < 2 ^ 62 ∧ Pv 0 σ H1 ∧
  (∀ i σ H, i < n → Pv i σ H → g (.int i) σ H fun σ2 H2 => tb { D with nx := Pv (i + 1), ct := Pv (i + 1), bk := D.nx } σ2 H2) ∧ (∀ σ H, Pv n σ H → D.nx σ H)
def ForRn (g : TG) (tb : TS) (D : Ends) (σ : L2.St) (vs : List V) (H : Hp) : Prop := ∃ j : Int, vs = [.int j] ∧ -(2 ^ 62) ≤ j ∧ j < 2 ^ 62 ∧ ∃ W : Nat → Nat → L2.St → Hp → Prop, (∃ m, W 0 m σ H) ∧ ∀ i m σ H, W i m σ H →
      ((Itr 0 j.toNat).stop i H ∧ D.nx σ H) ∨ ((Itr 0 j.toNat).go i H ∧ ∃ N : L2.St → Hp → Prop, (∀ σ' H', N σ' H' → ∃ m', m' < m ∧ W (i + 1) m' σ' H') ∧ ∀ x H', (Itr 0 j.toNat).yld i H x H' → g x σ H' fun σ2 H2 => tb { D with nx := N, ct := N, bk := D.nx } σ2 H2)
theorem ForR.ok {vs : List V} (q : ForR g tb D σ vs H) : ForRn g tb D σ vs H := by
  obtain ⟨n, Pv, rfl, hn, h0, hs, hd⟩ := q
  refine ⟨n, rfl, by omega, by omega, for_range (lo := 0) (n := (n : Int).toNat) Pv h0 (fun i σ H h p => ?_) hd⟩
  rw [Int.zero_add]
  exact hs i σ H h p
theorem r_forR (q : ta σ H fun vs H1 => ForRn g tb D σ vs H1) : tFor (iRng1 ta) g tb D σ H := q
theorem r_forRc {i : Int} (q : ForR g tb D σ [.int i] H) : tFor (iRng1 (tCons (tC (.int i)) tNil)) g tb D σ H := ForR.ok q
theorem r_forRv {m : Nat} {v : V} (h : σ[m]? = some (some v)) (q : ForR g tb D σ [v] H) : tFor (iRng1 (tCons (tVar m) tNil)) g tb D σ H := ⟨v, h, ForR.ok q⟩

/-- [te for n in an int tuple], the terms made of ints alone -/
def LcI (K : PySem.W.Frag) (n : Nat) (te : TE) (vs : List Nat) (σ : L2.St) (Q : VK) (v : V) (H1 : Hp) : Prop := ∃ (ns : List Int) (f : Int → Int), IK K H1 v ns ∧ ns.length ≤ 100 ∧
  (∀ m H', m ∈ ns → Stp none H1 H' → wipe ((wipe σ vs).set n (some (.int m))) vs = wipe σ vs ∧ ∀ Q : VK, Q (.int (f m)) H' → te ((wipe σ vs).set n (some (.int m))) H' Q) ∧
  ∀ p H2, Stp none H1 H2 → H2 p = some (.lst ((ns.map f).map V.int)) → H1 p = none → Q (.ref p) H2
theorem LcI.ok {te : TE} {vs : List Nat} {Q : VK} {v : V} (q : LcI K n te vs σ Q v H) : ∃ a, v = .ref a ∧ (∃ xs, SqT K H a xs) ∧ ∀ D, H D = none → ∃ W : Nat → Nat → Hp → Prop, (∃ m, W 0 m (upd H D (.lst []))) ∧ ∀ i m H, W i m H →
  ((Itt K a).stop i H ∧ Q (.ref D) H) ∨ ((Itt K a).go i H ∧ ∃ Nx : Hp → Prop, (∀ H', Nx H' → ∃ m', m' < m ∧ W (i + 1) m' H') ∧ ∀ x H', (Itt K a).yld i H x H' → gName n x (wipe σ vs) H' fun σ2 H2 => wipe σ2 vs = wipe σ vs ∧ tYes σ2 H2 fun b H3 =>
    if b = true then te σ2 H3 fun y H4 => ∃ acc, H4 D = some (.lst acc) ∧ acc.length < sizeLine ∧ Nx (upd H4 D (.lst (acc ++ [y]))) else Nx H3) := by
  obtain ⟨ns, f, ⟨a, rfl, ha⟩, hl, hs, hd⟩ := q
  refine ⟨a, rfl, ⟨_, ha⟩, fun D hD => ?_⟩
  have up : ∀ {H' : Hp} {o : HO}, (∀ b o, H b = some o → H' b = some o) → ∀ b o', H b = some o' → upd H' D o b = some o' := fun s b o' e => by
    rw [upd_ne (ne_of_none e hD)]
    exact s b o' e
  refine lc_tup (fun i H' => (∀ b o, H b = some o → H' b = some o) ∧ H' D = some (.lst (((ns.take i).map f).map V.int))) ⟨up fun _ _ e => e, upd_same⟩
    (fun i H' _ p => SqT.mvS (Stp.of p.1 none) ha) (fun i x H' hx p => ?_) (fun H' p => hd D H' (Stp.of p.1 none) ?_ hD)
  · rw [List.getElem?_map] at hx
    obtain ⟨m, hm, rfl⟩ := Option.map_eq_some_iff.mp hx
    obtain ⟨w1, w2⟩ := hs m H' (List.mem_of_getElem? hm) (Stp.of p.1 none)
    refine ⟨w1, ?_⟩
    refine w2 _ ⟨_, p.2, ?_, up p.1, ?_⟩
    · rw [List.length_map, List.length_map, List.length_take]
      exact Nat.lt_of_le_of_lt (Nat.le_trans (Nat.min_le_right _ _) hl) (by decide)
    · rw [upd_same]
      have : i < ns.length := (List.getElem?_eq_some_iff.mp hm).1
      rw [List.take_succ, hm]
      simp
  · have e := p.2
    rw [List.length_map, List.take_length] at e
    exact e
theorem r_lcV {m : Nat} {te : TE} {vs : List Nat} {Q : VK} {v : V} (h : σ[m]? = some (some v)) (q : LcI K n te vs σ Q v H) : tLc (iTup K (tVar m)) (gName n) tYes te vs σ H Q := ⟨v, h, q.ok⟩
theorem r_nX {p : Prop} [Decidable p] {A B : Prop} (h : p) (q : B) : if (!decide p) = true then A else B := by
  rw [if_neg (by simp [h])]; exact q
theorem r_pX {p : Prop} [Decidable p] {A B : Prop} (h : p) (q : A) : if decide p = true then A else B := by
  rw [if_pos (by simp [h])]; exact q
theorem r_pN {p : Prop} [Decidable p] {A B : Prop} (h : ¬ p) (q : B) : if decide p = true then A else B := by
  rw [if_neg (by simp [h])]; exact q
end
theorem byTxt {α : Type} {p : α → Prop} {q : Prop} (h : ∃ a, p a) (k : ∀ a, p a → q) : q := (let ⟨a, z⟩ := h; k a z)
end MV

set_option Elab.async false
set_option linter.all false
set_option maxRecDepth 100000
set_option maxHeartbeats 2000000
/-! MVG: repr of data (none, bools, ints, texts, lists, tuples), where no repr is under way; how long such a text may be. -/
namespace MV
open PySem PySem.Spec PyProof.Rows L2
mutual
def bnd : PyData → Nat
  | .none => 4
  | .bool _ => 5
  | .int _ => 2000
  | .str x => (PySem.reprText x).length
  | .list ds => 2 + bndAll ds
  | .tuple ds => 3 + bndAll ds
  | .dict _ => 0
def bndAll : List PyData → Nat
  | [] => 0
  | d :: ds => bnd d + 2 + bndAll ds
end
theorem len_join : ∀ ts : List Str, (Str.join ", " ts).length ≤ piled ts
  | [] => by decide
  | t :: r => by
    have := join_length_add (t :: r) (by simp)
    omega
theorem len_list (ts : List Str) : (listText ts).length ≤ piled ts + 2 := by
  cases ts with
  | nil => decide
  | cons t r =>
    have h := textFrom_length_pos r 1 (("[" : Str) ++ (if (0 : Nat) > 0 then ", " else "" : String) ++ t) (Nat.succ_pos 0)
    have e : ((("[" : Str) ++ (if (0 : Nat) > 0 then ", " else "" : String) ++ t)).length = 1 + t.length := by
      rw [strLen_append, strLen_append]; rfl
    have hX : (listText (t :: r)).length = (textFrom 0 "[" (t :: r)).length + 1 := by
      unfold listText
      rw [strLen_append]; rfl
    have hY : textFrom 0 "[" (t :: r) = textFrom 1 (("[" : Str) ++ (if (0 : Nat) > 0 then ", " else "" : String) ++ t) r := rfl
    rw [hX, hY, h, e, piled_cons]
    omega
theorem len_tuple (ts : List Str) : (tupleText ts).length ≤ piled ts + 3 := by
  have := len_join ts
  unfold tupleText
  rw [strLen_append, strLen_append]
  have e1 : ((("(" : String) : Str)).length = 1 := rfl
  have e3 : (((if ts.length == 1 then ",)" else ")" : String) : Str)).length ≤ 2 := by split <;> decide
  rw [e1]
  omega
mutual
theorem bnd_ok : ∀ d : PyData, d.showable = true → d.hasDict = false → d.shown.length ≤ bnd d
  | .none, _, _ => by decide
  | .bool b, _, _ => by cases b <;> decide
  | .int i, h, _ => by
    rw [PyData.showable] at h
    have := PySem.int_text_length_le (a := i) (k := 1920) (by decide) (of_decide_eq_true h)
    rw [PyData.shown, bnd]
    have e : (PySem.Str.ofString (toString i)).length = (toString i).length := by exact PySem.ofString_length _
    omega
  | .str x, _, _ => by rw [PyData.shown, bnd]; exact Nat.le_refl _
  | .list ds, h, g => by
    rw [PyData.showable] at h
    rw [PyData.hasDict] at g
    have := bndAll_ok ds h g
    have := len_list (PyData.shownAll ds)
    rw [PyData.shown, bnd]
    omega
  | .tuple ds, h, g => by
    rw [PyData.showable] at h
    rw [PyData.hasDict] at g
    have := bndAll_ok ds h g
    have := len_tuple (PyData.shownAll ds)
    rw [PyData.shown, bnd]
    omega
  | .dict _, _, g => by rw [PyData.hasDict] at g; cases g
theorem bndAll_ok : ∀ ds : List PyData, PyData.showableAll ds = true → PyData.hasDictAll ds = false → piled (PyData.shownAll ds) ≤ bndAll ds
  | [], _, _ => by rw [PyData.shownAll]; exact Nat.zero_le _
  | d :: r, h, g => by
    rw [PyData.showableAll, Bool.and_eq_true] at h
    rw [PyData.hasDictAll, Bool.or_eq_false_iff] at g
    have h1 := bnd_ok d h.1 g.1
    have h2 := bndAll_ok r h.2 g.2
    rw [PyData.shownAll, piled_cons, bndAll]
    omega
end
/-- data that can be shown: ints of at most 500 digits, texts and depth within bounds -/
structure Shw (d : PyData) : Prop where
  sh : d.showable = true
  nd : d.hasDict = false
  dp : d.depth ≤ 50
  ln : bnd d ≤ sizeLine
def rRepr (K : PySem.W.Frag) : List V → Hp → VK → Prop := fun xs H Q => ∃ x d, xs = [x] ∧ Dp K H x d ∧ Shw d ∧ Q (.str d.shown) H
theorem callg_repr {X : Cx} (hg : X.A.guards = some []) (hu : X.A.units + 64 < cLine) : CallR X (.builtin "repr") (rRepr X.K) := by
  intro pins s σ H xs us Q I r h
  obtain ⟨x, d, rfl, hd, S, q⟩ := h
  obtain ⟨as, hr⟩ : ∃ as, us = [as] ∧ RelV x as := by
    cases r with
    | cons r rr => cases rr; exact ⟨_, rfl, r⟩
  obtain ⟨rfl, rv⟩ := hr
  obtain ⟨ps, R⟩ := Dp.reads I d x as hd rv
  have hl : d.shown.length ≤ sizeLine := Nat.le_trans (bnd_ok d S.sh S.nd) S.ln
  have fin : ∀ (h' : Heap) (u tk : Nat), (∀ b o, s.heap.get? b = some o → h'.get? b = some o) → EP X pins σ Q (.str d.shown u) { s with heap := h', toks := tk } :=
    fun h' u tk hk => ⟨.str d.shown, H, I.kept hk, ⟨u, rfl⟩, q⟩
  have dp := S.dp
  cases R with
  | none => exact PySem.P.repr_of_none (fin _ _ _ fun _ _ e => e)
  | bool b => exact PySem.P.repr_of_bool (by have := fin s.heap s.toks (s.toks + 1) fun _ _ e => e; cases b <;> exact this)
  | int i t => exact PySem.P.repr_of_int (by have z := S.sh; rw [PyData.showable] at z; exact of_decide_eq_true z) (fin _ _ _ fun _ _ e => e)
  | str x t => exact PySem.P.repr_of_str (fin _ _ _ fun _ _ e => e) hl
  | list h1 h2 h3 h4 => exact repr_of_reads' (.list h1 h2 h3 h4) S.sh (PyData.noDict_hsm S.nd) hg (by omega) (fun _ _ e => e) (fun h' u tk hk => fin h' u tk hk) hl
  | tuple h1 h2 h3 h4 => exact repr_of_reads' (.tuple h1 h2 h3 h4) S.sh (PyData.noDict_hsm S.nd) hg (by omega) (fun _ _ e => e) (fun h' u tk hk => fin h' u tk hk) hl
  | dict _ _ _ _ _ => exact absurd S.nd (by rw [PyData.hasDict]; decide)
end MV

set_option Elab.async false
set_option linter.all false
set_option maxRecDepth 100000
set_option maxHeartbeats 2000000
/-! MVH: own operators of two instances of a class, own ~, own calls. -/
namespace MV
open PySem PySem.Spec PySem.Calls PyProof.Rows L2
section
variable {X : Cx} {CX : CXT} {k i : Nat} {f C : Addr} {fd : FuncData} {ps : List Str} {sp : Sp} {E : XK} {x : Str} {p pos : Pos} {e : Expr} {es : List Expr} {t : TA}
/-- the class C has a def of that special name -/
structure HasS (K : PySem.W.Frag) (C f : Addr) (n : Str) : Prop where
  at_ : PySem.W.findIn K (.ref C) n = some (some (.ref f))
  fn : PySem.W.isFn K (.ref f) = true
def rOwnBin (K : PySem.W.Frag) (C : Addr) (sp : Sp) (E : XK) : R2 := fun x y H Q => ∃ a dx fs, x = .ref a ∧ H a = some (.ins C dx fs) ∧ TyX K H y (.ref C) ∧ sp [x, y] H Q E
theorem opg_bin {op : Operator} (h : HasS X.K C f (PySem.dunder op.info.2)) (hc : PySem.W.selfFirst X.K C = true) (F : FnG X.prog X.w X.K X.mg X.base CX k f fd ps sp) (hr : Room k X.A) (hg : X.A.guards = some [])
    (hb : Binds X.K fd ps []) (hx : Passes CX X E) : OpR X (binaryOp op) (rOwnBin X.K C sp E) := by
  intro pins s σ H x y v u Q I rx ry q
  obtain ⟨a, dx, fs, rfl, ea, ty, q⟩ := q
  cases rx
  obtain ⟨mA, O, _⟩ := ins_get I.hok ea
  obtain ⟨od, J, _⟩ := O.look
  obtain ⟨m, hF⟩ := I.fr
  obtain ⟨P, kx, hP, _⟩ := kit_of I ry ty
  refine PySem.W.binop_K hF I.ok.mod.kin J (kx.ty _ _ I.kIn hP) hc h.at_ h.fn (thn (callG (us := [.ref a, u]) (vs := [.ref a, y]) F hr hg hb .nil hx I (.cons rfl (.cons ry .nil)) q) ?_)
  rintro z s' ⟨v', H', I', rv, q'⟩
  have fin : EP X pins σ Q z s' := ⟨v', H', I', rv, q'⟩
  cases z <;> first | exact fin | (cases v' <;> first | exact False.elim rv | (obtain ⟨_, h⟩ := rv; cases h) | cases rv)
def rOwnInv (C : Addr) (sp : Sp) (E : XK) : V → Hp → VK → Prop := fun x H Q => ∃ a dx fs, x = .ref a ∧ H a = some (.ins C dx fs) ∧ sp [x] H Q E
theorem ung_inv (h : HasS X.K C f "__invert__") (F : FnG X.prog X.w X.K X.mg X.base CX k f fd ps sp) (hr : Room k X.A) (hg : X.A.guards = some [])
    (hb : Binds X.K fd ps []) (hx : Passes CX X E) : UnR X (unaryOp .Invert) (rOwnInv C sp E) := by
  intro pins s σ H x v Q I rx q
  obtain ⟨a, dx, fs, rfl, ea, q⟩ := q
  cases rx
  obtain ⟨mA, O, _⟩ := ins_get I.hok ea
  obtain ⟨od, J, _⟩ := O.look
  obtain ⟨m, hF⟩ := I.fr
  exact PySem.W.ksp_inv hF I.ok.mod.kin J h.at_ h.fn (callG (us := [.ref a]) (vs := [.ref a]) F hr hg hb .nil hx I (.cons rfl .nil) q)
theorem instPlain {C dx : Addr} : (PySem.W.instObj C dx).data = .plain := rfl
theorem keeper_of {M : Model} {h : Heap} {a : Addr} {o : Obj} (e : h.get? a = some o) (d : o.data = .plain) : PySem.W.Looks M h (keeperOf (.ref a)) .caller := by
  refine PySem.W.Looks.andThen (.ld (part := none) e) ?_
  rw [d]
  exact .now
/-- a call of an instance that stays where it is while the arguments are made -/
theorem callInst {M : Model} {A : Around} {z : Value → Shared → Prop} {s : Shared} {a : Addr} {o : Obj} {Q : Value → Shared → Prop} {ls : List (Bool × Sem Value)} {ks : List (Option Str × Sem Value)}
    (no : (ls.any (·.1) || ks.any (·.1.isNone)) = false) (d : o.data = .plain)
    (run : wpAny M A (evalArgs (.ref a) true ls ks) (fun g s1 => s1.heap.get? a = some o ∧ wpAny M A (call (.ref a) g.pos g.kw) Q z s1) z s) :
    wpAny M A (callWith pos (.ref a) [] ls ks) Q z s := by
  unfold callWith
  refine wpAny_bind (wpAny_holding (thn run ?_))
  intro g s1 w1
  obtain ⟨e1, w1⟩ := w1
  refine wpAny_bind (wpAny_standAt ?_)
  rw [no]
  refine wpAny_bind ((keeper_of e1 d).here (wpAny_bind (thn (wpAny_operateT w1) ?_)))
  intro r s2 q
  exact wpAny_bind (wpAny_holding (wpAny_point (wpAny_pure q)))
/-- x(..), x a local that holds an instance whose class has a def __call__ -/
def tCallI (i : Nat) (C : Addr) (sp : Sp) (E : XK) (t : TA) : TE := fun σ H Q => ∃ v a dx fs, σ[i]? = some (some v) ∧ v = .ref a ∧ H a = some (.ins C dx fs) ∧ t σ H fun vs H1 => (∃ fs', H1 a = some (.ins C dx fs')) ∧ sp (v :: vs) H1 Q E
theorem peg_calli (h : HasS X.K C f "__call__") (hfn : PySem.W.fnIn X.K f = true) (F : FnG X.prog X.w X.K X.mg X.base CX k f fd ps sp) (hr : Room k X.A) (hg : X.A.guards = some [])
    (hb : Binds X.K fd ps []) (hx : Passes CX X E) (hN : X.N[i]? = some x) (hv : Vis X.env.scope x) (ha : PA X (e :: es) t)
    (hdb : (x == ("__debug__" : Str)) = false := by decide) (hcd : (x == ("__classdict__" : Str)) = false := by decide)
    (he : starEach (e :: es) X.env = (false, eval e X.env) :: starEach es X.env := by rfl) (hpl : (backTo pos (starEach es X.env)).any (·.1) = false := by rfl) :
    PE X (.Call (.Name x p) (e :: es) [] pos) (tCallI i C sp E t) := by
  refine ⟨fun pins s σ H Q I h' => ?_⟩
  obtain ⟨v, a, dx, fs, hs, rfl, ea, ht⟩ := h'
  refine wpAny_Call_Name_kw (thn ((pe_var (pos := p) hN hv hdb hcd).run pins s σ H (fun v H1 => v = .ref a ∧ H1 = H) I ⟨.ref a, hs, rfl, rfl⟩) fun u s1 ⟨v, H1, I1, r1, q1⟩ => ?_)
  obtain ⟨rfl, rfl⟩ := q1
  cases r1
  obtain ⟨mA, O, _⟩ := ins_get I1.hok ea
  obtain ⟨od, J, _⟩ := O.look
  rw [he]
  refine callInst (o := PySem.W.instObj C dx) (by show ((false || (backTo pos (starEach es X.env)).any (·.1)) || false) = false; rw [hpl]; rfl) rfl (evalArgs_plain ?_)
  suffices go : wpAny (model X.prog X.w) X.A (spliced (backTo pos (starEach (e :: es) X.env))) (fun vs s' => s'.heap.get? a = some (PySem.W.instObj C dx) ∧ wpAny (model X.prog X.w) X.A (call (.ref a) vs) (EP X pins σ Q) X.xe s') X.xe s1 by
    rw [he] at go
    exact go
  refine thn (ha.run pos pins s1 σ _ _ I1 ht) fun us s2 ⟨vs, H2, I2, r, ⟨fs2, e2⟩, q⟩ => ?_
  obtain ⟨mA2, O2, _⟩ := ins_get I2.hok e2
  obtain ⟨od2, J2, _⟩ := O2.look
  refine ⟨J2.at_, wpAny_call ?_⟩
  refine PySem.W.kco_code I2.kIn J2 rfl h.at_ h.fn hfn ?_
  refine codeAny_mono (runG (us := .ref a :: us) (vs := .ref a :: vs) (Q := Q) F hr hg I2.env0 hb .nil hx I2 (.cons rfl r) ?_) fun z s' hq => ?_
  · rw [List.append_nil]
    exact q
  · match z, hq with
    | .ok (.ret _), hq => exact hq
    | .error _, hq => exact hq
theorem r_cval {K : PySem.W.Frag} {σ : L2.St} {H : Hp} {Q : VK} {ta : TE} {fn : Str} (q : ta σ H fun x H1 => ∃ C mc v u, x = .ref C ∧ ClX.CRead K C mc ∧ ClX.CVal K C mc fn v u ∧ Q v H1) : ClX.tCVal K ta fn σ H Q := q
theorem r_isiSS {K : PySem.W.Frag} {H : Hp} {Q : VK} {z : Str} (q : Q (.bl true) H) : rIsi K [.str z, .ty "str"] H Q := r_isi (.ty _) (.base (.str z)) (kit_ty (by decide +kernel)) q
end
end MV

set_option Elab.async false
set_option linter.all false
set_option maxRecDepth 100000
set_option maxHeartbeats 2000000
/-! MVI: static methods by their class; the keys of a dict of the text; a comprehension over known items. -/
namespace MV
open PySem PySem.Spec PySem.Calls PyProof.Rows L2
section
variable {X : Cx} {CX : CXT} {k : Nat} {f C p : Addr} {fd : FuncData} {ps : List Str} {sp : Sp} {dvs : List V} {ds : List Value} {E : XK} {m : Str} {pos apos : Pos} {o e : Expr} {es : List Expr} {ta : TE} {t : TA} {mc : Value}
/-- C.m is a static method: its record at p, its def at f -/
structure SMet (K : PySem.W.Frag) (C : Addr) (mc : Value) (m : Str) (p f : Addr) : Prop where
  rd : ClX.CRead K C mc
  at_ : PySem.W.findCls K (.ref C) mc m = some (.get (.builtin "staticmethod.__get__") (.ref p) .none (.ref C))
  rc : ∃ rest, PySem.W.recIn K p "staticmethod" = some (.ref f :: rest)
  kp : PySem.W.keepIn K (.ref f) = true
def tSMeth (C : Addr) (sp : Sp) (dvs : List V) (E : XK) (ta : TE) (t : TA) : TE := fun σ H Q => ta σ H fun x H1 => x = .ref C ∧ t σ H1 fun vs H2 => sp (vs ++ dvs) H2 Q E
theorem peg_smeth {pl : Sem Bool} (he : PE X o ta) (S : SMet X.K C mc m p f)
    (F : FnG X.prog X.w X.K X.mg X.base CX k f fd ps sp) (hr : Room k X.A) (hg : X.A.guards = some [])
    (hb : Binds X.K fd ps ds) (hd : Vals dvs ds) (hx : Passes CX X E) (ha : PA X (e :: es) t)
    (hst : starEach (e :: es) X.env = (false, eval e X.env) :: starEach es X.env := by rfl)
    (hpl : (backTo pos (starEach es X.env)).any (·.1) = false := by rfl)
    (ht : eval (.Call (.Attribute o m apos) (e :: es) [] pos) X.env = (do
      let ov ← eval o X.env
      standAt apos.atName
      let (g, first) ← holding [ov] (getMethod ov m pl)
      callWith pos g first (backTo pos (starEach (e :: es) X.env)) (backToKw pos (keywordEach [] X.env))) := by rfl) :
    PE X (.Call (.Attribute o m apos) (e :: es) [] pos) (tSMeth C sp dvs E ta t) := by
  constructor
  intro pins s σ H Q I h
  refine PySem.W.methodCall_KW (pl := pl) (thn (he.run pins s σ H _ I h) ?_) ht
  rintro u s1 ⟨_, H1, I1, rx, rfl, q⟩
  cases rx
  obtain ⟨rest, hrec⟩ := S.rc
  refine PySem.W.method_cls I1.kIn S.rd.ga (PySem.W.cls_bind I1.kIn S.rd.rd S.at_ (wpAny_call (PySem.W.sm_get (s := { s1 with toks := s1.toks + 1 }) I1.kIn hrec (PySem.W.handed_on rfl ?_))))
  have I2 := I1.tok (s1.toks + 1)
  refine PySem.W.callWith_K (first := []) (h₀ := X.base) I.ok.mod.kin S.kp ?_ hst hpl
  refine thn (ha.run pos pins _ σ H1 _ I2 q) fun us s2 ⟨vs, H2, I3, r, q2⟩ => ⟨I3.kIn, ?_⟩
  exact callG F hr hg hb hd hx I3 r q2
end

/-! ### the keys of a dict of the text -/
def KKeys (K : PySem.W.Frag) (d : Addr) (xs : List V) : Prop := ∃ (es : Array DictEntry) (n : Nat), K.lookup d = some ⟨.type "dict", none, .dict es n, #[]⟩ ∧ (d == sysModules) = false ∧ Vals xs (es.toList.map (·.key))
/-- known items, one behind another -/
def Itx (xs : List V) : It := ⟨fun i _ => i < xs.length, fun i H x H' => H' = H ∧ xs[i]? = some x, fun i _ => xs.length ≤ i⟩
def iKK (K : PySem.W.Frag) (td : TE) : TI := fun σ H R => td σ H fun x H1 => ∃ d xs, x = .ref d ∧ KKeys K d xs ∧ R (Itx xs) H1
theorem vals_at {xs : List V} {us : List Value} (r : Vals xs us) {i : Nat} {x : V} (h : xs[i]? = some x) : ∃ u, us[i]? = some u ∧ RelV x u := by
  induction r generalizing i with
  | nil => cases h
  | cons r _ ih =>
    cases i with
    | zero => cases h; exact ⟨_, rfl, r⟩
    | succ i => exact ih h
theorem turn_kk {P : Program} {w : World} {K : PySem.W.Frag} {tg : Expr} {d : Addr} {xs : List V} {es : Array DictEntry} {n : Nat} (it : Addr) (hl : K.lookup d = some ⟨.type "dict", none, .dict es n, #[]⟩)
    (r : Vals xs (es.toList.map (·.key))) : Turn P w K tg (Itx xs) [it] it (fun i h => h.IsKeyIter it d i xs.length n) where
  mem := List.mem_cons_self
  obj := by
    intro i h st b hb
    cases List.mem_singleton.mp hb
    obtain ⟨oi, e, c, dd⟩ := st
    exact ⟨oi, e, fun v z => by rw [dd] at z; cases z⟩
  keep := fun i h h' st k => st.at fun oi e => k it List.mem_cons_self oi e
  item := by
    intro X hP hw hK hc i pins s σ H E I hf st hg
    subst hP hw hK
    have hg : i < xs.length := hg
    obtain ⟨f0, f1, f2, f3, f4, f5⟩ := hf it List.mem_cons_self
    obtain ⟨x, hx⟩ : ∃ x, xs[i]? = some x := ⟨xs[i], List.getElem?_eq_getElem hg⟩
    obtain ⟨u, hu, ru⟩ := vals_at r hx
    rw [List.getElem?_map] at hu
    obtain ⟨en, hen, rfl⟩ := Option.map_eq_some_iff.mp hu
    have hsz : es.size = xs.length := by
      have := Paired.length r
      rw [List.length_map, Array.length_toList] at this
      exact this.symm
    refine next_key_item st (I.kIn _ _ hl) rfl hsz (by rw [← Array.getElem?_toList]; exact hen) fun h' st' sb => ?_
    have I1 : Inv X pins σ H { s with heap := h' } := I.turned (t' := s.toks) (fun b ob hb e => (sb.2 b hb).trans e) f0 f1 f3 f4 f5
    obtain ⟨oi, e, c, dd⟩ := id st'
    exact ⟨_, rfl, go_of (s := { s with heap := h' }) e c dd (by decide) ⟨x, H, I1, ru, ⟨rfl, hx⟩, st', fun b hb => (hf b hb).1⟩⟩
  done := by
    intro X hP hw hK hc i pins s σ H E I hf st hg
    subst hP hw hK
    have hg : xs.length ≤ i := hg
    obtain ⟨f0, f1, f2, f3, f4, f5⟩ := hf it List.mem_cons_self
    have hsz : es.size = xs.length := by
      have := Paired.length r
      rw [List.length_map, Array.length_toList] at this
      exact this.symm
    exact next_key_end (I.ok.hd hc) st (I.kIn _ _ hl) rfl hsz hg fun h' eb => ⟨rfl, I.turned (t' := s.toks) (fun b ob hb e => eb b ob hb e) f0 f1 f3 f4 f5⟩
  self := fun A i s Q E st h => wpAny_pyIter_keyiter st h
theorem pi_kk {X : Cx} {tg e : Expr} {td : TE} (he : PE X e td) : PI X tg e (iKK X.K td) := by
  constructor
  intro pins s σ H R I h
  refine thn (he.run pins s σ H _ I h) ?_
  rintro u s1 ⟨_, H1, I1, rx, d, xs, rfl, ⟨es, n, hl, hs, r⟩, q⟩
  cases rx
  have hsz : es.size = xs.length := by
    have := Paired.length r
    rw [List.length_map, Array.length_toList] at this
    exact this.symm
  refine iter_keys hs (I1.kIn _ _ hl) ⟨rfl, rfl, rfl⟩ rfl (pi_one (tk := s1.toks) I1 _ (turn_kk _ hl r) ⟨_, Heap.get?_push_size _ rfl, rfl, ?_⟩ q)
  rw [hsz]
  rfl

/-! ### [te for n in known items if tt] -/
theorem lc_known {xs : List V} {g : TG} {tt : TT} {te : TE} {vs : List Nat} {σ : L2.St} {H1 : Hp} {D : Addr} {Qd : Hp → Prop} (Pv : Nat → Hp → Prop) (h0 : Pv 0 (upd H1 D (.lst [])))
    (hs : ∀ i x H, xs[i]? = some x → Pv i H → g x (wipe σ vs) H fun σ2 H2 => wipe σ2 vs = wipe σ vs ∧ tt σ2 H2 fun b H3 =>
      if b = true then te σ2 H3 fun y H4 => ∃ acc, H4 D = some (.lst acc) ∧ acc.length < sizeLine ∧ Pv (i + 1) (upd H4 D (.lst (acc ++ [y]))) else Pv (i + 1) H3) (hd : ∀ H, Pv xs.length H → Qd H) :
    ∃ W : Nat → Nat → Hp → Prop, (∃ m, W 0 m (upd H1 D (.lst []))) ∧ ∀ i m H, W i m H →
      ((Itx xs).stop i H ∧ Qd H) ∨ ((Itx xs).go i H ∧ ∃ Nx : Hp → Prop, (∀ H', Nx H' → ∃ m', m' < m ∧ W (i + 1) m' H') ∧ ∀ x H', (Itx xs).yld i H x H' → g x (wipe σ vs) H' fun σ2 H2 => wipe σ2 vs = wipe σ vs ∧ tt σ2 H2 fun b H3 =>
        if b = true then te σ2 H3 fun y H4 => ∃ acc, H4 D = some (.lst acc) ∧ acc.length < sizeLine ∧ Nx (upd H4 D (.lst (acc ++ [y]))) else Nx H3) := by
  refine ⟨fun i m H => m = xs.length - i ∧ i ≤ xs.length ∧ Pv i H, ⟨_, rfl, Nat.zero_le _, h0⟩, ?_⟩
  rintro i m H ⟨rfl, hi, p⟩
  by_cases hlt : i < xs.length
  · refine .inr ⟨hlt, Pv (i + 1), fun H' p' => ⟨_, ?_, rfl, hlt, p'⟩, ?_⟩
    · omega
    · rintro x H' ⟨rfl, hx⟩
      exact hs i x _ hx p
  · have e : i = xs.length := by omega
    subst e
    exact .inl ⟨Nat.le_refl _, hd H p⟩
end MV

set_option Elab.async false
set_option linter.all false
set_option maxRecDepth 100000
set_option maxHeartbeats 2000000
/-! MVJ: defs with defaults; tuples and dicts of the text as facts. -/
namespace MV
open PySem PySem.Spec PySem.Calls PyProof.Rows L2
section
variable {P : Program} {w : World} {K : PySem.W.Frag} {mg : Str → Option Value} {base : Heap} {CX : CXT} {k : Nat} {f : Addr} {fd : FuncData} {ps : List Str} {sp : Sp}
  {x qual : Str} {params : Arguments} {body : List Stmt} {scope : Scope} {dvs : List V} {kws : List (Str × V)} {N : List Str}
/-- the rule of a def with defaults -/
theorem FunD.g (F : FunD K x qual params body scope dvs kws f fd) (S : FnScope N ps scope)
    (ln : ∀ vs H Q E, sp vs H Q E → vs.length = ps.length)
    (hb : ∀ (cdv : Value) (A : Around) (outer : List Env) (s : Shared) (H : Hp) (vs : List V) (Q : VK) (E : XK),
      Room k (A.deeper (envOfC qual scope s.heap.objs.size f cdv)) →
      (A.deeper (envOfC qual scope s.heap.objs.size f cdv)).guards = some [] → sp vs H Q E →
      ∃ t, PSs (cxOf CX P w K mg base N qual scope f cdv A outer s H E) body t ∧
        t { nx := fun _ H' => Q .non H', rt := Q } (start N vs) H) :
    FnG P w K mg base CX (k + 1) f fd ps sp := by
  obtain ⟨oc, od, dV, kV, doc, pm, an, cdv, ct, osl, rfl, lk, hcd, _, _⟩ := F.ex
  exact fng_of lk hcd S ln fun A outer s H vs Q E hr hg h => hb cdv A outer s H vs Q E hr hg h
end
/-- a tuple of the text -/
def KT (K : PySem.W.Frag) (p : Addr) (xs : List V) : Prop := ∃ (od : Option Addr) (its : Array Value) (n : Nat) (sl : Array (Option Value)), K.lookup p = some ⟨.type "tuple", od, .seq its n, sl⟩ ∧ its.size ≤ sizeLine ∧ Vals xs its.toList
theorem KT.t {K : PySem.W.Frag} {H : Hp} {p : Addr} {xs : List V} (h : KT K p xs) : SqT K H p xs := (let ⟨_, its, n, _, h1, h2, h3⟩ := h; .inr ⟨_, its, n, h1, rfl, rfl, h2, h3⟩)
theorem KT.k {K : PySem.W.Frag} {H : Hp} {p : Addr} {ns : List Int} (h : KT K p (ns.map V.int)) : IK K H (.ref p) ns := ⟨p, rfl, h.t⟩
/-- == of data at any depth, where the frame's K is given -/
theorem op_eqDk {X : Cx} {K : PySem.W.Frag} (e : X.K = K) (hu : X.A.units + 64 < cLine) : OpR X (compareOp .Eq) (rEqD K) := e ▸ op_eqD hu
theorem op_neDk {X : Cx} {K : PySem.W.Frag} (e : X.K = K) (hu : X.A.units + 64 < cLine) : OpR X (compareOp .NotEq) (rNeD K) := e ▸ op_neD hu
theorem kt_mk {K : PySem.W.Frag} {p : Addr} {xs : List V} {od : Option Addr} {its : Array Value} {n : Nat} {sl : Array (Option Value)} (h : K.lookup p = some ⟨.type "tuple", od, .seq its n, sl⟩) (z : its.size ≤ sizeLine) (v : Vals xs its.toList) : KT K p xs :=
  ⟨od, its, n, sl, h, z, v⟩
theorem kd_mk {K : PySem.W.Frag} {w : World} {a : Addr} {x : Str} {v : V} {es : Array DictEntry} {n : Nat} {u : Value} (h : K.lookup a = some ⟨.type "dict", none, .dict es n, #[]⟩) (l : PySem.W.KeysLit w.params es.toList)
    (e : PySem.W.nsIn K a x = some (some u)) (r : RelV v u) : KDct K w a x v := ⟨es, n, u, h, l, e, r⟩
theorem kk_mk {K : PySem.W.Frag} {d : Addr} {xs : List V} {es : Array DictEntry} {n : Nat} (h : K.lookup d = some ⟨.type "dict", none, .dict es n, #[]⟩) (e : (d == sysModules) = false) (r : Vals xs (es.toList.map (·.key))) : KKeys K d xs := ⟨es, n, h, e, r⟩
theorem binds_all {K : PySem.W.Frag} {fd : FuncData} {ps : List Str} (h : ∃ ds, Vals [] ds ∧ Binds K fd ps ds) : Binds K fd ps [] := by
  obtain ⟨ds, v, b⟩ := h
  cases v
  exact b
end MV

set_option Elab.async false
set_option linter.all false
set_option maxRecDepth 100000
set_option maxHeartbeats 2000000
/-! MVK: repr by an own __repr__; {x!r} of data. -/
namespace MV
open PySem PySem.Spec PySem.Calls PyProof.Rows L2
theorem ix_seqk {X : Cx} {K : PySem.W.Frag} (e : X.K = K) : IxR X (rIx K) := e ▸ ix_seq
section
variable {X : Cx} {CX : CXT} {k : Nat} {f C : Addr} {fd : FuncData} {ps : List Str} {sp : Sp} {E : XK} {e : Expr} {te : TE} {pos : Pos}
/-- repr(x), x an instance whose class has a def __repr__ -/
def rOwnRepr (C : Addr) (sp : Sp) (E : XK) : List V → Hp → VK → Prop := fun xs H Q => ∃ a dx fs, xs = [.ref a] ∧ H a = some (.ins C dx fs) ∧ sp xs H (fun z H' => ∃ t, z = .str t ∧ Q (.str t) H') E
theorem callg_own {K : PySem.W.Frag} (h : HasS X.K C f "__repr__") (F : FnG X.prog X.w X.K X.mg X.base CX k f fd ps sp) (hr : Room (k + 1) X.A) (hg : X.A.guards = some [])
    (hb : Binds X.K fd ps []) (hx : Passes CX X E) : CallR X (.builtin "repr") (rOwnRepr C sp E) := by
  intro pins s σ H xs us Q I r q
  obtain ⟨a, dx, fs, rfl, ea, q⟩ := q
  obtain ⟨u, rfl, rv⟩ : ∃ u, us = [u] ∧ RelV (.ref a) u := by
    cases r with
    | cons r rr => cases rr; exact ⟨_, rfl, r⟩
  cases rv
  obtain ⟨mA, O, _⟩ := ins_get I.hok ea
  obtain ⟨od, J, _⟩ := O.look
  obtain ⟨m, hF⟩ := I.fr
  have hu : X.A.in1.units < cLine := by
    have := hr.un
    show X.A.units + 1 < cLine
    omega
  refine PySem.W.repr_K hu hF I.ok.mod.kin J h.at_ h.fn (wpAny_call ?_)
  refine codeAny_mono (runG (us := [.ref a]) (vs := [.ref a]) F hr.in1 hg I.env0.in1 hb .nil hx I (.cons rfl .nil) q) fun z s' hq => ?_
  match z, hq with
  | .error _, hq => exact hq
  | .ok (.ret w), ⟨v, H', I', rv, t, ev, q'⟩ =>
    subst ev
    obtain ⟨tk, rfl⟩ := rv
    exact ⟨.str t, H', I', ⟨tk, rfl⟩, q'⟩
/-- {x!r} of data that stands at an address -/
def tFmtD (K : PySem.W.Frag) (te : TE) : TE := fun σ H Q => te σ H fun x H1 => ∃ a d, x = .ref a ∧ Dp K H1 x d ∧ Shw d ∧ Q (.str d.shown) H1
theorem pe_fmtD (hg : X.A.guards = some []) (hu : X.A.units + 64 < cLine) (he : PE X e te) : PE X (.FormattedValue e 114 none pos) (tFmtD X.K te) := by
  constructor
  intro pins s σ H Q I h
  refine wpAny_FormattedValue_repr (thn (he.run pins s σ H _ I h) ?_)
  rintro v s1 ⟨_, H1, I1, rv, a, d, rfl, hd, S, q⟩
  obtain ⟨as, R⟩ := Dp.reads I1 d _ v hd rv
  cases rv
  have dp := S.dp
  have hl : d.shown.length ≤ sizeLine := Nat.le_trans (bnd_ok d S.sh S.nd) S.ln
  refine pyReprObj_of_reads R S.sh (PyData.noDict_hsm S.nd) hg (by omega) (fun _ _ e => e) (fun h' u tk hk => ?_) hl
  have I2 : Inv X pins σ H1 { s1 with heap := h', toks := tk } := I1.kept hk
  exact wpAny_formatField_str ⟨.str d.shown, H1, I2, ⟨_, rfl⟩, q⟩ ⟨.str d.shown, H1, I2.tok _, ⟨_, rfl⟩, q⟩ hl
end
end MV

set_option Elab.async false
set_option linter.all false
set_option maxRecDepth 100000
set_option maxHeartbeats 2000000
/-! MVL: comprehensions over a list as readings; pairs unpacked; data of texts. -/
namespace MV
open PySem PySem.Spec PySem.Calls PyProof.Rows L2
section
variable {K : PySem.W.Frag} {σ : L2.St} {H H1 : Hp} {n : Nat} {tl te : TE} {tt : TT} {g : TG} {vs : List Nat} {Q : VK} {x : V}
/-- [te for .. in x if tt], x a list that is already read -/
def LcLR (K : PySem.W.Frag) (g : TG) (tt : TT) (te : TE) (vs : List Nat) (σ : L2.St) (Q : VK) (x : V) (H1 : Hp) : Prop := ∃ a, x = .ref a ∧ (∃ xs, SqL K H1 a xs) ∧ ∀ D, H1 D = none → ∃ W : Nat → Nat → Hp → Prop, (∃ m, W 0 m (upd H1 D (.lst []))) ∧ ∀ i m H, W i m H →
  ((Itl K a).stop i H ∧ Q (.ref D) H) ∨ ((Itl K a).go i H ∧ ∃ Nx : Hp → Prop, (∀ H', Nx H' → ∃ m', m' < m ∧ W (i + 1) m' H') ∧ ∀ x H', (Itl K a).yld i H x H' → g x (wipe σ vs) H' fun σ2 H2 => wipe σ2 vs = wipe σ vs ∧ tt σ2 H2 fun b H3 =>
    if b = true then te σ2 H3 fun y H4 => ∃ acc, H4 D = some (.lst acc) ∧ acc.length < sizeLine ∧ Nx (upd H4 D (.lst (acc ++ [y]))) else Nx H3)
theorem r_lcL (q : tl σ H fun x H1 => LcLR K g tt te vs σ Q x H1) : tLc (iList K tl) g tt te vs σ H Q := q
theorem lcl_ok {p : Addr} {xs : List V} (hp : H1 p = some (.lst xs)) (k : ∀ D, H1 D = none → ∃ Pv : Nat → Hp → Prop, Pv 0 (upd H1 D (.lst [])) ∧ (∀ i H, i ≤ xs.length → Pv i H → H p = some (.lst xs)) ∧
    (∀ i x H, xs[i]? = some x → Pv i H → g x (wipe σ vs) H fun σ2 H2 => wipe σ2 vs = wipe σ vs ∧ tt σ2 H2 fun b H3 =>
      if b = true then te σ2 H3 fun y H4 => ∃ acc, H4 D = some (.lst acc) ∧ acc.length < sizeLine ∧ Pv (i + 1) (upd H4 D (.lst (acc ++ [y]))) else Pv (i + 1) H3) ∧ ∀ H, Pv xs.length H → Q (.ref D) H) :
    LcLR K g tt te vs σ Q (.ref p) H1 := by
  refine ⟨p, rfl, ⟨_, SqL.of hp⟩, fun D hD => ?_⟩
  obtain ⟨Pv, h0, hl, hs, hd⟩ := k D hD
  exact lc_list (xs := xs) Pv h0 (fun i H hi pv => SqL.of (hl i H hi pv)) hs hd
theorem r_unT2 {gs : TGs} {Q : L2.St → Hp → Prop} {p : Addr} {a b : V} (h : H p = some (.tup [a, b])) (q : gs [a, b] σ H Q) : gTup K 2 gs (.ref p) σ H Q := ⟨p, _, rfl, SqT.of h, rfl, q⟩
/-- the heap of a comprehension's start: what stood stands, the new list is empty -/
theorem lc_keep {D : Addr} {o : HO} (hD : H1 D = none) : ∀ b o', H1 b = some o' → upd H1 D o b = some o' := fun b o' e => by
  rw [upd_ne (ne_of_none e hD)]
  exact e
end
theorem dp_strs {K : PySem.W.Frag} {H : Hp} : ∀ ns : List Str, DpAll K H (ns.map V.str) (ns.map PyData.str)
  | [] => .nil
  | n :: r => .cons (.str n) (dp_strs r)
theorem eqvAll_strs : ∀ ns ms : List Str, PyData.eqvAll (ns.map PyData.str) (ms.map PyData.str) = decide (ns = ms)
  | [], [] => by rw [List.map_nil, PyData.eqvAll]; rfl
  | [], _ :: _ => by rw [List.map_nil, List.map_cons, PyData.eqvAll]; rfl
  | _ :: _, [] => by rw [List.map_nil, List.map_cons, PyData.eqvAll]; rfl
  | n :: r, m :: q => by
    rw [List.map_cons, List.map_cons, PyData.eqvAll, PyData.eqv, eqvAll_strs r q]
    by_cases h : n = m
    · subst h
      by_cases h2 : r = q
      · subst h2; simp
      · simp [h2]
    · simp [h]
end MV

set_option Elab.async false
set_option linter.all false
set_option maxRecDepth 100000
set_option maxHeartbeats 2000000
/-! MVM: defs with *rest; class methods without arguments; a class held in a local; // by wide numbers of either sign. -/
namespace MV
open PySem PySem.Spec PySem.Calls PyProof.Rows L2
/-- a promise of what is called with any positions, where no repr is under way -/
def FnGR (P : Program) (w : World) (K : PySem.W.Frag) (mg : Str → Option Value) (base : Heap) (CX : CXT) (k : Nat) (f : Addr) (sp : Sp) : Prop :=
  ∀ (A : Around) (outer : List Env) (s : Shared) (H : Hp) (us : List Value) (vs : List V) (Q : VK) (E : XK), Room k A → A.guards = some [] → Env0 P w K mg base A outer s H → Vals vs us → sp vs H Q E →
    codeAny (model P w) A (.call (.ref f) ⟨us, []⟩) (CR CX outer P w H s Q E) s
/-- what a def with *rest alone promises, from what its body does with the tuple -/
def spStar (sp : Sp) : Sp := fun vs H Q E => vs.length ≤ sizeLine ∧ ∀ p, H p = none → sp [.ref p] (upd H p (.tup vs)) Q E
section
variable {P : Program} {w : World} {K : PySem.W.Frag} {mg : Str → Option Value} {base : Heap} {CX : CXT} {k : Nat} {f : Addr} {fd : FuncData} {ps : List Str} {sp : Sp}
theorem Fun.gs {x qual pv : Str} {st : Stmt} {N : List Str} (F : Fun K x qual st f fd) (S : FnScope N [pv] (defScope st)) (hCX : StX.CXUp CX)
    (hb : ∀ rest : List Value, bindArgs fd ⟨rest, []⟩ = (newTuple rest >>= fun t => pure [(pv, t)]))
    (hbody : ∀ (cdv : Value) (A : Around) (outer : List Env) (s : Shared) (H : Hp) (vs : List V) (Q : VK) (E : XK),
      Room k (A.deeper (envOfC qual (defScope st) s.heap.objs.size f cdv)) →
      (A.deeper (envOfC qual (defScope st) s.heap.objs.size f cdv)).guards = some [] → sp vs H Q E →
      ∃ t, PSs (cxOf CX P w K mg base N qual (defScope st) f cdv A outer s H E).nox (defBody st) t ∧
        t { nx := fun _ H' => Q .non H', rt := Q } (start N vs) H) :
    FnGR P w K mg base CX (k + 1) f (spStar sp) := by
  obtain ⟨oc, od, kV, doc, pm, an, cdv, ct, osl, rfl, lk, hcd⟩ := F.ex
  intro A outer s H us vs Q E hr hg e0 r ⟨hz, hq⟩
  have hn : H s.heap.objs.size = Option.none := e0.hok.fresh (Nat.le_refl _)
  have hl2 : us.length ≤ sizeLine := by rw [← r.length]; exact hz
  refine StX.run_bnd lk hcd S hr e0 (G := fun xs H2 => ∃ p, H p = Option.none ∧ xs = [V.ref p] ∧ H2 = upd H p (.tup vs)) (fun A' Ex Q' h => ?_) fun s2 H2 xs ⟨p, hp, ex, eH⟩ hr' => ?_
  · rw [hb us]
    refine wpAny_bind (wpAny_newTuple (wpAny_pure ?_) hl2)
    have new : ObjOk P w (upd H s.heap.objs.size (.tup vs)) (s.heap.push ({ cls := .type "tuple", data := .seq us.toArray } : Obj)) s.heap.objs.size (.tup vs) := ⟨hz, us, r, ⟨_, Heap.get?_push_size _ rfl, rfl, _, rfl⟩⟩
    have un := StX.un_laid (fs := frs outer) (s := s) (o := ({ cls := .type "tuple", data := .seq us.toArray } : Obj)) (u := .tup vs) hn
    exact h _ _ [V.ref s.heap.objs.size] [Value.ref s.heap.objs.size] (StX.env0_laid e0 new) un rfl (fun e s' => hCX outer s H _ _ E e s' un (fun b o q => Heap.get?_push_of_some _ q) rfl) (.cons rfl .nil) rfl ⟨_, hn, rfl, rfl⟩
  · subst ex eH
    obtain ⟨t, p1, q1⟩ := hbody cdv A outer s2 _ _ Q E hr' hg (hq p hp)
    exact ⟨t, p1.nox, q1⟩
end
section
variable {X : Cx} {CX : CXT} {k i : Nat} {f C p : Addr} {fd : FuncData} {ps : List Str} {sp : Sp} {E : XK} {x m : Str} {pos apos np : Pos} {o e : Expr} {es : List Expr} {ta : TE} {t : TA} {mc : Value}
theorem runGR {A : Around} {pins : List (Addr × Obj)} {σ : L2.St} {H : Hp} {s : Shared} {Q : VK} {us : List Value} {vs : List V}
    (F : FnGR X.prog X.w X.K X.mg X.base CX k f sp) (hr : Room k A) (hg : A.guards = some [])
    (e0 : Env0 X.prog X.w X.K X.mg X.base A X.stack s H) (hx : Passes CX X E)
    (I : Inv X pins σ H s) (r : Vals vs us) (h : sp vs H Q E) :
    codeAny (model X.prog X.w) A (.call (.ref f) ⟨us, []⟩) (Back X pins σ Q) s :=
  codeAny_mono (F A X.stack s H us vs Q E hr hg e0 r h) fun r s' hq => ended hx I hq
theorem callGR {pins : List (Addr × Obj)} {σ : L2.St} {H : Hp} {s : Shared} {Q : VK} {us : List Value} {vs : List V}
    (F : FnGR X.prog X.w X.K X.mg X.base CX k f sp) (hr : Room k X.A) (hg : X.A.guards = some []) (hx : Passes CX X E)
    (I : Inv X pins σ H s) (r : Vals vs us) (h : sp vs H Q E) :
    wpAny (model X.prog X.w) X.A (call (.ref f) us) (EP X pins σ Q) X.xe s := by
  refine wpAny_call (codeAny_mono (runGR F hr hg I.env0 hx I r h) fun z s' q => ?_)
  match z, q with
  | .ok (.ret _), q => exact q
  | .error _, q => exact q
/-- C.m(..), m a static method with *rest -/
theorem peg_smethR {pl : Sem Bool} (he : PE X o ta) (S : SMet X.K C mc m p f)
    (F : FnGR X.prog X.w X.K X.mg X.base CX k f sp) (hr : Room k X.A) (hg : X.A.guards = some []) (hx : Passes CX X E) (ha : PA X (e :: es) t)
    (hst : starEach (e :: es) X.env = (false, eval e X.env) :: starEach es X.env := by rfl)
    (hpl : (backTo pos (starEach es X.env)).any (·.1) = false := by rfl)
    (ht : eval (.Call (.Attribute o m apos) (e :: es) [] pos) X.env = (do
      let ov ← eval o X.env
      standAt apos.atName
      let (g, first) ← holding [ov] (getMethod ov m pl)
      callWith pos g first (backTo pos (starEach (e :: es) X.env)) (backToKw pos (keywordEach [] X.env))) := by rfl) :
    PE X (.Call (.Attribute o m apos) (e :: es) [] pos) (tSMeth C sp [] E ta t) := by
  constructor
  intro pins s σ H Q I h
  refine PySem.W.methodCall_KW (pl := pl) (thn (he.run pins s σ H _ I h) ?_) ht
  rintro u s1 ⟨_, H1, I1, rx, rfl, q⟩
  cases rx
  obtain ⟨rest, hrec⟩ := S.rc
  refine PySem.W.method_cls I1.kIn S.rd.ga (PySem.W.cls_bind I1.kIn S.rd.rd S.at_ (wpAny_call (PySem.W.sm_get (s := { s1 with toks := s1.toks + 1 }) I1.kIn hrec (PySem.W.handed_on rfl ?_))))
  have I2 := I1.tok (s1.toks + 1)
  refine PySem.W.callWith_K (first := []) (h₀ := X.base) I.ok.mod.kin S.kp ?_ hst hpl
  refine thn (ha.run pos pins _ σ H1 _ I2 q) fun us s2 ⟨vs, H2, I3, r, q2⟩ => ⟨I3.kIn, ?_⟩
  have q2 : sp (vs ++ []) H2 Q E := q2
  rw [List.append_nil] at q2
  exact callGR F hr hg hx I3 r q2
/-- C.m(), m a class method -/
def tCMeth0 (C : Addr) (sp : Sp) (E : XK) (ta : TE) : TE := fun σ H Q => ta σ H fun x H1 => x = .ref C ∧ sp [.ref C] H1 Q E
theorem peg_cmeth0 {pl : Sem Bool} (he : PE X o ta) (r : ClX.CRead X.K C mc) (c : ClX.CMet X.K C mc m p f)
    (F : FnG X.prog X.w X.K X.mg X.base CX k f fd ps sp) (hr : Room k X.A) (hg : X.A.guards = some []) (hb : Binds X.K fd ps []) (hx : Passes CX X E)
    (ht : eval (.Call (.Attribute o m apos) [] [] pos) X.env = (do
      let ov ← eval o X.env
      standAt apos.atName
      let (g, first) ← holding [ov] (getMethod ov m pl)
      callWith pos g first (backTo pos (starEach [] X.env)) (backToKw pos (keywordEach [] X.env))) := by rfl) :
    PE X (.Call (.Attribute o m apos) [] [] pos) (tCMeth0 C sp E ta) := by
  constructor
  intro pins s σ H Q I h
  refine PySem.W.methodCall_KW (pl := pl) (thn (he.run pins s σ H _ I h) ?_) ht
  rintro u s1 ⟨_, H1, I1, rx, rfl, q⟩
  cases rx
  refine ClX.getmethcm_ok I1 r c fun s2 I2 => ?_
  have hq := ClX.pin_at I2
  refine PySem.W.callWith_M0 (first := []) (g := f) (self := .ref C) ⟨hq, I2.kIn⟩ c.fi ?_
  have z : wpAny (model X.prog X.w) X.A (call (.ref s1.heap.objs.size) []) (EP X ((s1.heap.objs.size, PySem.W.methodObj (.ref f) (.ref C)) :: pins) σ Q) X.xe s2 := by
    refine wpAny_call (PySem.W.method_call hq ?_)
    refine codeAny_mono (runG (us := [.ref C]) (vs := [.ref C]) (Q := Q) F hr hg I2.env0 hb .nil hx I2 (.cons rfl .nil) q) fun z s' q' => ?_
    match z, q' with
    | .ok (.ret _), q' => exact q'
    | .error _, q' => exact q'
  exact thn z fun _ _ y => ClX.unpinE y
/-- x(..), x a local that holds the class C -/
def tMakeL (i : Nat) (C : Addr) (sp : Sp) (E : XK) (t : TA) : TE := fun σ H Q => σ[i]? = some (some (.ref C)) ∧ t σ H fun vs H1 => MkR C sp vs H1 Q E
theorem peg_makeL (M : Mk X.K C f) (F : FnG X.prog X.w X.K X.mg X.base CX k f fd ps sp) (hr : Room (k + 1) X.A) (hg : X.A.guards = some []) (hb : Binds X.K fd ps []) (hx : Passes CX X E)
    (hN : X.N[i]? = some x) (hv : Vis X.env.scope x) (ha : PA X (e :: es) t)
    (hdb : (x == ("__debug__" : Str)) = false := by decide) (hcd : (x == ("__classdict__" : Str)) = false := by decide)
    (he : starEach (e :: es) X.env = (false, eval e X.env) :: starEach es X.env := by rfl) (hpl : (backTo pos (starEach es X.env)).any (·.1) = false := by rfl) :
    PE X (.Call (.Name x np) (e :: es) [] pos) (tMakeL i C sp E t) := by
  refine ⟨fun pins s σ H Q I h' => ?_⟩
  obtain ⟨hs, ht⟩ := h'
  refine wpAny_Call_Name_kw (thn ((pe_var (pos := np) hN hv hdb hcd).run pins s σ H (fun v H1 => v = .ref C ∧ H1 = H) I ⟨.ref C, hs, rfl, rfl⟩) fun u s1 ⟨v, H1, I1, r1, q1⟩ => ?_)
  obtain ⟨rfl, rfl⟩ := q1
  cases r1
  refine PySem.W.callWith_K (h₀ := X.base) I1.ok.mod.kin M.kp ?_ he hpl
  refine thn (ha.run pos pins s1 σ _ _ I1 ht) fun us s2 ⟨vs, H2, I2, r, q⟩ => ⟨I2.kIn, ?_⟩
  refine makeG (dvs := []) M F hr hg hb .nil hx I2 r ?_
  rw [List.append_nil]
  exact q
end
/-- // of numbers whose divisor is not 0 and has fewer than 9000 bits -/
def CDivN9 (_ j : Int) : Prop := j ≠ 0 ∧ j.natAbs.log2 < 9000
theorem op_fdivN9 {X : Cx} : OpR X (binaryOp .FloorDiv) (rI CDivN9 fun i j => .int (i.fdiv j)) := opI fun i j _ _ _ _ _ hc q =>
  floordiv_int hc.1 q (.inl (PyProof.noPylong_of_log2 hc.2))
section
variable {K : PySem.W.Frag} {H : Hp} {Q : VK} {i j : Int}
theorem r_divN9 (h : CDivN9 i j) (q : Q (.int (i.fdiv j)) H) : rI CDivN9 (fun i j => .int (i.fdiv j)) (.int i) (.int j) H Q := ⟨i, j, rfl, rfl, h, q⟩
theorem r_modN (h : j ≠ 0) (q : Q (.int (i.fmod j)) H) : rI (fun _ j => j ≠ 0) (fun i j => .int (i.fmod j)) (.int i) (.int j) H Q := ⟨i, j, rfl, rfl, h, q⟩
theorem r_cmeth0 {C : Addr} {sp : Sp} {E : XK} {ta : TE} {σ : L2.St} (q : ta σ H fun x H1 => x = .ref C ∧ sp [.ref C] H1 Q E) : tCMeth0 C sp E ta σ H Q := q
end
section
variable {K : PySem.W.Frag} {σ : L2.St} {H : Hp} {n : Nat} {tl : TE} {g : TG} {tb : TS} {D : Ends} {x : V} {Q : VK} {i j l m : Int} {gs : TGs}
/-- a loop over a tuple -/
def ForT (K : PySem.W.Frag) (g : TG) (tb : TS) (D : Ends) (σ : L2.St) (x : V) (H1 : Hp) : Prop := ∃ (a : Addr) (xs : List V) (Pv : Nat → L2.St → Hp → Prop), x = .ref a ∧ Pv 0 σ H1 ∧
  (∀ i σ H, i ≤ xs.length → Pv i σ H → SqT K H a xs) ∧
  (∀ i x σ H, xs[i]? = some x → Pv i σ H → g x σ H fun σ2 H2 => tb { D with nx := Pv (i + 1), ct := Pv (i + 1), bk := D.nx } σ2 H2) ∧ (∀ σ H, Pv xs.length σ H → D.nx σ H)
def ForTR (K : PySem.W.Frag) (g : TG) (tb : TS) (D : Ends) (σ : L2.St) (x : V) (H1 : Hp) : Prop := ∃ a, x = .ref a ∧ (∃ xs, SqT K H1 a xs) ∧ ∃ W : Nat → Nat → L2.St → Hp → Prop, (∃ m, W 0 m σ H1) ∧ ∀ i m σ H, W i m σ H →
  ((Itt K a).stop i H ∧ D.nx σ H) ∨ ((Itt K a).go i H ∧ ∃ N : L2.St → Hp → Prop, (∀ σ' H', N σ' H' → ∃ m', m' < m ∧ W (i + 1) m' σ' H') ∧ ∀ x H', (Itt K a).yld i H x H' → g x σ H' fun σ2 H2 => tb { D with nx := N, ct := N, bk := D.nx } σ2 H2)
theorem r_forT (q : tl σ H fun x H1 => ForTR K g tb D σ x H1) : tFor (iTup K tl) g tb D σ H := q
theorem ForT.ok (q : ForT K g tb D σ x H) : ForTR K g tb D σ x H := by
  obtain ⟨a, xs, Pv, rfl, h0, hl, hs, hd⟩ := q
  exact ⟨a, rfl, ⟨xs, hl 0 σ H (Nat.zero_le _) h0⟩, for_tup Pv h0 (fun i σ H h p => hl i σ H h p) hs hd⟩
theorem r_newI4 (k : ∀ v H2, Stp none H H2 → IT H2 v [i, j, l, m] → Q v H2) : NewT [V.int i, V.int j, V.int l, V.int m] H Q := r_newI (ns := [i, j, l, m]) (Nat.le_of_ble_eq_true rfl) k
theorem r_unpack4 {v : V} {Q : L2.St → Hp → Prop} (h : IK K H v [i, j, l, m]) (q : gs [V.int i, V.int j, V.int l, V.int m] σ H Q) : gTup K 4 gs v σ H Q := r_unpack h rfl q
end
/-! ### a list of one's own is written -/
theorem Stp.put {t : Option Addr} {H H' : Hp} {f : Addr} {o : HO} (s : Stp t H H') (n : H f = none) : Stp t H (upd H' f o) := by
  refine ⟨fun b o' m e => ?_, fun a l e T => ?_⟩
  · rw [upd_ne (ne_of_none e n)]
    exact s.ge b o' m e
  · have T' := s.tp a l e T
    obtain ⟨_, _, _, _, _, h1, h2, _⟩ := T
    obtain ⟨ns, x, b, c, k0, k1, k2, k3⟩ := T'
    exact ⟨ns, x, b, c, k0, by rw [upd_ne (ne_of_none h1 n)]; exact k1, by rw [upd_ne (ne_of_none h2 n)]; exact k2, k3⟩
theorem IT.put {H : Hp} {f : Addr} {xs ys : List V} {v : V} {ns : List Int} (h : IT H v ns) (e : H f = some (.lst xs)) : IT (upd H f (.lst ys)) v ns := by
  obtain ⟨p, rfl, h⟩ := h
  exact ⟨p, rfl, by rw [upd_ne (by rintro rfl; rw [e] at h; cases h)]; exact h⟩
/-- xs.append(y) as a statement -/
theorem r_app {H : Hp} {Q : VK} {f : Addr} {xs : List V} {y : V} (h : H f = some (.lst xs)) (hl : xs.length < sizeLine) (q : Q .non (upd H f (.lst (xs ++ [y])))) : rAppend (.ref f) [y] H Q := ⟨f, xs, y, rfl, rfl, h, hl, q⟩
theorem r_bm {K : PySem.W.Frag} {T : String} {r : V → List V → Hp → VK → Prop} {ta : TE} {t : TA} {σ : L2.St} {H : Hp} {Q : VK} (q : ta σ H fun x H1 => tyV K T x H1 ∧ t σ H1 fun xs H2 => r x xs H2 Q) : tBM K T r ta t σ H Q := q
/-! ### a cut behind a statement -/
def tCut (t u : TS) : TS := fun D σ H => ∃ Pv : L2.St → Hp → Prop, t { D with nx := Pv } σ H ∧ ∀ σ' H', Pv σ' H' → u D σ' H'
theorem pss_cut {X : Cx} {st : Stmt} {rest : List Stmt} {t u : TS} (h1 : PS X st t) (h2 : PSs X rest u) : PSs X (st :: rest) (tCut t u) := by
  refine ⟨fun pins s σ H D I ⟨Pv, h, hk⟩ => ?_⟩
  refine wpAny_execs_cons (thn (h1.run pins s σ H { D with nx := Pv } I h) fun f s1 q => ?_)
  cases f with
  | next =>
    obtain ⟨σ', H', I', q⟩ := q
    exact h2.run pins s1 σ' H' D I' (hk _ _ q)
  | ret v => exact q
  | brk => exact q
  | cont => exact q
theorem r_cut {t u : TS} {D : Ends} {σ : L2.St} {H : Hp} (Pv : L2.St → Hp → Prop) (h1 : t { D with nx := Pv } σ H) (h2 : ∀ σ' H', Pv σ' H' → u D σ' H') : tCut t u D σ H := ⟨Pv, h1, h2⟩
end MV

set_option Elab.async false
set_option linter.all false
set_option maxRecDepth 100000
set_option maxHeartbeats 2000000
/-! MVN: ranges of two and three numbers; rules within a comprehension's block; bools compared; lists added and repeated. -/
namespace MV
open PySem PySem.Spec PySem.Calls PyProof.Rows L2
section
variable {X : Cx} {K : PySem.W.Frag} {tg e : Expr} {te : TE}
theorem pi_tupk (h : X.K = K) (he : PE X e te) : PI X tg e (iTup K te) := h ▸ pi_tup he
theorem pi_listk (h : X.K = K) (he : PE X e te) : PI X tg e (iList K te) := h ▸ pi_list he
theorem call_tuple_ofk (h : X.K = K) : CallR X (.type "tuple") (rTupL K) := by
  subst h
  exact call_tuple_of
end
section
variable {K : PySem.W.Frag} {σ : L2.St} {H H1 : Hp} {Q : VK} {g : TG} {tb : TS} {D : Ends} {ta : TA} {x y : V} {b c : Bool}
/-- range(i, j) -/
def ForR2 (g : TG) (tb : TS) (D : Ends) (σ : L2.St) (vs : List V) (H1 : Hp) : Prop := ∃ (i j : Int) (Pv : Nat → L2.St → Hp → Prop), vs = [.int i, .int j] ∧ -(2 ^ 62) ≤ i ∧ i < 2 ^ 62 ∧ -(2 ^ 62) ≤ j ∧ j < 2 ^ 62 ∧ Pv 0 σ H1 ∧
  (∀ n σ H, n < (j - i).toNat → Pv n σ H → g (.int (i + n)) σ H fun σ2 H2 => tb { D with nx := Pv (n + 1), ct := Pv (n + 1), bk := D.nx } σ2 H2) ∧ (∀ σ H, Pv (j - i).toNat σ H → D.nx σ H)
def ForR2n (g : TG) (tb : TS) (D : Ends) (σ : L2.St) (vs : List V) (H : Hp) : Prop := ∃ i j : Int, vs = [.int i, .int j] ∧ (-(2 ^ 62) ≤ i ∧ i < 2 ^ 62 ∧ -(2 ^ 62) ≤ j ∧ j < 2 ^ 62) ∧ ∃ W : Nat → Nat → L2.St → Hp → Prop, (∃ m, W 0 m σ H) ∧ ∀ n m σ H, W n m σ H →
      ((Itr i (j - i).toNat).stop n H ∧ D.nx σ H) ∨ ((Itr i (j - i).toNat).go n H ∧ ∃ N : L2.St → Hp → Prop, (∀ σ' H', N σ' H' → ∃ m', m' < m ∧ W (n + 1) m' σ' H') ∧ ∀ x H', (Itr i (j - i).toNat).yld n H x H' → g x σ H' fun σ2 H2 => tb { D with nx := N, ct := N, bk := D.nx } σ2 H2)
theorem ForR2.ok {vs : List V} (q : ForR2 g tb D σ vs H) : ForR2n g tb D σ vs H := by
  obtain ⟨i, j, Pv, rfl, a1, a2, a3, a4, h0, hs, hd⟩ := q
  exact ⟨i, j, rfl, ⟨a1, a2, a3, a4⟩, for_range Pv h0 hs hd⟩
theorem r_forR2 (q : ta σ H fun vs H1 => ForR2n g tb D σ vs H1) : tFor (iRng2 ta) g tb D σ H := q
/-- range(i, j, c) -/
def ForR3n (g : TG) (tb : TS) (D : Ends) (σ : L2.St) (vs : List V) (H : Hp) : Prop := ∃ (i j c : Int) (n : Nat), vs = [.int i, .int j, .int c] ∧ RgC i j c n ∧ ∃ W : Nat → Nat → L2.St → Hp → Prop, (∃ m, W 0 m σ H) ∧ ∀ k m σ H, W k m σ H →
      ((Itc i c n).stop k H ∧ D.nx σ H) ∨ ((Itc i c n).go k H ∧ ∃ N : L2.St → Hp → Prop, (∀ σ' H', N σ' H' → ∃ m', m' < m ∧ W (k + 1) m' σ' H') ∧ ∀ x H', (Itc i c n).yld k H x H' → g x σ H' fun σ2 H2 => tb { D with nx := N, ct := N, bk := D.nx } σ2 H2)
theorem for3_ok {i j c : Int} {n : Nat} (hr : RgC i j c n) (Pv : Nat → L2.St → Hp → Prop) (h0 : Pv 0 σ H)
    (hs : ∀ k σ H, k < n → Pv k σ H → g (.int (i + (k : Nat) * c)) σ H fun σ2 H2 => tb { D with nx := Pv (k + 1), ct := Pv (k + 1), bk := D.nx } σ2 H2) (hd : ∀ σ H, Pv n σ H → D.nx σ H) : ForR3n g tb D σ [.int i, .int j, .int c] H :=
  ⟨i, j, c, n, rfl, hr, for_rangeC Pv h0 hs hd⟩
theorem r_forR3 (q : ta σ H fun vs H1 => ForR3n g tb D σ vs H1) : tFor (iRng3 ta) g tb D σ H := q
theorem r_neB (q : Q (.bl (!decide (b = c))) H) : rNe (.bl b) (.bl c) H Q := ⟨rfl, by
  have e : decide (V.bl b = V.bl c) = decide (b = c) := decide_eq_decide.mpr ⟨V.bl.inj, congrArg V.bl⟩
  rw [e]; exact q⟩
theorem r_eqB (q : Q (.bl (decide (b = c))) H) : rEq (.bl b) (.bl c) H Q := ⟨rfl, by
  have e : decide (V.bl b = V.bl c) = decide (b = c) := decide_eq_decide.mpr ⟨V.bl.inj, congrArg V.bl⟩
  rw [e]; exact q⟩
theorem r_catL {l m : Addr} {xs ys : List V} (h : H l = some (.lst xs)) (h2 : H m = some (.lst ys)) (hl : xs.length + ys.length ≤ 100) (k : ∀ p H2, Stp none H H2 → H2 p = some (.lst (xs ++ ys)) → H p = none → Q (.ref p) H2) : rCat (.ref l) (.ref m) H Q :=
  ⟨l, m, xs, ys, rfl, rfl, h, h2, sz100 hl, fun p hp => k p _ (Stp.new hp) upd_same hp⟩
theorem r_rep3 {l : Addr} {x : V} (h : H l = some (.lst [x])) (k : ∀ p H2, Stp none H H2 → H2 p = some (.lst [x, x, x]) → H p = none → Q (.ref p) H2) : rRep (.ref l) (.int 3) H Q :=
  ⟨l, 3, [x], rfl, rfl, h, by decide, by decide, (show (1 : Nat) * 3 ≤ sizeLine by decide), fun p hp => k p _ (Stp.new hp) upd_same hp⟩
end
/-- three bools in a list -/
abbrev b3 (b c d : Bool) : PyData := .list [.bool b, .bool c, .bool d]
theorem shw_b3 (b c d : Bool) : Shw (b3 b c d) where
  sh := by
    rw [PyData.showable, PyData.showableAll, PyData.showableAll, PyData.showableAll, PyData.showableAll, PyData.showable, PyData.showable, PyData.showable]
    rfl
  nd := by
    rw [PyData.hasDict, PyData.hasDictAll, PyData.hasDictAll, PyData.hasDictAll, PyData.hasDictAll, PyData.hasDict, PyData.hasDict, PyData.hasDict]
    rfl
  dp := by
    rw [PyData.depth, PyData.depthAll, PyData.depthAll, PyData.depthAll, PyData.depthAll, PyData.depth, PyData.depth, PyData.depth]
    decide
  ln := by
    rw [bnd, bndAll, bndAll, bndAll, bndAll, bnd, bnd, bnd]
    decide
theorem shaped_b3 {b c d : Bool} : SeqAt.shaped (b3 b c d) = true := by
  simp [SeqAt.shaped, PyData.canLay0, PyData.canLayAll0, PyData.depth, PyData.depthAll]
theorem eqv_b3 {b c d : Bool} : PyData.eqv (b3 b c d) (b3 b c d) = true := by
  simp [PyData.eqv, PyData.eqvAll]
end MV

set_option Elab.async false
set_option linter.all false
set_option maxRecDepth 100000
set_option maxHeartbeats 2000000
/-! MVO: own binary operators of instances of two classes. -/
namespace PySem.W
open PySem PySem.Spec PyProof.Rows
section
variable {prog : Program} {w : World} {A : Around} {E : Value → Shared → Prop} {s : Shared} {K : Frag} {x C D L f f' : Addr} {h₀ : Heap} {m : Str → Option Value} {ox : Obj} {od : Option Obj}
theorem mv_binTwo {op : Operator} {b : Value} {Q : Value → Shared → Prop} (F : Fr h₀ L s.heap m) (X₀ : K.In h₀) (I : InstAt s.heap x ox C od) (hb : Looks (model prog w) s.heap (typeOf b) (.ref D)) (hcd : (C == D) = false) (hc : selfFirst K C = true) (hd : selfFirst K D = true)
    (hs : findIn K (.ref C) (PySem.dunder op.info.2) = some (some (.ref f))) (hf : isFn K (.ref f) = true) (hr : findIn K (.ref C) (dunderR op.info.2) = some none)
    (hs' : findIn K (.ref D) (PySem.dunder op.info.2) = some (some (.ref f'))) (hr' : findIn K (.ref D) (dunderR op.info.2) = some none) (hsub : subIn K (.ref D) (.ref C) = some false)
    (h : wpAny (model prog w) A (call (.ref f) [.ref x, b]) (CmpBack Q) E s) : wpAny (model prog w) A (binaryOp op (.ref x) b) Q E s := by
  have X := X₀.keeps F.keep
  obtain ⟨cd, rest, hcl, hm⟩ := ksp_first hc
  obtain ⟨cd', rest', hcl', hm'⟩ := ksp_first hd
  rcases hi : op.info with ⟨sym, nm'⟩
  rw [hi] at hs hr hs' hr'
  dsimp only at hs hr hs' hr'
  have one := ksp_try X I hs hf h
  obtain ⟨hh, g, d, tt, os⟩ := s
  have L1 : Looks (model prog w) hh (typeOf (.ref x)) (.ref C) := I.type
  have L2 : Looks (model prog w) hh (typeOf b) (.ref D) := hb
  have L3 : Looks (model prog w) hh (fillsNumberSlot (.ref C) nm') true := fills_K X hcl hm hs
  have L4 : Looks (model prog w) hh (fillsNumberSlot (.ref D) nm') true := fills_K X hcl' hm' hs'
  have L5 : Looks (model prog w) hh (isSubtype (.ref D) (.ref C)) false := looks_subIn X hsub
  have L6 : Looks (model prog w) hh (numberSlotInPython (.ref C) nm') true := ksp_inPy X hs hr (.inl rfl)
  have L7 : Looks (model prog w) hh (numberSlotInPython (.ref D) nm') true := ksp_inPy X hs' hr' (.inl rfl)
  have hne : (Value.ref C == Value.ref D) = false := Bool.eq_false_iff.mpr fun q => by
    cases beq_iff_eq.mp q
    rw [beq_self_eq_true] at hcd
    cases hcd
  simp only [binaryOp, hi]
  refine wpAny_holding (wpAny_bind ?_)
  unfold binaryOp1
  refine wpAny_bind (L1.at (wpAny_bind (L2.at (wpAny_bind (L3.at ?_)))))
  simp only [hne, Bool.false_eq_true, if_false]
  ksp_lk
  refine wpAny_mono one (fun r s' hr' => ?_) fun _ _ e => e
  obtain ⟨v, rfl, hq⟩ := hr'
  ksp_lk
  exact hq
end
end PySem.W
namespace MV
open PySem PySem.Spec PySem.Calls PyProof.Rows L2
section
variable {X : Cx} {CX : CXT} {k : Nat} {f f' C D : Addr} {fd : FuncData} {ps : List Str} {sp : Sp} {E : XK}
/-- what an operator of two classes asks of the text -/
structure Two (K : PySem.W.Frag) (C D f f' : Addr) (n r : Str) : Prop where
  ne : (C == D) = false
  c : PySem.W.selfFirst K C = true
  d : PySem.W.selfFirst K D = true
  at_ : PySem.W.findIn K (.ref C) n = some (some (.ref f))
  fn : PySem.W.isFn K (.ref f) = true
  nr : PySem.W.findIn K (.ref C) r = some none
  at' : PySem.W.findIn K (.ref D) n = some (some (.ref f'))
  nr' : PySem.W.findIn K (.ref D) r = some none
  sub : PySem.W.subIn K (.ref D) (.ref C) = some false
def rOwnTwo (K : PySem.W.Frag) (C D : Addr) (sp : Sp) (E : XK) : R2 := fun x y H Q => ∃ a dx fs, x = .ref a ∧ H a = some (.ins C dx fs) ∧ TyX K H y (.ref D) ∧ sp [x, y] H Q E
theorem opg_two {op : Operator} (h : Two X.K C D f f' (PySem.dunder op.info.2) (PySem.dunderR op.info.2)) (F : FnG X.prog X.w X.K X.mg X.base CX k f fd ps sp) (hr : Room k X.A) (hg : X.A.guards = some [])
    (hb : Binds X.K fd ps []) (hx : Passes CX X E) : OpR X (binaryOp op) (rOwnTwo X.K C D sp E) := by
  intro pins s σ H x y v u Q I rx ry q
  obtain ⟨a, dx, fs, rfl, ea, ty, q⟩ := q
  cases rx
  obtain ⟨mA, O, _⟩ := ins_get I.hok ea
  obtain ⟨od, J, _⟩ := O.look
  obtain ⟨m, hF⟩ := I.fr
  obtain ⟨P, kx, hP, _⟩ := kit_of I ry ty
  refine PySem.W.mv_binTwo hF I.ok.mod.kin J (kx.ty _ _ I.kIn hP) h.ne h.c h.d h.at_ h.fn h.nr h.at' h.nr' h.sub (thn (callG (us := [.ref a, u]) (vs := [.ref a, y]) F hr hg hb .nil hx I (.cons rfl (.cons ry .nil)) q) ?_)
  rintro z s' ⟨v', H', I', rv, q'⟩
  have fin : EP X pins σ Q z s' := ⟨v', H', I', rv, q'⟩
  cases z <;> first | exact fin | (cases v' <;> first | exact False.elim rv | (obtain ⟨_, h⟩ := rv; cases h) | cases rv)
end
end MV

set_option maxHeartbeats 1000000
/-! the mathematics of nets: a shift in a net, its order -/
namespace MV

/-- the remainder of (x, y) in the cell of the net a, b, c -/
def lowX (a b c x y : Int) : Int := (x - y / c * b) % a
def lowY (c y : Int) : Int := y - y / c * c
/-- (x, y) is a shift of the net -/
def InN (a b c x y : Int) : Prop := lowX a b c x y = 0 ∧ lowY c y = 0

theorem lowY_mod (c y : Int) : lowY c y = y % c := by
  unfold lowY
  rw [Int.emod_def, Int.mul_comm c]
theorem lowY_add {c : Int} (hc : c ≠ 0) (y t : Int) : lowY c (y + t * c) = lowY c y := by
  rw [lowY_mod, lowY_mod, Int.add_mul_emod_self_right]
theorem lowX_add {a c : Int} (hc : c ≠ 0) (b x y s t : Int) : lowX a b c (x + s * a + t * b) (y + t * c) = lowX a b c x y := by
  unfold lowX
  rw [Int.add_mul_ediv_right _ _ hc]
  have e : x + s * a + t * b - (y / c + t) * b = (x - y / c * b) + s * a := by
    rw [Int.add_mul]; omega
  rw [e, Int.add_mul_emod_self_right]
/-- what (x, y) and its remainder differ by -/
theorem low_is {a b c : Int} (x y : Int) : x = lowX a b c x y + ((x - y / c * b) / a) * a + (y / c) * b ∧ y = lowY c y + (y / c) * c := by
  constructor
  · have h := Int.emod_add_mul_ediv (x - y / c * b) a
    unfold lowX
    have e : (x - y / c * b) / a * a = a * ((x - y / c * b) / a) := Int.mul_comm _ _
    omega
  · unfold lowY; omega
theorem low_sum {a b c : Int} (hc : c ≠ 0) (x y u v : Int) : lowX a b c (lowX a b c x y + u) (lowY c y + v) = lowX a b c (x + u) (y + v) ∧
    lowY c (lowY c y + v) = lowY c (y + v) := by
  obtain ⟨h1, h2⟩ := low_is (a := a) (b := b) (c := c) x y
  have e1 : x + u = (lowX a b c x y + u) + ((x - y / c * b) / a) * a + (y / c) * b := by omega
  have e2 : y + v = (lowY c y + v) + (y / c) * c := by omega
  constructor
  · rw [e1, e2]
    exact (lowX_add hc _ _ _ _ _).symm
  · rw [e2]
    exact (lowY_add hc _ _).symm
/-- the law's step: both remainders added -/
theorem low_step {a b c : Int} (hc : c ≠ 0) (x y u v : Int) :
    lowX a b c (lowX a b c x y + lowX a b c u v) (lowY c y + lowY c v) = lowX a b c (x + u) (y + v) ∧
    lowY c (lowY c y + lowY c v) = lowY c (y + v) := by
  have h1 := low_sum hc (a := a) (b := b) x y (lowX a b c u v) (lowY c v)
  have h2 := low_sum hc (a := a) (b := b) u v x y
  rw [h1.1, h1.2, Int.add_comm x, Int.add_comm y, h2.1, h2.2, Int.add_comm u, Int.add_comm v]
  exact ⟨rfl, rfl⟩

theorem lowX_rng {a b c x y : Int} (ha : 0 < a) : 0 ≤ lowX a b c x y ∧ lowX a b c x y < a :=
  ⟨Int.emod_nonneg _ (by omega), Int.emod_lt_of_pos _ ha⟩
theorem lowY_rng {c y : Int} (hc : 0 < c) : 0 ≤ lowY c y ∧ lowY c y < c := by
  rw [lowY_mod]
  exact ⟨Int.emod_nonneg _ (by omega), Int.emod_lt_of_pos _ hc⟩

theorem inN_iff {a b c x y : Int} : InN a b c x y ↔ c ∣ y ∧ a ∣ x - y / c * b := by
  unfold InN lowX
  rw [lowY_mod, ← Int.dvd_iff_emod_eq_zero, ← Int.dvd_iff_emod_eq_zero]
  exact And.comm
theorem inN_zero {a b c : Int} (hc : c ≠ 0) : InN a b c 0 0 := by
  rw [inN_iff]
  simp
theorem inN_add {a b c x y u v : Int} (hc : c ≠ 0) (h : InN a b c x y) (h2 : InN a b c u v) : InN a b c (x + u) (y + v) := by
  have e := low_step hc (a := a) (b := b) x y u v
  obtain ⟨h1, h3⟩ := h
  obtain ⟨h2, h4⟩ := h2
  rw [h1, h3, h2, h4] at e
  have z := inN_zero (a := a) (b := b) hc
  exact ⟨e.1.symm.trans z.1, e.2.symm.trans z.2⟩
theorem inN_neg {a b c x y : Int} (hc : c ≠ 0) (h : InN a b c x y) : InN a b c (-x) (-y) := by
  rw [inN_iff] at *
  obtain ⟨⟨k, rfl⟩, h2⟩ := h
  rw [Int.mul_ediv_cancel_left _ hc] at h2
  refine ⟨⟨-k, by rw [Int.mul_neg]⟩, ?_⟩
  have e : -(c * k) = c * (-k) := by rw [Int.mul_neg]
  rw [e, Int.mul_ediv_cancel_left _ hc]
  have e2 : -x - -k * b = -(x - k * b) := by rw [Int.neg_mul]; omega
  rw [e2]
  exact Int.dvd_neg.mpr h2
theorem inN_neg_iff {a b c x y : Int} (hc : c ≠ 0) : InN a b c (-x) (-y) ↔ InN a b c x y :=
  ⟨fun h => by have z := inN_neg hc h; rwa [Int.neg_neg, Int.neg_neg] at z, inN_neg hc⟩

/-! the order of a shift, as the program reckons it -/
def gcdI (a b : Int) : Int := ((Nat.gcd a.natAbs b.natAbs : Nat) : Int)
def ordT (c y : Int) : Int := c / gcdI c y
def ordA (b c x y : Int) : Int := ordT c y * x - ordT c y * y / c * b
def ord (a b c x y : Int) : Int := ordT c y * (a / gcdI a (ordA b c x y))

theorem gcdI_pos {a : Int} (h : 0 < a) (b : Int) : 0 < gcdI a b := by
  unfold gcdI
  have : 0 < Nat.gcd a.natAbs b.natAbs := Nat.gcd_pos_of_pos_left _ (by omega)
  omega
theorem gcdI_left (a b : Int) : gcdI a b ∣ a := by
  unfold gcdI
  exact Int.ofNat_dvd_left.mpr (Nat.gcd_dvd_left _ _)
theorem gcdI_right (a b : Int) : gcdI a b ∣ b := by
  unfold gcdI
  exact Int.ofNat_dvd_left.mpr (Nat.gcd_dvd_right _ _)
theorem nat_dvd_gcd {c : Nat} (hc : 0 < c) (y n : Nat) : c ∣ n * y ↔ c / Nat.gcd c y ∣ n := by
  have hg : 0 < Nat.gcd c y := Nat.gcd_pos_of_pos_left _ hc
  obtain ⟨u, hu⟩ := Nat.gcd_dvd_left c y
  obtain ⟨v, hv⟩ := Nat.gcd_dvd_right c y
  have hcop := Nat.coprime_div_gcd_div_gcd hg
  have e1 : c / Nat.gcd c y = u := Nat.div_eq_of_eq_mul_right hg hu
  have e2 : y / Nat.gcd c y = v := Nat.div_eq_of_eq_mul_right hg hv
  rw [e1, e2] at hcop
  rw [e1]
  constructor
  · intro h
    have h2 : Nat.gcd c y * u ∣ Nat.gcd c y * (n * v) := by
      have e : Nat.gcd c y * (n * v) = n * y := by
        conv => rhs; rw [hv]
        rw [Nat.mul_left_comm]
      rw [e, ← hu]; exact h
    exact hcop.dvd_of_dvd_mul_right (Nat.dvd_of_mul_dvd_mul_left hg h2)
  · rintro ⟨k, rfl⟩
    refine ⟨k * v, ?_⟩
    conv => lhs; rw [hv]
    conv => rhs; rw [hu]
    simp only [Nat.mul_assoc, Nat.mul_left_comm, Nat.mul_comm]
/-- c | n y exactly if c / gcd (c, y) | n -/
theorem dvd_gcd {c : Int} (hc : 0 < c) (y n : Int) : c ∣ n * y ↔ c / gcdI c y ∣ n := by
  have h := nat_dvd_gcd (c := c.natAbs) (by omega) y.natAbs n.natAbs
  rw [← Int.natAbs_mul] at h
  have e : c / gcdI c y = ((c.natAbs / Nat.gcd c.natAbs y.natAbs : Nat) : Int) := by
    unfold gcdI
    have : c = (c.natAbs : Int) := by omega
    conv => lhs; rw [this]
    simp
  rw [← Int.natAbs_dvd_natAbs, h, e, ← Int.natAbs_dvd_natAbs, Int.natAbs_natCast]
theorem ordT_pos {c : Int} (hc : 0 < c) (y : Int) : 0 < ordT c y := by
  unfold ordT
  have := gcdI_pos hc y
  exact Int.ediv_pos_of_pos_of_dvd hc (by omega) (gcdI_left c y)
theorem ord_pos {a c : Int} (ha : 0 < a) (hc : 0 < c) (b x y : Int) : 0 < ord a b c x y := by
  unfold ord
  have h := gcdI_pos ha (ordA b c x y)
  have h2 : 0 < a / gcdI a (ordA b c x y) := Int.ediv_pos_of_pos_of_dvd ha (by omega) (gcdI_left _ _)
  exact Int.mul_pos (ordT_pos hc y) h2
/-- a multiple of a shift belongs to the net exactly if the order divides its number -/
theorem inN_mul {a b c : Int} (ha : 0 < a) (hc : 0 < c) (x y n : Int) : InN a b c (n * x) (n * y) ↔ ord a b c x y ∣ n := by
  have hc0 : c ≠ 0 := by omega
  have hT := ordT_pos hc y
  have hTy : c ∣ ordT c y * y := (dvd_gcd hc y (ordT c y)).mpr (Int.dvd_refl _)
  obtain ⟨e, he⟩ := hTy
  rw [inN_iff, dvd_gcd hc]
  have key : ∀ k : Int, (ordT c y * k) * x - (ordT c y * k) * y / c * b = k * ordA b c x y := by
    intro k
    unfold ordA
    have e1 : ordT c y * k * y = c * (k * e) := by
      rw [Int.mul_right_comm, he, Int.mul_assoc, Int.mul_comm e]
    rw [e1, he, Int.mul_ediv_cancel_left _ hc0, Int.mul_ediv_cancel_left _ hc0, Int.mul_sub]
    rw [Int.mul_comm (ordT c y) k, Int.mul_assoc, Int.mul_assoc]
  constructor
  · rintro ⟨⟨k, rfl⟩, h2⟩
    have h3 := key k
    have h2' : a ∣ ordT c y * k * x - ordT c y * k * y / c * b := h2
    rw [h3, dvd_gcd ha] at h2'
    exact Int.mul_dvd_mul (Int.dvd_refl _) h2'
  · rintro ⟨k, rfl⟩
    have e1 : ord a b c x y * k = ordT c y * (a / gcdI a (ordA b c x y) * k) := by unfold ord; rw [Int.mul_assoc]
    rw [e1]
    refine ⟨⟨_, rfl⟩, ?_⟩
    rw [key, dvd_gcd ha]
    exact ⟨k, rfl⟩
theorem inN_size {a b c : Int} (hc : 0 < c) (x y : Int) : InN a b c (a * c * x) (a * c * y) := by
  rw [inN_iff]
  have e : a * c * y = c * (a * y) := by rw [Int.mul_comm a, Int.mul_assoc]
  refine ⟨⟨a * y, e⟩, ?_⟩
  rw [e, Int.mul_ediv_cancel_left _ (by omega)]
  refine ⟨c * x - y * b, ?_⟩
  rw [Int.mul_sub, Int.mul_assoc, Int.mul_assoc]
theorem ord_dvd_size {a b c : Int} (ha : 0 < a) (hc : 0 < c) (x y : Int) : ord a b c x y ∣ a * c :=
  (inN_mul ha hc x y _).mp (inN_size hc x y)
theorem ord_neg {a b c : Int} (ha : 0 < a) (hc : 0 < c) (x y : Int) : ord a b c (-x) (-y) = ord a b c x y := by
  have h : ∀ n, ord a b c (-x) (-y) ∣ n ↔ ord a b c x y ∣ n := by
    intro n
    rw [← inN_mul ha hc, ← inN_mul ha hc, Int.mul_neg, Int.mul_neg, inN_neg_iff (by omega)]
  exact Int.dvd_antisymm (Int.le_of_lt (ord_pos ha hc _ _ _)) (Int.le_of_lt (ord_pos ha hc _ _ _)) ((h _).mpr (Int.dvd_refl _)) ((h _).mp (Int.dvd_refl _))
/-- the least number from 1 whose multiple belongs to the net is the order -/
theorem ord_least {a b c : Int} (ha : 0 < a) (hc : 0 < c) {x y n : Int} (hn : 0 < n) (h : InN a b c (n * x) (n * y))
    (hl : ∀ m, 0 < m → m < n → ¬ InN a b c (m * x) (m * y)) : n = ord a b c x y := by
  have h1 := (inN_mul ha hc x y n).mp h
  have h2 := Int.le_of_dvd hn h1
  have h3 := ord_pos ha hc b x y
  have h4 := hl (ord a b c x y) h3
  have h5 := (inN_mul ha hc x y _).mpr (Int.dvd_refl (ord a b c x y))
  have h6 : ¬ ord a b c x y < n := fun z => h4 z h5
  omega
end MV

set_option Elab.async false
set_option linter.all false
set_option maxRecDepth 100000
set_option maxHeartbeats 2000000
/-! Lat: lattices of shifts, numbers only. -/
namespace MV
abbrev Lat := Int → Int → Prop
/-- closed under sums and multiples -/
structure Sub (M : Lat) : Prop where
  z : M 0 0
  add : ∀ {x y u v}, M x y → M u v → M (x + u) (y + v)
  mul : ∀ {x y} (k : Int), M x y → M (k * x) (k * y)
/-- sums of multiples of (a, 0), (b, c) -/
def Lp (a b c : Int) : Lat := fun X Y => ∃ i j, X = i * a + j * b ∧ Y = j * c
/-- a lattice and one more shift -/
def SpF (L : Lat) (s : Int × Int) : Lat := fun X Y => ∃ k, L (X - k * s.1) (Y - k * s.2)
def L0 : Lat := fun X Y => X = 0 ∧ Y = 0
def SpL (ss : List (Int × Int)) : Lat := ss.foldl SpF L0
theorem sub_L0 : Sub L0 := ⟨⟨rfl, rfl⟩, fun h g => ⟨by rw [h.1, g.1]; rfl, by rw [h.2, g.2]; rfl⟩, fun k h => ⟨by rw [h.1, Int.mul_zero], by rw [h.2, Int.mul_zero]⟩⟩
theorem sub_SpF {L : Lat} (h : Sub L) (s : Int × Int) : Sub (SpF L s) where
  z := ⟨0, by simpa using h.z⟩
  add := by
    rintro x y u v ⟨k, a⟩ ⟨l, b⟩
    refine ⟨k + l, ?_⟩
    have := h.add a b
    have e1 : x + u - (k + l) * s.1 = (x - k * s.1) + (u - l * s.1) := by grind
    have e2 : y + v - (k + l) * s.2 = (y - k * s.2) + (v - l * s.2) := by grind
    rw [e1, e2]; exact this
  mul := by
    rintro x y k ⟨l, a⟩
    refine ⟨k * l, ?_⟩
    have := h.mul k a
    have e1 : k * x - k * l * s.1 = k * (x - l * s.1) := by grind
    have e2 : k * y - k * l * s.2 = k * (y - l * s.2) := by grind
    rw [e1, e2]; exact this
theorem sub_fold : ∀ (ss : List (Int × Int)) {L : Lat}, Sub L → Sub (ss.foldl SpF L)
  | [], _, h => h
  | s :: r, _, h => sub_fold r (sub_SpF h s)
theorem sub_SpL (ss : List (Int × Int)) : Sub (SpL ss) := sub_fold ss sub_L0
theorem Sub.neg {M : Lat} (h : Sub M) {x y : Int} (a : M x y) : M (-x) (-y) := by
  have := h.mul (-1) a
  have e1 : -1 * x = -x := by omega
  have e2 : -1 * y = -y := by omega
  rwa [e1, e2] at this
theorem Sub.sub {M : Lat} (h : Sub M) {x y u v : Int} (a : M x y) (b : M u v) : M (x - u) (y - v) := h.add a (h.neg b)
theorem sub_Lp (a b c : Int) : Sub (Lp a b c) where
  z := ⟨0, 0, by simp, by simp⟩
  add := by
    rintro x y u v ⟨i, j, e1, e2⟩ ⟨k, l, e3, e4⟩
    exact ⟨i + k, j + l, by grind, by grind⟩
  mul := by
    rintro x y k ⟨i, j, e1, e2⟩
    exact ⟨k * i, k * j, by grind, by grind⟩
theorem SpF_old {L : Lat} {s : Int × Int} {x y : Int} (a : L x y) : SpF L s x y := ⟨0, by simpa using a⟩
theorem SpF_new {L : Lat} (h : Sub L) (s : Int × Int) : SpF L s s.1 s.2 := ⟨1, by simpa using h.z⟩
theorem fold_old : ∀ (ss : List (Int × Int)) {L : Lat} {x y : Int}, L x y → (ss.foldl SpF L) x y
  | [], _, _, _, a => a
  | _ :: r, _, _, _, a => fold_old r (SpF_old a)
theorem fold_mem : ∀ (ss : List (Int × Int)) {L : Lat}, Sub L → ∀ s ∈ ss, (ss.foldl SpF L) s.1 s.2
  | t :: r, L, h, s, m => by
    rcases List.mem_cons.mp m with rfl | m
    · exact fold_old r (SpF_new h s)
    · exact fold_mem r (sub_SpF h t) s m
theorem SpL_mem {ss : List (Int × Int)} {s : Int × Int} (m : s ∈ ss) : SpL ss s.1 s.2 := fold_mem ss sub_L0 s m
theorem fold_le : ∀ (ss : List (Int × Int)) {L M : Lat}, Sub M → (∀ x y, L x y → M x y) → (∀ s ∈ ss, M s.1 s.2) → ∀ x y, (ss.foldl SpF L) x y → M x y
  | [], _, _, _, a, _, x, y, h => a x y h
  | t :: r, L, M, hM, a, b, x, y, h => by
    refine fold_le r hM (L := SpF L t) ?_ (fun s m => b s (List.mem_cons_of_mem _ m)) x y h
    rintro x y ⟨k, z⟩
    have := hM.add (a _ _ z) (hM.mul k (b t List.mem_cons_self))
    have e1 : x - k * t.1 + k * t.1 = x := by omega
    have e2 : y - k * t.2 + k * t.2 = y := by omega
    rwa [e1, e2] at this
theorem SpL_le {ss : List (Int × Int)} {M : Lat} (hM : Sub M) (b : ∀ s ∈ ss, M s.1 s.2) {x y : Int} (h : SpL ss x y) : M x y :=
  fold_le ss hM (fun x y h => by rw [h.1, h.2]; exact hM.z) b x y h
theorem SpL_eq {ss tt : List (Int × Int)} (h1 : ∀ s ∈ ss, SpL tt s.1 s.2) (h2 : ∀ s ∈ tt, SpL ss s.1 s.2) (x y : Int) : SpL ss x y ↔ SpL tt x y :=
  ⟨SpL_le (sub_SpL _) h1, SpL_le (sub_SpL _) h2⟩
theorem SpL_snoc (ss : List (Int × Int)) (s : Int × Int) : SpL (ss ++ [s]) = SpF (SpL ss) s := by
  unfold SpL
  rw [List.foldl_append]
  rfl
theorem SpL_take {ss : List (Int × Int)} {i : Nat} {s : Int × Int} (h : ss[i]? = some s) : SpL (ss.take (i + 1)) = SpF (SpL (ss.take i)) s := by
  rw [List.take_succ, h]
  exact SpL_snoc _ _
/-! ### one more shift, by Euclid -/
def L3 (a b c x y : Int) : Lat := SpF (Lp a b c) (x, y)
theorem L3_iff {a b c x y X Y : Int} : L3 a b c x y X Y ↔ ∃ i j k, X = i * a + j * b + k * x ∧ Y = j * c + k * y := by
  constructor
  · rintro ⟨k, i, j, e1, e2⟩
    exact ⟨i, j, k, by simp only [] at e1; omega, by simp only [] at e2; omega⟩
  · rintro ⟨i, j, k, e1, e2⟩
    exact ⟨k, i, j, by simp only []; omega, by simp only []; omega⟩
theorem L3_step {a b c x y t X Y : Int} : L3 a x y (b - t * x) (c - t * y) X Y ↔ L3 a b c x y X Y := by
  rw [L3_iff, L3_iff]
  constructor
  · rintro ⟨i, j, k, e1, e2⟩
    exact ⟨i, k, j - t * k, by grind, by grind⟩
  · rintro ⟨i, j, k, e1, e2⟩
    exact ⟨i, k + t * j, j, by grind, by grind⟩
theorem bez (a b : Nat) : ∃ i j : Int, (Nat.gcd a b : Int) = i * a + j * b := by
  induction a, b using Nat.gcd.induction with
  | H0 n => exact ⟨0, 1, by simp⟩
  | H1 m n h ih =>
    obtain ⟨i, j, e⟩ := ih
    refine ⟨j - i * (n / m : Nat), i, ?_⟩
    rw [Nat.gcd_rec, e]
    have := Nat.div_add_mod n m
    have h2 : (n : Int) = m * (n / m : Nat) + (n % m : Nat) := by omega
    grind
theorem bezI (a b : Int) : ∃ i j : Int, gcdI a b = i * a + j * b := by
  obtain ⟨i, j, e⟩ := bez a.natAbs b.natAbs
  have ha : ((a.natAbs : Nat) : Int) = a ∨ ((a.natAbs : Nat) : Int) = -a := by omega
  have hb : ((b.natAbs : Nat) : Int) = b ∨ ((b.natAbs : Nat) : Int) = -b := by omega
  unfold gcdI
  rw [e]
  rcases ha with ha | ha <;> rcases hb with hb | hb <;> rw [ha, hb]
  · exact ⟨i, j, rfl⟩
  · exact ⟨i, -j, by grind⟩
  · exact ⟨-i, j, by grind⟩
  · exact ⟨-i, -j, by grind⟩
theorem L3_end {a b c x X Y : Int} : L3 a b c x 0 X Y ↔ Lp (gcdI a x) b c X Y := by
  rw [L3_iff]
  constructor
  · rintro ⟨i, j, k, e1, e2⟩
    obtain ⟨u, hu⟩ := gcdI_left a x
    obtain ⟨v, hv⟩ := gcdI_right a x
    refine ⟨i * u + k * v, j, ?_, by omega⟩
    have : i * a + k * x = (i * u + k * v) * gcdI a x := by
      generalize gcdI a x = g at hu hv
      subst hu hv
      grind
    omega
  · rintro ⟨i, j, e1, e2⟩
    obtain ⟨u, v, h⟩ := bezI a x
    exact ⟨i * u, j, i * v, by rw [e1, h]; grind, by omega⟩
theorem Lp_neg {a b c X Y : Int} : Lp a (-b) (-c) X Y ↔ Lp a b c X Y :=
  ⟨fun ⟨i, j, e1, e2⟩ => ⟨i, -j, by grind, by grind⟩, fun ⟨i, j, e1, e2⟩ => ⟨i, -j, by grind, by grind⟩⟩
theorem Lp_mod {a b c X Y : Int} : Lp a (b % a) c X Y ↔ Lp a b c X Y := by
  have h := Int.emod_add_mul_ediv b a
  constructor
  · rintro ⟨i, j, e1, e2⟩
    exact ⟨i - j * (b / a), j, by grind, e2⟩
  · rintro ⟨i, j, e1, e2⟩
    exact ⟨i + j * (b / a), j, by grind, e2⟩
/-- the normal form -/
structure NF (a b c : Int) : Prop where
  a0 : 0 ≤ a
  c0 : 0 ≤ c
  b0 : a ≠ 0 → 0 ≤ b ∧ b < a
  z : c = 0 → b = 0
theorem dvd_le {a b : Int} (ha : 0 ≤ a) (hb : 0 ≤ b) (h : a ∣ b) (g : b ∣ a) : a = b := Int.dvd_antisymm ha hb h g
theorem Lp_y {a b c X Y : Int} (h : Lp a b c X Y) : c ∣ Y := by
  obtain ⟨i, j, _, e⟩ := h
  exact ⟨j, by rw [e, Int.mul_comm]⟩
theorem Lp_x {a b c X : Int} (n : NF a b c) (h : Lp a b c X 0) : a ∣ X := by
  obtain ⟨i, j, e1, e2⟩ := h
  refine ⟨i, ?_⟩
  rcases Int.mul_eq_zero.mp e2.symm with rfl | e
  · grind
  · have := n.z e
    grind
theorem Lp_a {a b c : Int} : Lp a b c a 0 := ⟨1, 0, by simp, by simp⟩
theorem Lp_b {a b c : Int} : Lp a b c b c := ⟨0, 1, by simp, by simp⟩
theorem NF.uniq {a b c a' b' c' : Int} (n : NF a b c) (m : NF a' b' c') (e : ∀ X Y, Lp a b c X Y ↔ Lp a' b' c' X Y) : a = a' ∧ c = c' ∧ (a ≠ 0 → b = b') := by
  have h1 : a = a' := dvd_le n.a0 m.a0 (Lp_x n ((e _ _).mpr Lp_a)) (Lp_x m ((e _ _).mp Lp_a))
  have h2 : c = c' := dvd_le n.c0 m.c0 (Lp_y ((e _ _).mpr Lp_b)) (Lp_y ((e _ _).mp Lp_b))
  refine ⟨h1, h2, fun ha => ?_⟩
  subst h1 h2
  have hb := n.b0 ha
  have hb' := m.b0 ha
  have h3 := (sub_Lp a b c).sub ((e _ _).mpr Lp_b) Lp_b
  rw [Int.sub_self] at h3
  obtain ⟨k, hk⟩ := Lp_x n h3
  have : k = 0 := by
    have k1 : k < 1 := by
      refine Int.lt_of_not_ge fun hk1 => ?_
      have := Int.mul_le_mul_of_nonneg_left hk1 (show 0 ≤ a by omega)
      omega
    have k2 : -1 < k := by
      refine Int.lt_of_not_ge fun hk1 => ?_
      have := Int.mul_le_mul_of_nonneg_left hk1 (show 0 ≤ a by omega)
      omega
    omega
  rw [this, Int.mul_zero] at hk
  omega
/-- a b c are the numbers of the lattice of ss -/
structure Nfs (ss : List (Int × Int)) (a b c : Int) : Prop where
  nf : NF a b c
  sp : ∀ X Y, Lp a b c X Y ↔ SpL ss X Y
theorem Nfs.uniq {ss tt : List (Int × Int)} {a b c a' b' c' : Int} (n : Nfs ss a b c) (m : Nfs tt a' b' c') (e : ∀ X Y, SpL ss X Y ↔ SpL tt X Y) : a = a' ∧ c = c' ∧ (a ≠ 0 → b = b') :=
  n.nf.uniq m.nf fun X Y => (n.sp X Y).trans ((e X Y).trans (m.sp X Y).symm)
theorem inN_Lp {a b c X Y : Int} (hc : c ≠ 0) : InN a b c X Y ↔ Lp a b c X Y := by
  rw [inN_iff]
  constructor
  · rintro ⟨⟨k, rfl⟩, l, h⟩
    rw [Int.mul_ediv_cancel_left _ hc] at h
    exact ⟨l, k, by grind, by grind⟩
  · rintro ⟨i, j, rfl, rfl⟩
    refine ⟨⟨j, by grind⟩, i, ?_⟩
    rw [Int.mul_ediv_cancel _ hc]
    grind
/-! ### bounds of Euclid's steps -/
structure EB (C M : Nat) (b c x y : Int) : Prop where
  hc : c.natAbs ≤ C
  hy : y.natAbs ≤ C
  hb : b.natAbs ≤ M
  hx : x.natAbs ≤ M
  g : x.natAbs * (if c * y < 0 then c.natAbs + 2 * y.natAbs else c.natAbs) + b.natAbs * y.natAbs ≤ M
theorem EB.start {C B : Nat} {b c x y : Int} (h1 : 1 ≤ C) (hc : c.natAbs ≤ C) (hy : y.natAbs ≤ C) (hb : b.natAbs ≤ B) (hx : x.natAbs ≤ B) : EB C (4 * C * B) b c x y := by
  have k0 : B ≤ 4 * C * B := by
    have := Nat.mul_le_mul_right B (show 1 ≤ 4 * C by omega)
    omega
  refine ⟨hc, hy, by omega, by omega, ?_⟩
  have k1 : x.natAbs * (if c * y < 0 then c.natAbs + 2 * y.natAbs else c.natAbs) ≤ B * (3 * C) := by
    refine Nat.mul_le_mul hx ?_
    split <;> omega
  have k2 : b.natAbs * y.natAbs ≤ B * C := Nat.mul_le_mul hb hy
  have k3 : 4 * C * B = B * (3 * C) + B * C := by grind
  omega
theorem fd_pos {c y : Int} (h : 0 < y) : c.fdiv y = c / y := Int.fdiv_eq_ediv_of_nonneg c (by omega)
theorem fd_neg {c y : Int} (h : y < 0) : c.fdiv y = (-c) / (-y) := by
  rw [← Int.neg_fdiv_neg, Int.fdiv_eq_ediv_of_nonneg _ (by omega)]
/-- what floor division leaves -/
theorem fd_rest {c y : Int} (h : y ≠ 0) : (c - c.fdiv y * y).natAbs < y.natAbs ∧ ¬ y * (c - c.fdiv y * y) < 0 ∧
    (c.fdiv y).natAbs * y.natAbs + (c - c.fdiv y * y).natAbs ≤ (if c * y < 0 then c.natAbs + 2 * y.natAbs else c.natAbs) := by
  have key : ∀ c y : Int, 0 < y → (c - c / y * y).natAbs < y.natAbs ∧ ¬ y * (c - c / y * y) < 0 ∧ (c / y).natAbs * y.natAbs + (c - c / y * y).natAbs ≤ (if c * y < 0 then c.natAbs + 2 * y.natAbs else c.natAbs) := by
    intro c y hy
    have e := Int.emod_add_mul_ediv c y
    have r0 := Int.emod_nonneg c (show y ≠ 0 by omega)
    have r1 := Int.emod_lt_of_pos c hy
    have er : c - c / y * y = c % y := by rw [Int.mul_comm (c / y) y]; omega
    rw [er]
    have hm := Int.mul_nonneg (show 0 ≤ y by omega) r0
    refine ⟨by omega, by omega, ?_⟩
    rw [← Int.natAbs_mul, Int.mul_comm (c / y) y]
    by_cases hc : c < 0
    · rw [if_pos (Int.mul_neg_of_neg_of_pos hc hy)]
      omega
    · have := Int.mul_nonneg (show 0 ≤ c by omega) (show 0 ≤ y by omega)
      rw [if_neg (by omega)]
      have q := Int.ediv_nonneg (show 0 ≤ c by omega) (show 0 ≤ y by omega)
      have := Int.mul_nonneg (show 0 ≤ y by omega) q
      omega
  rcases Int.lt_or_gt_of_ne h with h | h
  · have k := key (-c) (-y) (by omega)
    rw [fd_neg h]
    have e1 : -c - -c / -y * -y = -(c - -c / -y * y) := by grind
    have e2 : -y * -(c - -c / -y * y) = y * (c - -c / -y * y) := by grind
    have e3 : -c * -y = c * y := by grind
    rw [e1, e2, e3, Int.natAbs_neg, Int.natAbs_neg, Int.natAbs_neg] at k
    exact k
  · rw [fd_pos h]
    exact key c y h
theorem EB.step {C M : Nat} {b c x y : Int} (h : EB C M b c x y) (hy : y ≠ 0) : EB C M x y (b - c.fdiv y * x) (c - c.fdiv y * y) := by
  obtain ⟨h1, h2, h3⟩ := fd_rest (c := c) hy
  have y1 : 1 ≤ y.natAbs := by omega
  have hg := h.g
  generalize (if c * y < 0 then c.natAbs + 2 * y.natAbs else c.natAbs) = W at h3 hg
  have m1 : (b - c.fdiv y * x).natAbs ≤ b.natAbs + (c.fdiv y).natAbs * x.natAbs := by
    have := Int.natAbs_mul (c.fdiv y) x
    omega
  have m2 : (b - c.fdiv y * x).natAbs * y.natAbs + x.natAbs * (c - c.fdiv y * y).natAbs ≤ M := by
    have k1 := Nat.mul_le_mul_right y.natAbs m1
    have k2 := Nat.mul_le_mul_left x.natAbs h3
    have k3 : (b.natAbs + (c.fdiv y).natAbs * x.natAbs) * y.natAbs = b.natAbs * y.natAbs + x.natAbs * ((c.fdiv y).natAbs * y.natAbs) := by grind
    have k4 : x.natAbs * ((c.fdiv y).natAbs * y.natAbs + (c - c.fdiv y * y).natAbs) = x.natAbs * ((c.fdiv y).natAbs * y.natAbs) + x.natAbs * (c - c.fdiv y * y).natAbs := by grind
    omega
  refine ⟨h.hy, Nat.le_trans (Nat.le_of_lt h1) h.hy, h.hx, ?_, ?_⟩
  · have := Nat.mul_le_mul_left (b - c.fdiv y * x).natAbs y1
    omega
  · rw [if_neg h2]
    exact m2
theorem fd_le {c y : Int} : (c.fdiv y).natAbs ≤ c.natAbs := by
  by_cases h : y = 0
  · subst h; simp
  · rcases Int.lt_or_gt_of_ne h with h | h
    · rw [fd_neg h]
      have := Int.natAbs_ediv_le_natAbs (-c) (-y)
      omega
    · rw [fd_pos h]
      exact Int.natAbs_ediv_le_natAbs c y
end MV

set_option Elab.async false
set_option linter.all false
set_option maxRecDepth 100000
set_option maxHeartbeats 2000000
/-! Lat2: meets of nets by way of their duals; the sizes of meet and join. -/
namespace MV
/-- what a net is by products with its two shifts -/
theorem lp_cross {a b c X Y : Int} (ha : 0 < a) (hc : 0 < c) : Lp a b c X Y ↔ a * c ∣ Y * a ∧ a * c ∣ X * c - Y * b := by
  constructor
  · rintro ⟨i, j, rfl, rfl⟩
    exact ⟨⟨j, by grind⟩, ⟨i, by grind⟩⟩
  · rintro ⟨⟨k, e1⟩, ⟨l, e2⟩⟩
    have hY : Y = k * c := by
      have : a * Y = a * (k * c) := by grind
      exact Int.eq_of_mul_eq_mul_left (by omega) this
    refine ⟨l, k, ?_, hY⟩
    have : c * X = c * (l * a + k * b) := by grind
    exact Int.eq_of_mul_eq_mul_left (by omega) this
/-- the products with (X, Y) that N divides -/
theorem sub_cross (N X Y : Int) : Sub (fun u v => N ∣ X * v - Y * u) where
  z := ⟨0, by grind⟩
  add := by
    rintro x y u v ⟨k, e1⟩ ⟨l, e2⟩
    exact ⟨k + l, by grind⟩
  mul := by
    rintro x y k ⟨l, e⟩
    exact ⟨k * l, by grind⟩
theorem dvd_cancel {n m x : Int} (hm : 0 < m) (h : n * m ∣ x * m) : n ∣ x := by
  obtain ⟨k, e⟩ := h
  refine ⟨k, ?_⟩
  have : m * x = m * (n * k) := by grind
  exact Int.eq_of_mul_eq_mul_left (by omega) this
abbrev wide4 (a1 b1 c1 a2 b2 c2 : Int) : List (Int × Int) := [(a1 * (a2 * c2), 0), (b1 * (a2 * c2), c1 * (a2 * c2)), (a2 * (a1 * c1), 0), (b2 * (a1 * c1), c2 * (a1 * c1))]
theorem meet_dual {a1 b1 c1 a2 b2 c2 X Y : Int} (h1 : 0 < a1) (h2 : 0 < c1) (h3 : 0 < a2) (h4 : 0 < c2) :
    (Lp a1 b1 c1 X Y ∧ Lp a2 b2 c2 X Y) ↔ ∀ u v, SpL (wide4 a1 b1 c1 a2 b2 c2) u v → a1 * c1 * (a2 * c2) ∣ X * v - Y * u := by
  have n1 : 0 < a1 * c1 := Int.mul_pos h1 h2
  have n2 : 0 < a2 * c2 := Int.mul_pos h3 h4
  rw [lp_cross h1 h2, lp_cross h3 h4]
  constructor
  · rintro ⟨⟨⟨k1, e1⟩, ⟨k2, e2⟩⟩, ⟨⟨k3, e3⟩, ⟨k4, e4⟩⟩⟩ u v h
    refine SpL_le (sub_cross _ X Y) (fun s hs => ?_) h
    simp only [List.mem_cons, List.not_mem_nil, or_false] at hs
    rcases hs with rfl | rfl | rfl | rfl
    · exact ⟨-k1, by simp only []; grind⟩
    · exact ⟨k2, by simp only []; grind⟩
    · exact ⟨-k3, by simp only []; grind⟩
    · exact ⟨k4, by simp only []; grind⟩
  · intro h
    have m : ∀ s ∈ wide4 a1 b1 c1 a2 b2 c2, a1 * c1 * (a2 * c2) ∣ X * s.2 - Y * s.1 := fun s hs => h _ _ (SpL_mem hs)
    have g1 := m (a1 * (a2 * c2), 0) (by simp)
    have g2 := m (b1 * (a2 * c2), c1 * (a2 * c2)) (by simp)
    have g3 := m (a2 * (a1 * c1), 0) (by simp)
    have g4 := m (b2 * (a1 * c1), c2 * (a1 * c1)) (by simp)
    simp only [] at g1 g2 g3 g4
    refine ⟨⟨?_, ?_⟩, ⟨?_, ?_⟩⟩
    · refine dvd_cancel n2 ?_
      have e : Y * a1 * (a2 * c2) = -(X * 0 - Y * (a1 * (a2 * c2))) := by grind
      rw [e]; exact Int.dvd_neg.mpr g1
    · refine dvd_cancel n2 ?_
      have e : (X * c1 - Y * b1) * (a2 * c2) = X * (c1 * (a2 * c2)) - Y * (b1 * (a2 * c2)) := by grind
      rw [e]; exact g2
    · refine dvd_cancel n1 ?_
      have e : Y * a2 * (a1 * c1) = -(X * 0 - Y * (a2 * (a1 * c1))) := by grind
      rw [e, Int.mul_comm (a2 * c2)]; exact Int.dvd_neg.mpr g3
    · refine dvd_cancel n1 ?_
      have e : (X * c2 - Y * b2) * (a1 * c1) = X * (c2 * (a1 * c1)) - Y * (b2 * (a1 * c1)) := by grind
      rw [e, Int.mul_comm (a2 * c2)]; exact g4
/-- the numbers of the meet out of those of the wide net -/
structure Meet (N a b c A B C : Int) : Prop where
  ea : a * N = A * (a * c)
  eb : b * N = B * (a * c)
  ec : c * N = C * (a * c)
  pa : 0 < A
  pc : 0 < C
  b0 : 0 ≤ B
  ba : B < A
theorem meet_nums {a1 b1 c1 a2 b2 c2 a b c : Int} (h1 : 0 < a1) (h2 : 0 < c1) (h3 : 0 < a2) (h4 : 0 < c2) (ha : 0 < a) (hc : 0 < c) (n : Nfs (wide4 a1 b1 c1 a2 b2 c2) a b c) :
    ∃ A B C, Meet (a1 * c1 * (a2 * c2)) a b c A B C ∧ ∀ X Y, Lp A B C X Y ↔ Lp a1 b1 c1 X Y ∧ Lp a2 b2 c2 X Y := by
  have N0 : 0 < a1 * c1 * (a2 * c2) := Int.mul_pos (Int.mul_pos h1 h2) (Int.mul_pos h3 h4)
  have sb := sub_SpL (wide4 a1 b1 c1 a2 b2 c2)
  have mem : ∀ s ∈ wide4 a1 b1 c1 a2 b2 c2, SpL (wide4 a1 b1 c1 a2 b2 c2) s.1 s.2 := fun s hs => SpL_mem hs
  have g1 := mem (a1 * (a2 * c2), 0) (by simp)
  have g2 := mem (b1 * (a2 * c2), c1 * (a2 * c2)) (by simp)
  have k1 : Lp a b c (a1 * c1 * (a2 * c2)) 0 := by
    rw [n.sp]
    have := sb.mul c1 g1
    have e1 : c1 * (a1 * (a2 * c2)) = a1 * c1 * (a2 * c2) := by grind
    have e2 : c1 * (0 : Int) = 0 := by omega
    simp only [e1, e2] at this
    exact this
  have k2 : Lp a b c 0 (a1 * c1 * (a2 * c2)) := by
    rw [n.sp]
    have := sb.sub (sb.mul a1 g2) (sb.mul b1 g1)
    have e1 : a1 * (b1 * (a2 * c2)) - b1 * (a1 * (a2 * c2)) = 0 := by grind
    have e2 : a1 * (c1 * (a2 * c2)) - b1 * (0 : Int) = a1 * c1 * (a2 * c2) := by grind
    simp only [e1, e2] at this
    exact this
  obtain ⟨C, eC⟩ := Lp_x n.nf k1
  obtain ⟨A, eA⟩ := Lp_y k2
  obtain ⟨_, ⟨B', eB⟩⟩ := (lp_cross ha hc).mp k2
  have hN := fun X Y : Int => meet_dual (b1 := b1) (b2 := b2) (X := X) (Y := Y) h1 h2 h3 h4
  generalize a1 * c1 * (a2 * c2) = N at *
  have pC : 0 < C := by
    rcases Int.lt_or_le 0 C with h | h
    · exact h
    · have := Int.mul_le_mul_of_nonneg_left h (show 0 ≤ a by omega)
      omega
  have pA : 0 < A := by
    rcases Int.lt_or_le 0 A with h | h
    · exact h
    · have := Int.mul_le_mul_of_nonneg_left h (show 0 ≤ c by omega)
      omega
  have hb := n.nf.b0 (by omega)
  have ebA : b * A = a * (-B') := by
    have : c * (b * A) = c * (a * (-B')) := by grind
    exact Int.eq_of_mul_eq_mul_left (by omega) this
  have ebC : b * C = c * (-B') := by
    have : a * (b * C) = a * (c * (-B')) := by grind
    exact Int.eq_of_mul_eq_mul_left (by omega) this
  have B0 : 0 ≤ -B' := by
    rcases Int.lt_or_le (-B') 0 with h | h
    · have h5 := Int.mul_neg_of_pos_of_neg ha h
      have h6 := Int.mul_nonneg hb.1 (show 0 ≤ A by omega)
      omega
    · exact h
  have BA : -B' < A := by
    rcases Int.lt_or_le (-B') A with h | h
    · exact h
    · have h5 := Int.mul_le_mul_of_nonneg_left h (show 0 ≤ a by omega)
      have h6 := Int.mul_lt_mul_of_pos_right hb.2 pA
      omega
  refine ⟨A, -B', C, ⟨by grind, by grind, by grind, pA, pC, B0, BA⟩, fun X Y => ?_⟩
  rw [hN]
  constructor
  · rintro ⟨i, j, rfl, rfl⟩ u v h
    obtain ⟨k, l, rfl, rfl⟩ := (n.sp u v).mpr h
    exact ⟨i * l - j * k, by grind⟩
  · intro h
    have d1 := h _ _ ((n.sp _ _).mp Lp_a)
    have d2 := h _ _ ((n.sp _ _).mp Lp_b)
    obtain ⟨k, e1⟩ := d1
    obtain ⟨l, e2⟩ := d2
    have hY : Y = -k * C := by
      have : a * Y = a * (-k * C) := by grind
      exact Int.eq_of_mul_eq_mul_left (by omega) this
    refine ⟨l, -k, ?_, hY⟩
    have : c * X = c * (l * A + -k * -B') := by grind
    exact Int.eq_of_mul_eq_mul_left (by omega) this
/-! ### the sizes -/
theorem cop_dvd {p q j m u v : Int} (h : u * p + v * q = 1) (e : p * j = q * m) : q ∣ j := ⟨u * m + v * j, by grind⟩
abbrev rows4 (a1 b1 c1 a2 b2 c2 : Int) : List (Int × Int) := [(a1, 0), (b1, c1), (a2, 0), (b2, c2)]
theorem rows_iff {a1 b1 c1 a2 b2 c2 X Y : Int} : SpL (rows4 a1 b1 c1 a2 b2 c2) X Y ↔ ∃ i j k l, X = i * a1 + j * b1 + k * a2 + l * b2 ∧ Y = j * c1 + l * c2 := by
  constructor
  · rintro ⟨l, k, j, i, e1, e2⟩
    simp only [] at e1 e2
    exact ⟨i, j, k, l, by omega, by omega⟩
  · rintro ⟨i, j, k, l, e1, e2⟩
    exact ⟨l, k, j, i, by simp only []; omega, by simp only []; omega⟩
theorem sz1 {p q j1 j2 z : Int} (e5 : p * j1 = q * j2) (ez : j1 = q * z) : q * j2 = q * (p * z) := by subst ez; grind
theorem sz2 {B i1 a1 j1 b1 i2 a2 j2 b2 q p z h r1 r2 d : Int} (e1 : B = i1 * a1 + j1 * b1) (e3 : B = i2 * a2 + j2 * b2) (ez : j1 = q * z) (ez2 : j2 = p * z) (er1 : a1 = h * r1) (er2 : a2 = h * r2) (hd : q * b1 - p * b2 = d) :
    z * d = h * (i2 * r2 - i1 * r1) := by subst ez ez2 er1 er2 hd; grind
theorem sz3 {h a h' d d' z X : Int} (eh : h = a * h') (ed : d = a * d') (e : z * d = h * X) : a * (h' * X) = a * (d' * z) := by subst eh ed; grind
theorem sz4 {C j1 c1 q z g p h' y : Int} (e2 : C = j1 * c1) (ez : j1 = q * z) (ep : c1 = g * p) (ey : z = h' * y) : C = g * p * q * h' * y := by subst ez ep ey; grind
theorem sizes {a1 b1 c1 a2 b2 c2 a b c A B C : Int} (h1 : 0 < a1) (h2 : 0 < c1) (h3 : 0 < a2) (h4 : 0 < c2) (n : Nfs (rows4 a1 b1 c1 a2 b2 c2) a b c) (m : NF A B C)
    (e : ∀ X Y, Lp A B C X Y ↔ Lp a1 b1 c1 X Y ∧ Lp a2 b2 c2 X Y) : A * C * (a * c) = a1 * c1 * (a2 * c2) := by
  -- c is the divisor of c1 and c2
  obtain ⟨u, v, eg⟩ := bezI c1 c2
  obtain ⟨p, ep⟩ := gcdI_left c1 c2
  obtain ⟨q, eq⟩ := gcdI_right c1 c2
  have g0 : 0 < gcdI c1 c2 := gcdI_pos h2 c2
  generalize gcdI c1 c2 = g at *
  have cop : u * p + v * q = 1 := by
    have : g * (u * p + v * q) = g * 1 := by grind
    exact Int.eq_of_mul_eq_mul_left (by omega) this
  have ec : c = g := by
    refine Int.dvd_antisymm n.nf.c0 (by omega) ?_ ?_
    · have k : Lp a b c (u * b1 + v * b2) g := (n.sp _ _).mpr (rows_iff.mpr ⟨0, u, 0, v, by omega, by omega⟩)
      exact Lp_y k
    · obtain ⟨i, j, k, l, _, e2⟩ := rows_iff.mp ((n.sp _ _).mp Lp_b)
      rw [e2, ep, eq]
      exact ⟨j * p + l * q, by grind⟩
  -- h is the divisor of a1 and a2
  obtain ⟨s, t, eh⟩ := bezI a1 a2
  obtain ⟨r1, er1⟩ := gcdI_left a1 a2
  obtain ⟨r2, er2⟩ := gcdI_right a1 a2
  have h0 : 0 < gcdI a1 a2 := gcdI_pos h1 a2
  generalize gcdI a1 a2 = h at *
  have cop2 : s * r1 + t * r2 = 1 := by
    have : h * (s * r1 + t * r2) = h * 1 := by grind
    exact Int.eq_of_mul_eq_mul_left (by omega) this
  have r10 : 0 < r1 := by
    rcases Int.lt_or_le 0 r1 with z | z
    · exact z
    · have := Int.mul_le_mul_of_nonneg_left z (show 0 ≤ h by omega)
      omega
  have r20 : 0 < r2 := by
    rcases Int.lt_or_le 0 r2 with z | z
    · exact z
    · have := Int.mul_le_mul_of_nonneg_left z (show 0 ≤ h by omega)
      omega
  have p0 : 0 < p := by
    rcases Int.lt_or_le 0 p with z | z
    · exact z
    · have := Int.mul_le_mul_of_nonneg_left z (show 0 ≤ g by omega)
      omega
  have q0 : 0 < q := by
    rcases Int.lt_or_le 0 q with z | z
    · exact z
    · have := Int.mul_le_mul_of_nonneg_left z (show 0 ≤ g by omega)
      omega
  -- A is the multiple of a1 and a2
  have hr : 0 < h * r1 * r2 := Int.mul_pos (Int.mul_pos h0 r10) r20
  have eA : A = h * r1 * r2 := by
    refine Int.dvd_antisymm m.a0 (by omega) ?_ ?_
    · refine Lp_x m ((e _ _).mpr ⟨⟨r2, 0, by grind, by omega⟩, ⟨r1, 0, by grind, by omega⟩⟩)
    · obtain ⟨⟨i, j, e1, e2⟩, ⟨k, l, e3, e4⟩⟩ := (e _ _).mp Lp_a
      have j0 : j = 0 := by
        rcases Int.mul_eq_zero.mp e2.symm with z | z <;> omega
      have l0 : l = 0 := by
        rcases Int.mul_eq_zero.mp e4.symm with z | z <;> omega
      subst j0 l0
      have e5 : r1 * i = r2 * k := by
        have : h * (r1 * i) = h * (r2 * k) := by grind
        exact Int.eq_of_mul_eq_mul_left (by omega) this
      obtain ⟨z, ez⟩ := cop_dvd cop2 e5
      exact ⟨z, by grind⟩
  -- a is the divisor of h and of d
  have key : ∀ x, Lp a b c x 0 ↔ ∃ i k w, x = i * a1 + k * a2 + w * (q * b1 - p * b2) := by
    intro x
    rw [n.sp, rows_iff]
    constructor
    · rintro ⟨i, j, k, l, e1, e2⟩
      have e5 : p * j = q * (-l) := by
        have : g * (p * j) = g * (q * (-l)) := by grind
        exact Int.eq_of_mul_eq_mul_left (by omega) this
      obtain ⟨w, ew⟩ := cop_dvd cop e5
      have el : l = -(p * w) := by
        have : q * l = q * (-(p * w)) := by grind
        exact Int.eq_of_mul_eq_mul_left (by omega) this
      exact ⟨i, k, w, by grind⟩
    · rintro ⟨i, k, w, rfl⟩
      exact ⟨i, w * q, k, -(w * p), by grind, by grind⟩
  generalize hd : q * b1 - p * b2 = d at key
  have da1 : a ∣ h := by
    refine Lp_x n.nf ((key h).mpr ⟨s, t, 0, by omega⟩)
  have da2 : a ∣ d := Lp_x n.nf ((key d).mpr ⟨0, 0, 1, by omega⟩)
  obtain ⟨h', eh'⟩ := da1
  obtain ⟨d', ed'⟩ := da2
  have a0 : 0 < a := by
    rcases Int.lt_or_le 0 a with z | z
    · exact z
    · have := n.nf.a0
      have z0 : a = 0 := by omega
      rw [z0] at eh'
      omega
  have h'0 : 0 < h' := by
    rcases Int.lt_or_le 0 h' with z | z
    · exact z
    · have := Int.mul_le_mul_of_nonneg_left z (show 0 ≤ a by omega)
      omega
  obtain ⟨i, k, w, ea⟩ := (key a).mp Lp_a
  have cop3 : (i * r1 + k * r2) * h' + w * d' = 1 := by
    have : a * ((i * r1 + k * r2) * h' + w * d') = a * 1 := by grind
    exact Int.eq_of_mul_eq_mul_left (by omega) this
  -- C
  have gpq : 0 < g * p * q * h' := Int.mul_pos (Int.mul_pos (Int.mul_pos g0 p0) q0) h'0
  have eC : C = g * p * q * h' := by
    refine Int.dvd_antisymm m.c0 (by omega) ?_ ?_
    · -- such a shift is there
      have mem : Lp A B C (h' * q * b1 - d' * s * a1) (g * p * q * h') := by
        refine (e _ _).mpr ⟨⟨-(d' * s), h' * q, by grind, by grind⟩, ⟨d' * t, h' * p, ?_, by grind⟩⟩
        have e6 : h' * d = d' * (s * a1 + t * a2) := by grind
        grind
      exact Lp_y mem
    · obtain ⟨⟨i1, j1, e1, e2⟩, ⟨i2, j2, e3, e4⟩⟩ := (e _ _).mp Lp_b
      have e5 : p * j1 = q * j2 := by
        have : g * (p * j1) = g * (q * j2) := by rw [← Int.mul_assoc, ← Int.mul_assoc, ← ep, ← eq, Int.mul_comm c1, Int.mul_comm c2, ← e2, ← e4]
        exact Int.eq_of_mul_eq_mul_left (by omega) this
      obtain ⟨z, ez⟩ := cop_dvd cop e5
      have ez2 : j2 = p * z := by
        have : q * j2 = q * (p * z) := sz1 e5 ez
        exact Int.eq_of_mul_eq_mul_left (by omega) this
      have e6 : z * d = h * (i2 * r2 - i1 * r1) := sz2 e1 e3 ez ez2 er1 er2 hd
      have e7 : h' * (i2 * r2 - i1 * r1) = d' * z := by
        have : a * (h' * (i2 * r2 - i1 * r1)) = a * (d' * z) := sz3 eh' ed' e6
        exact Int.eq_of_mul_eq_mul_left (by omega) this
      obtain ⟨y, ey⟩ := cop_dvd (u := w) (v := i * r1 + k * r2) (p := d') (q := h') (j := z) (m := i2 * r2 - i1 * r1) (by rw [Int.add_comm]; exact cop3) e7.symm
      exact ⟨y, sz4 e2 ez ep ey⟩
  rw [eA, eC, ec]
  grind
end MV

set_option Elab.async false
set_option linter.all false
set_option maxRecDepth 100000
set_option maxHeartbeats 2000000
/-! Mot07Math: the eight kinds, numbers only. -/
namespace MV
open PySem
abbrev Mat := Int × Int × Int × Int
def KNS : List (Str × Mat) := [("none", 1, 0, 0, 1), ("left", 0, -1, 1, 0), ("half", -1, 0, 0, -1), ("right", 0, 1, -1, 0), ("flip", 1, 0, 0, -1), ("mirror", -1, 0, 0, 1), ("swap", 0, 1, 1, 0), ("cross", 0, -1, -1, 0)]
/-- k is the kind of the matrix m -/
def Kd (k : Str) (m : Mat) : Prop := (k, m) ∈ KNS
def mx (m : Mat) (x y : Int) : Int := m.1 * x + m.2.1 * y
def my (m : Mat) (x y : Int) : Int := m.2.2.1 * x + m.2.2.2 * y
/-- first n, then m -/
def mmul (m n : Mat) : Mat := (m.1 * n.1 + m.2.1 * n.2.2.1, m.1 * n.2.1 + m.2.1 * n.2.2.2, m.2.2.1 * n.1 + m.2.2.2 * n.2.2.1, m.2.2.1 * n.2.1 + m.2.2.2 * n.2.2.2)
def mone : Mat := (1, 0, 0, 1)
theorem Kd.cases {k : Str} {m : Mat} (h : Kd k m) : (k = "none" ∧ m = (1, 0, 0, 1)) ∨ (k = "left" ∧ m = (0, -1, 1, 0)) ∨ (k = "half" ∧ m = (-1, 0, 0, -1)) ∨ (k = "right" ∧ m = (0, 1, -1, 0)) ∨
    (k = "flip" ∧ m = (1, 0, 0, -1)) ∨ (k = "mirror" ∧ m = (-1, 0, 0, 1)) ∨ (k = "swap" ∧ m = (0, 1, 1, 0)) ∨ (k = "cross" ∧ m = (0, -1, -1, 0)) := by
  unfold Kd KNS at h
  simp only [List.mem_cons, List.not_mem_nil, or_false, Prod.mk.injEq] at h
  rcases h with ⟨h1, h2⟩ | ⟨h1, h2⟩ | ⟨h1, h2⟩ | ⟨h1, h2⟩ | ⟨h1, h2⟩ | ⟨h1, h2⟩ | ⟨h1, h2⟩ | ⟨h1, h2⟩ <;> simp [h1, h2, Prod.ext_iff]
theorem mat_list : ∀ t ∈ KNS, t.2 = (1, 0, 0, 1) ∨ t.2 = (0, -1, 1, 0) ∨ t.2 = (-1, 0, 0, -1) ∨ t.2 = (0, 1, -1, 0) ∨ t.2 = (1, 0, 0, -1) ∨ t.2 = (-1, 0, 0, 1) ∨ t.2 = (0, 1, 1, 0) ∨ t.2 = (0, -1, -1, 0) := by decide +kernel
theorem Kd.mat {k : Str} {m : Mat} (h : Kd k m) : m = (1, 0, 0, 1) ∨ m = (0, -1, 1, 0) ∨ m = (-1, 0, 0, -1) ∨ m = (0, 1, -1, 0) ∨ m = (1, 0, 0, -1) ∨ m = (-1, 0, 0, 1) ∨ m = (0, 1, 1, 0) ∨ m = (0, -1, -1, 0) := mat_list _ h
theorem uniq_list : ∀ t ∈ KNS, ∀ u ∈ KNS, mx t.2 1 2 = mx u.2 1 2 → my t.2 1 2 = my u.2 1 2 → t.1 = u.1 := by decide +kernel
theorem mul_list : ∀ t ∈ KNS, ∀ u ∈ KNS, ∃ v ∈ KNS, v.2 = mmul u.2 t.2 := by decide +kernel
theorem Kd.mul {k l : Str} {m n : Mat} (h : Kd k m) (g : Kd l n) : ∃ j, Kd j (mmul n m) := by
  obtain ⟨⟨j, a⟩, h1, h2⟩ := mul_list _ h _ g
  exact ⟨j, by cases h2; exact h1⟩
theorem inv_list : ∀ t ∈ KNS, ∃ v ∈ KNS, mmul v.2 t.2 = mone ∧ mmul t.2 v.2 = mone := by decide +kernel
theorem Kd.inv {k : Str} {m : Mat} (h : Kd k m) : ∃ j n, Kd j n ∧ mmul n m = mone ∧ mmul m n = mone := by
  obtain ⟨⟨j, a⟩, h1, h2⟩ := inv_list _ h
  exact ⟨j, a, h1, h2⟩
theorem invu_list : ∀ t ∈ KNS, ∀ u ∈ KNS, ∀ v ∈ KNS, mx u.2 (mx t.2 1 2) (my t.2 1 2) = 1 → my u.2 (mx t.2 1 2) (my t.2 1 2) = 2 → mx v.2 (mx t.2 1 2) (my t.2 1 2) = 1 → my v.2 (mx t.2 1 2) (my t.2 1 2) = 2 → u.1 = v.1 := by decide +kernel
theorem four_list : ∀ t ∈ KNS, mmul t.2 (mmul t.2 (mmul t.2 t.2)) = mone := by decide +kernel
theorem inj_list : ∀ t ∈ KNS, ∀ u ∈ KNS, t.2 = u.2 → t.1 = u.1 := by decide +kernel
theorem key_list : ∀ t ∈ KNS, ∀ u ∈ KNS, t.1 = u.1 → t.2 = u.2 := by decide +kernel
theorem Kd.same {k l : Str} {m : Mat} (h : Kd k m) (g : Kd l m) : k = l := inj_list _ h _ g rfl
theorem Kd.det {k : Str} {m n : Mat} (h : Kd k m) (g : Kd k n) : m = n := key_list _ h _ g rfl
theorem mx_mul (m n : Mat) (x y : Int) : mx m (mx n x y) (my n x y) = mx (mmul m n) x y := by
  unfold mx my mmul
  simp only [Int.mul_add, Int.add_mul, Int.mul_assoc]
  omega
theorem my_mul (m n : Mat) (x y : Int) : my m (mx n x y) (my n x y) = my (mmul m n) x y := by
  unfold mx my mmul
  simp only [Int.mul_add, Int.add_mul, Int.mul_assoc]
  omega
theorem mx_one (x y : Int) : mx mone x y = x := by show (1 : Int) * x + 0 * y = x; omega
theorem my_one (x y : Int) : my mone x y = y := by show (0 : Int) * x + 1 * y = y; omega
theorem Kd.bound {k : Str} {m : Mat} (h : Kd k m) (x y : Int) : ((mx m x y).natAbs = x.natAbs ∧ (my m x y).natAbs = y.natAbs) ∨ ((mx m x y).natAbs = y.natAbs ∧ (my m x y).natAbs = x.natAbs) := by
  unfold mx my
  rcases h.mat with rfl | rfl | rfl | rfl | rfl | rfl | rfl | rfl <;> simp only [] <;> omega
theorem Kd.coef {k : Str} {m : Mat} (h : Kd k m) : m.1.natAbs ≤ 1 ∧ m.2.1.natAbs ≤ 1 ∧ m.2.2.1.natAbs ≤ 1 ∧ m.2.2.2.natAbs ≤ 1 := by
  rcases h.mat with rfl | rfl | rfl | rfl | rfl | rfl | rfl | rfl <;> decide
theorem mx_add (m : Mat) (x y u v : Int) : mx m (x + u) (y + v) = mx m x y + mx m u v := by
  unfold mx; rw [Int.mul_add, Int.mul_add]; omega
theorem my_add (m : Mat) (x y u v : Int) : my m (x + u) (y + v) = my m x y + my m u v := by
  unfold my; rw [Int.mul_add, Int.mul_add]; omega
theorem mx_neg (m : Mat) (x y : Int) : mx m (-x) (-y) = -mx m x y := by
  unfold mx; rw [Int.mul_neg, Int.mul_neg]; omega
theorem my_neg (m : Mat) (x y : Int) : my m (-x) (-y) = -my m x y := by
  unfold my; rw [Int.mul_neg, Int.mul_neg]; omega
end MV

set_option Elab.async false
set_option linter.all false
set_option maxRecDepth 100000
set_option maxHeartbeats 2000000
/-! Lat3: nets under the kinds of motions. -/
namespace MV
open PySem
/-- the second net is the image of the first one -/
def Im (m : Mat) (a b c a' b' c' : Int) : Prop := ∀ X Y, Lp a' b' c' (mx m X Y) (my m X Y) ↔ Lp a b c X Y
abbrev img2 (m : Mat) (a b c : Int) : List (Int × Int) := [(mx m a 0, my m a 0), (mx m b c, my m b c)]
theorem lin_x (m : Mat) (i j a b c : Int) : mx m (i * a + j * b) (j * c) = i * mx m a 0 + j * mx m b c := by unfold mx; grind
theorem lin_y (m : Mat) (i j a b c : Int) : my m (i * a + j * b) (j * c) = i * my m a 0 + j * my m b c := by unfold my; grind
theorem kd_inj {k : Str} {m : Mat} (h : Kd k m) {x y u v : Int} (e1 : mx m x y = mx m u v) (e2 : my m x y = my m u v) : x = u ∧ y = v := by
  obtain ⟨j, n, _, e, _⟩ := h.inv
  have a1 := mx_mul n m x y
  have a2 := mx_mul n m u v
  have b1 := my_mul n m x y
  have b2 := my_mul n m u v
  rw [e, mx_one] at a1 a2
  rw [e, my_one] at b1 b2
  rw [e1, e2] at a1 b1
  exact ⟨a1.symm.trans a2, b1.symm.trans b2⟩
theorem kd_surj {k : Str} {m : Mat} (h : Kd k m) (X Y : Int) : ∃ x y, X = mx m x y ∧ Y = my m x y := by
  obtain ⟨j, n, _, _, e⟩ := h.inv
  refine ⟨mx n X Y, my n X Y, ?_, ?_⟩
  · rw [mx_mul, e, mx_one]
  · rw [my_mul, e, my_one]
theorem im_of {k : Str} {m : Mat} (h : Kd k m) {a b c a' b' c' : Int} (n : Nfs (img2 m a b c) a' b' c') : Im m a b c a' b' c' := by
  intro X Y
  rw [n.sp]
  constructor
  · rintro ⟨j, i, e1, e2⟩
    simp only [] at e1 e2
    have f1 : mx m X Y = mx m (i * a + j * b) (j * c) := by rw [lin_x]; omega
    have f2 : my m X Y = my m (i * a + j * b) (j * c) := by rw [lin_y]; omega
    obtain ⟨g1, g2⟩ := kd_inj h f1 f2
    exact ⟨i, j, g1, g2⟩
  · rintro ⟨i, j, rfl, rfl⟩
    refine ⟨j, i, ?_, ?_⟩
    · simp only []; rw [lin_x]; omega
    · simp only []; rw [lin_y]; omega
theorem det_list : ∀ t ∈ KNS, t.2.1 * t.2.2.2.2 - t.2.2.1 * t.2.2.2.1 = 1 ∨ t.2.1 * t.2.2.2.2 - t.2.2.1 * t.2.2.2.1 = -1 := by decide +kernel
theorem kd_det {k : Str} {m : Mat} (h : Kd k m) : m.1 * m.2.2.2 - m.2.1 * m.2.2.1 = 1 ∨ m.1 * m.2.2.2 - m.2.1 * m.2.2.1 = -1 := det_list _ h
theorem cross_im (m : Mat) (x y u v : Int) : mx m x y * my m u v - my m x y * mx m u v = (m.1 * m.2.2.2 - m.2.1 * m.2.2.1) * (x * v - y * u) := by unfold mx my; grind
theorem cross_dvd {a b c x y u v : Int} (h : Lp a b c x y) (g : Lp a b c u v) : a * c ∣ x * v - y * u := by
  obtain ⟨i, j, rfl, rfl⟩ := h
  obtain ⟨k, l, rfl, rfl⟩ := g
  exact ⟨i * l - j * k, by grind⟩
theorem dvd_det {k : Str} {m : Mat} (h : Kd k m) {d z : Int} : d ∣ (m.1 * m.2.2.2 - m.2.1 * m.2.2.1) * z ↔ d ∣ z := by
  rcases kd_det h with e | e <;> rw [e]
  · rw [Int.one_mul]
  · rw [Int.neg_mul, Int.one_mul, Int.dvd_neg]
theorem im_size1 {k : Str} {m : Mat} (h : Kd k m) {a b c a' b' c' : Int} (i : Im m a b c a' b' c') : a' * c' ∣ a * c := by
  have := cross_dvd ((i _ _).mpr (Lp_a (a := a) (b := b) (c := c))) ((i _ _).mpr Lp_b)
  rw [cross_im, dvd_det h] at this
  have e : a * c - 0 * b = a * c := by omega
  rwa [e] at this
theorem im_size2 {k : Str} {m : Mat} (h : Kd k m) {a b c a' b' c' : Int} (i : Im m a b c a' b' c') : a * c ∣ a' * c' := by
  obtain ⟨x, y, e1, e2⟩ := kd_surj h a' 0
  obtain ⟨u, v, e3, e4⟩ := kd_surj h b' c'
  have h1 : Lp a b c x y := (i _ _).mp (by rw [← e1, ← e2]; exact Lp_a)
  have h2 : Lp a b c u v := (i _ _).mp (by rw [← e3, ← e4]; exact Lp_b)
  have := cross_dvd h1 h2
  rw [← dvd_det h, ← cross_im, ← e1, ← e2, ← e3, ← e4] at this
  have e : a' * c' - 0 * b' = a' * c' := by omega
  rwa [e] at this
/-- what the numbers of an image are -/
theorem im_pos {k : Str} {m : Mat} (h : Kd k m) {a b c a' b' c' : Int} (ha : 0 < a) (hc : 0 < c) (n : NF a' b' c') (i : Im m a b c a' b' c') : 0 < a' ∧ 0 < c' ∧ a' * c' = a * c := by
  have p : 0 < a * c := Int.mul_pos ha hc
  have d1 := im_size1 h i
  have d2 := im_size2 h i
  have e : a' * c' = a * c := Int.dvd_antisymm (Int.mul_nonneg n.a0 n.c0) (by omega) d1 d2
  have a0 := n.a0
  have c0 := n.c0
  refine ⟨?_, ?_, e⟩
  · rcases Int.lt_or_eq_of_le a0 with z | z
    · exact z
    · rw [← z] at e; omega
  · rcases Int.lt_or_eq_of_le c0 with z | z
    · exact z
    · rw [← z] at e; omega
theorem im_uniq {k : Str} {m : Mat} (h : Kd k m) {a b c a' b' c' d e f : Int} (i : Im m a b c a' b' c') (j : Im m a b c d e f) (X Y : Int) : Lp a' b' c' X Y ↔ Lp d e f X Y := by
  obtain ⟨x, y, rfl, rfl⟩ := kd_surj h X Y
  exact (i x y).trans (j x y).symm
theorem im_comp {m n : Mat} {a b c a' b' c' d e f : Int} (i : Im m a b c a' b' c') (j : Im n a' b' c' d e f) : Im (mmul n m) a b c d e f := by
  intro X Y
  rw [← mx_mul, ← my_mul]
  exact (j _ _).trans (i X Y)
theorem im_one {a b c : Int} : Im mone a b c a b c := fun X Y => by rw [mx_one, my_one]
end MV

set_option Elab.async false
set_option linter.all false
set_option maxRecDepth 100000
set_option maxHeartbeats 4000000
namespace Law
open PySem PySem.Spec PyProof.Rows L2 MV
def topS (i : Nat) : Stmt := PySem.Challenge.pw_carpets_k03_nets_of_shifts.main.body.getD i (.Pass ⟨0, 0, 0, 0⟩)
abbrev s_is_integer : Stmt := topS 8
abbrev N_is_integer : List Str := ["value"]
abbrev P_is_integer : List Str := ["value"]
theorem sc_is_integer : FnScope N_is_integer P_is_integer (defScope s_is_integer) := ⟨rfl, rfl, rfl, by decide +kernel, rfl, by decide +kernel, by decide +kernel⟩
abbrev s_is_place : Stmt := topS 10
abbrev N_is_place : List Str := ["value"]
abbrev P_is_place : List Str := ["value"]
theorem sc_is_place : FnScope N_is_place P_is_place (defScope s_is_place) := ⟨rfl, rfl, rfl, by decide +kernel, rfl, by decide +kernel, by decide +kernel⟩
abbrev s_check_place : Stmt := topS 11
abbrev N_check_place : List Str := ["value"]
abbrev P_check_place : List Str := ["value"]
theorem sc_check_place : FnScope N_check_place P_check_place (defScope s_check_place) := ⟨rfl, rfl, rfl, by decide +kernel, rfl, by decide +kernel, by decide +kernel⟩
abbrev s_are_numbers : Stmt := topS 16
abbrev N_are_numbers : List Str := ["a", "b", "c"]
abbrev P_are_numbers : List Str := ["a", "b", "c"]
theorem sc_are_numbers : FnScope N_are_numbers P_are_numbers (defScope s_are_numbers) := ⟨rfl, rfl, rfl, by decide +kernel, rfl, by decide +kernel, by decide +kernel⟩
abbrev s_two_shifts : Stmt := topS 17
abbrev N_two_shifts : List Str := ["numbers", "a", "b", "c"]
abbrev P_two_shifts : List Str := ["numbers"]
theorem sc_two_shifts : FnScope N_two_shifts P_two_shifts (defScope s_two_shifts) := ⟨rfl, rfl, rfl, by decide +kernel, rfl, by decide +kernel, by decide +kernel⟩
abbrev s_with_shift : Stmt := topS 18
abbrev N_with_shift : List Str := ["numbers", "shift", "a", "b", "c", "x", "y", "times"]
abbrev P_with_shift : List Str := ["numbers", "shift"]
theorem sc_with_shift : FnScope N_with_shift P_with_shift (defScope s_with_shift) := ⟨rfl, rfl, rfl, by decide +kernel, rfl, by decide +kernel, by decide +kernel⟩
abbrev s_spanned : Stmt := topS 19
abbrev N_spanned : List Str := ["shifts", "numbers", "shift"]
abbrev P_spanned : List Str := ["shifts"]
theorem sc_spanned : FnScope N_spanned P_spanned (defScope s_spanned) := ⟨rfl, rfl, rfl, by decide +kernel, rfl, by decide +kernel, by decide +kernel⟩
abbrev s_Net_init : Stmt := inClass (topS 21) 0
abbrev N_Net_init : List Str := ["self", "a", "b", "c"]
abbrev P_Net_init : List Str := ["self", "a", "b", "c"]
theorem sc_Net_init : FnScope N_Net_init P_Net_init (defScope s_Net_init) := ⟨rfl, rfl, rfl, by decide +kernel, rfl, by decide +kernel, by decide +kernel⟩
abbrev s_Net_of : Stmt := inClass (topS 21) 1
abbrev N_Net_of : List Str := ["shifts", "shift", "a", "b", "c"]
abbrev P_Net_of : List Str := ["shifts"]
theorem sc_Net_of : FnScope N_Net_of P_Net_of (defScope s_Net_of) := ⟨rfl, rfl, rfl, by decide +kernel, rfl, by decide +kernel, by decide +kernel⟩
abbrev s_Net_whole : Stmt := inClass (topS 21) 2
abbrev N_Net_whole : List Str := ["cls"]
abbrev P_Net_whole : List Str := ["cls"]
theorem sc_Net_whole : FnScope N_Net_whole P_Net_whole (defScope s_Net_whole) := ⟨rfl, rfl, rfl, by decide +kernel, rfl, by decide +kernel, by decide +kernel⟩
abbrev s_Net_numbers : Stmt := inClass (topS 21) 3
abbrev N_Net_numbers : List Str := ["self"]
abbrev P_Net_numbers : List Str := ["self"]
theorem sc_Net_numbers : FnScope N_Net_numbers P_Net_numbers (defScope s_Net_numbers) := ⟨rfl, rfl, rfl, by decide +kernel, rfl, by decide +kernel, by decide +kernel⟩
abbrev s_Net_size : Stmt := inClass (topS 21) 4
abbrev N_Net_size : List Str := ["self", "a", "_", "c"]
abbrev P_Net_size : List Str := ["self"]
theorem sc_Net_size : FnScope N_Net_size P_Net_size (defScope s_Net_size) := ⟨rfl, rfl, rfl, by decide +kernel, rfl, by decide +kernel, by decide +kernel⟩
abbrev s_Net_contains : Stmt := inClass (topS 21) 5
abbrev N_Net_contains : List Str := ["self", "x"]
abbrev P_Net_contains : List Str := ["self", "x"]
theorem sc_Net_contains : FnScope N_Net_contains P_Net_contains (defScope s_Net_contains) := ⟨rfl, rfl, rfl, by decide +kernel, rfl, by decide +kernel, by decide +kernel⟩
abbrev s_home : Stmt := topS 20
abbrev N_home : List Str := ["numbers", "place", "a", "b", "c", "x", "y"]
abbrev P_home : List Str := ["numbers", "place"]
theorem sc_home : FnScope N_home P_home (defScope s_home) := ⟨rfl, rfl, rfl, by decide +kernel, rfl, by decide +kernel, by decide +kernel⟩
abbrev s_Net_reduced : Stmt := inClass (topS 21) 9
abbrev N_Net_reduced : List Str := ["self", "place"]
abbrev P_Net_reduced : List Str := ["self", "place"]
theorem sc_Net_reduced : FnScope N_Net_reduced P_Net_reduced (defScope s_Net_reduced) := ⟨rfl, rfl, rfl, by decide +kernel, rfl, by decide +kernel, by decide +kernel⟩
abbrev s_Net_eq : Stmt := inClass (topS 21) 14
abbrev N_Net_eq : List Str := ["self", "other"]
abbrev P_Net_eq : List Str := ["self", "other"]
theorem sc_Net_eq : FnScope N_Net_eq P_Net_eq (defScope s_Net_eq) := ⟨rfl, rfl, rfl, by decide +kernel, rfl, by decide +kernel, by decide +kernel⟩
abbrev s_law_tape : Stmt := topS 23
abbrev N_law_tape : List Str := ["_law_script"]
abbrev P_law_tape : List Str := ["_law_script"]
theorem sc_law_tape : FnScope N_law_tape P_law_tape (defScope s_law_tape) := ⟨rfl, rfl, rfl, by decide +kernel, rfl, by decide +kernel, by decide +kernel⟩
abbrev s_law_draw : Stmt := topS 24
abbrev N_law_draw : List Str := ["_law_tape_here", "_law_many", "_law_digit", "_law_cell", "_law_near"]
abbrev P_law_draw : List Str := ["_law_tape_here", "_law_many"]
theorem sc_law_draw : FnScope N_law_draw P_law_draw (defScope s_law_draw) := ⟨rfl, rfl, rfl, by decide +kernel, rfl, by decide +kernel, by decide +kernel⟩
abbrev s_law_great : Stmt := topS 25
abbrev N_law_great : List Str := ["_law_tape_here", "_law_size", "_law_high", "_law_value"]
abbrev P_law_great : List Str := ["_law_tape_here", "_law_size"]
theorem sc_law_great : FnScope N_law_great P_law_great (defScope s_law_great) := ⟨rfl, rfl, rfl, by decide +kernel, rfl, by decide +kernel, by decide +kernel⟩
abbrev s_law_place : Stmt := topS 26
abbrev N_law_place : List Str := ["_law_tape_here"]
abbrev P_law_place : List Str := ["_law_tape_here"]
theorem sc_law_place : FnScope N_law_place P_law_place (defScope s_law_place) := ⟨rfl, rfl, rfl, by decide +kernel, rfl, by decide +kernel, by decide +kernel⟩
abbrev s_law_net : Stmt := topS 27
abbrev N_law_net : List Str := ["_law_tape_here", "_law_most", "_law_wide"]
abbrev P_law_net : List Str := ["_law_tape_here", "_law_most"]
theorem sc_law_net : FnScope N_law_net P_law_net (defScope s_law_net) := ⟨rfl, rfl, rfl, by decide +kernel, rfl, by decide +kernel, by decide +kernel⟩
abbrev s_law_divisor : Stmt := topS 28
abbrev N_law_divisor : List Str := ["_law_one", "_law_other"]
abbrev P_law_divisor : List Str := ["_law_one", "_law_other"]
theorem sc_law_divisor : FnScope N_law_divisor P_law_divisor (defScope s_law_divisor) := ⟨rfl, rfl, rfl, by decide +kernel, rfl, by decide +kernel, by decide +kernel⟩
abbrev s_law_net_of : Stmt := topS 29
abbrev N_law_net_of : List Str := ["_law_shifts_here", "_law_wide", "_law_low", "_law_one", "_law_far", "_law_times"]
abbrev P_law_net_of : List Str := ["_law_shifts_here"]
theorem sc_law_net_of : FnScope N_law_net_of P_law_net_of (defScope s_law_net_of) := ⟨rfl, rfl, rfl, by decide +kernel, rfl, by decide +kernel, by decide +kernel⟩
abbrev s_law_shifts : Stmt := topS 30
abbrev N_law_shifts : List Str := ["_law_tape_here", "_law_net_here", "_law_found", "_law_turn", "_law_one", "_law_other", "_law_small"]
abbrev P_law_shifts : List Str := ["_law_tape_here"]
theorem sc_law_shifts : FnScope N_law_shifts P_law_shifts (defScope s_law_shifts) := ⟨rfl, rfl, rfl, by decide +kernel, rfl, by decide +kernel, by decide +kernel⟩
abbrev s_law_of : Stmt := topS 31
abbrev N_law_of : List Str := ["_law_shifts_here", "_law_made", "_law_one"]
abbrev P_law_of : List Str := ["_law_shifts_here"]
theorem sc_law_of : FnScope N_law_of P_law_of (defScope s_law_of) := ⟨rfl, rfl, rfl, by decide +kernel, rfl, by decide +kernel, by decide +kernel⟩
abbrev s_law : Stmt := topS 32
abbrev N_law : List Str := ["_law_script", "_law_tape_here", "_law_turn", "_law_shifts_here", "_law_made", "_law_a", "_law_b", "_law_c", "_law_again", "_law_one", "_law_two", "_law_three", "_law_four", "_law_due", "_law_sides", "_law_told"]
abbrev P_law : List Str := ["_law_script"]
theorem sc_law : FnScope N_law P_law (defScope s_law) := ⟨rfl, rfl, rfl, by decide +kernel, rfl, by decide +kernel, by decide +kernel⟩
structure Ad where
  C_Net : Addr
  is_integer : Addr
  is_integer_d : FuncData
  is_place : Addr
  is_place_d : FuncData
  check_place : Addr
  check_place_d : FuncData
  are_numbers : Addr
  are_numbers_d : FuncData
  two_shifts : Addr
  two_shifts_d : FuncData
  with_shift : Addr
  with_shift_d : FuncData
  spanned : Addr
  spanned_d : FuncData
  Net_init : Addr
  Net_init_d : FuncData
  Net_of : Addr
  Net_of_d : FuncData
  p_Net_of : Addr
  Net_whole : Addr
  Net_whole_d : FuncData
  p_Net_whole : Addr
  Net_numbers : Addr
  Net_numbers_d : FuncData
  p_Net_numbers : Addr
  Net_size : Addr
  Net_size_d : FuncData
  p_Net_size : Addr
  Net_contains : Addr
  Net_contains_d : FuncData
  home : Addr
  home_d : FuncData
  Net_reduced : Addr
  Net_reduced_d : FuncData
  Net_eq : Addr
  Net_eq_d : FuncData
  law_tape : Addr
  law_tape_d : FuncData
  law_draw : Addr
  law_draw_d : FuncData
  law_great : Addr
  law_great_d : FuncData
  law_place : Addr
  law_place_d : FuncData
  law_net : Addr
  law_net_d : FuncData
  law_divisor : Addr
  law_divisor_d : FuncData
  law_net_of : Addr
  law_net_of_d : FuncData
  law_shifts : Addr
  law_shifts_d : FuncData
  law_of : Addr
  law_of_d : FuncData
  law : Addr
  law_d : FuncData
structure Txt (w : World) (K : PySem.W.Frag) (mg : Str → Option Value) (a : Ad) : Prop where
  g_Net : mg "Net" = some (.ref a.C_Net)
  cl_Net : Cls K a.C_Net
  k_Net : Mk K a.C_Net a.Net_init
  g_is_integer : mg "is_integer" = some (.ref a.is_integer)
  F_is_integer : Fun K "is_integer" "is_integer" s_is_integer a.is_integer a.is_integer_d
  b_is_integer : Binds K a.is_integer_d P_is_integer []
  g_is_place : mg "is_place" = some (.ref a.is_place)
  F_is_place : Fun K "is_place" "is_place" s_is_place a.is_place a.is_place_d
  b_is_place : Binds K a.is_place_d P_is_place []
  g_check_place : mg "check_place" = some (.ref a.check_place)
  F_check_place : Fun K "check_place" "check_place" s_check_place a.check_place a.check_place_d
  b_check_place : Binds K a.check_place_d P_check_place []
  g_are_numbers : mg "are_numbers" = some (.ref a.are_numbers)
  F_are_numbers : Fun K "are_numbers" "are_numbers" s_are_numbers a.are_numbers a.are_numbers_d
  b_are_numbers : Binds K a.are_numbers_d P_are_numbers []
  g_two_shifts : mg "two_shifts" = some (.ref a.two_shifts)
  F_two_shifts : Fun K "two_shifts" "two_shifts" s_two_shifts a.two_shifts a.two_shifts_d
  b_two_shifts : Binds K a.two_shifts_d P_two_shifts []
  g_with_shift : mg "with_shift" = some (.ref a.with_shift)
  F_with_shift : Fun K "with_shift" "with_shift" s_with_shift a.with_shift a.with_shift_d
  b_with_shift : Binds K a.with_shift_d P_with_shift []
  g_spanned : mg "spanned" = some (.ref a.spanned)
  F_spanned : Fun K "spanned" "spanned" s_spanned a.spanned a.spanned_d
  b_spanned : Binds K a.spanned_d P_spanned []
  F_Net_init : Fun K "__init__" "Net.__init__" s_Net_init a.Net_init a.Net_init_d
  b_Net_init : Binds K a.Net_init_d P_Net_init []
  sm_Net_of : SMet K a.C_Net (.type "type") "of" a.p_Net_of a.Net_of
  F_Net_of : Fun K "of" "Net.of" s_Net_of a.Net_of a.Net_of_d
  bs_Net_of : ∀ rest : List Value, bindArgs a.Net_of_d ⟨rest, []⟩ = (newTuple rest >>= fun t => pure [(("shifts" : Str), t)])
  cm_Net_whole : ClX.CMet K a.C_Net (.type "type") "whole" a.p_Net_whole a.Net_whole
  cr_Net_whole : ClX.CRead K a.C_Net (.type "type")
  F_Net_whole : Fun K "whole" "Net.whole" s_Net_whole a.Net_whole a.Net_whole_d
  b_Net_whole : Binds K a.Net_whole_d P_Net_whole []
  p_Net_numbers : PropOf K a.C_Net "numbers" a.p_Net_numbers a.Net_numbers
  F_Net_numbers : Fun K "numbers" "Net.numbers" s_Net_numbers a.Net_numbers a.Net_numbers_d
  b_Net_numbers : Binds K a.Net_numbers_d P_Net_numbers []
  p_Net_size : PropOf K a.C_Net "size" a.p_Net_size a.Net_size
  F_Net_size : Fun K "size" "Net.size" s_Net_size a.Net_size a.Net_size_d
  b_Net_size : Binds K a.Net_size_d P_Net_size []
  h_Net : HasC K a.C_Net a.Net_contains
  F_Net_contains : Fun K "__contains__" "Net.__contains__" s_Net_contains a.Net_contains a.Net_contains_d
  b_Net_contains : Binds K a.Net_contains_d P_Net_contains []
  g_home : mg "home" = some (.ref a.home)
  F_home : Fun K "home" "home" s_home a.home a.home_d
  b_home : Binds K a.home_d P_home []
  m_Net_reduced : Meth K a.C_Net "reduced" a.Net_reduced
  F_Net_reduced : Fun K "reduced" "Net.reduced" s_Net_reduced a.Net_reduced a.Net_reduced_d
  b_Net_reduced : Binds K a.Net_reduced_d P_Net_reduced []
  e_Net : EqC K a.C_Net a.Net_eq
  F_Net_eq : Fun K "__eq__" "Net.__eq__" s_Net_eq a.Net_eq a.Net_eq_d
  b_Net_eq : Binds K a.Net_eq_d P_Net_eq []
  g_law_tape : mg "_law_tape" = some (.ref a.law_tape)
  F_law_tape : Fun K "_law_tape" "_law_tape" s_law_tape a.law_tape a.law_tape_d
  b_law_tape : Binds K a.law_tape_d P_law_tape []
  g_law_draw : mg "_law_draw" = some (.ref a.law_draw)
  F_law_draw : Fun K "_law_draw" "_law_draw" s_law_draw a.law_draw a.law_draw_d
  b_law_draw : Binds K a.law_draw_d P_law_draw []
  g_law_great : mg "_law_great" = some (.ref a.law_great)
  F_law_great : Fun K "_law_great" "_law_great" s_law_great a.law_great a.law_great_d
  b_law_great : Binds K a.law_great_d P_law_great []
  g_law_place : mg "_law_place" = some (.ref a.law_place)
  F_law_place : Fun K "_law_place" "_law_place" s_law_place a.law_place a.law_place_d
  b_law_place : Binds K a.law_place_d P_law_place []
  g_law_net : mg "_law_net" = some (.ref a.law_net)
  F_law_net : Fun K "_law_net" "_law_net" s_law_net a.law_net a.law_net_d
  b_law_net : Binds K a.law_net_d P_law_net []
  g_law_divisor : mg "_law_divisor" = some (.ref a.law_divisor)
  F_law_divisor : Fun K "_law_divisor" "_law_divisor" s_law_divisor a.law_divisor a.law_divisor_d
  b_law_divisor : Binds K a.law_divisor_d P_law_divisor []
  g_law_net_of : mg "_law_net_of" = some (.ref a.law_net_of)
  F_law_net_of : Fun K "_law_net_of" "_law_net_of" s_law_net_of a.law_net_of a.law_net_of_d
  b_law_net_of : Binds K a.law_net_of_d P_law_net_of []
  g_law_shifts : mg "_law_shifts" = some (.ref a.law_shifts)
  F_law_shifts : Fun K "_law_shifts" "_law_shifts" s_law_shifts a.law_shifts a.law_shifts_d
  b_law_shifts : Binds K a.law_shifts_d P_law_shifts []
  g_law_of : mg "_law_of" = some (.ref a.law_of)
  F_law_of : Fun K "_law_of" "_law_of" s_law_of a.law_of a.law_of_d
  b_law_of : Binds K a.law_of_d P_law_of []
  g_law : mg "law" = some (.ref a.law)
  F_law : Fun K "law" "law" s_law a.law a.law_d
  b_law : Binds K a.law_d P_law []
  z_abs : mg "abs" = none
  z_bool : mg "bool" = none
  z_int : mg "int" = none
  z_isinstance : mg "isinstance" = none
  z_len : mg "len" = none
  z_list : mg "list" = none
  z_range : mg "range" = none
  z_repr : mg "repr" = none
  z_tuple : mg "tuple" = none
  g_gcd : mg "gcd" = some (.builtin "math.gcd")
  n_Net_numbers : NoAttr K a.C_Net "_numbers"
  i_Net : IsC K a.C_Net
local macro_rules | `(tactic| walk_at "up") => `(tactic| first
  | assumption
  | (refine' IT.mv ?s ?g; (case s => assumption); (case g => walk_at "up"))
  | (refine' IT.k ?g; (case g => walk_at "up"))
  | (refine' IK.mv ?s ?g; (case s => assumption); (case g => walk_at "up"))
  | (refine' Tape.mvN ?s ?g; (case s => assumption); (case g => walk_at "up"))
  | (refine' Tape.mvS ?s ?g; (case s => assumption); (case g => walk_at "up"))
  | (refine' At.tup ?s ?g; (case s => assumption); (case g => walk_at "up"))
  | (refine' At.ins ?s ?g; (case s => assumption); (case g => walk_at "up"))
  | (refine' At.lst ?s ?g; (case s => assumption); (case g => walk_at "up"))
  | (refine' At.lstS ?s ?n ?g; (case s => assumption); (case n => assumption); (case g => walk_at "up"))
  | fail)
local macro_rules | `(tactic| walk_at "st") => `(tactic| first
  | assumption
  | exact Stp.refl _ _
  | (refine' Stp.w ?s; (case s => assumption))
  | (refine' Stp.trans ?g ?s; (case s => (first | assumption | (refine' Stp.w ?u; (case u => assumption)))); (case g => walk_at "st"))
  | fail)
local macro_rules | `(tactic| walk_at "bT") => `(tactic| first
  | decide
  | (simp only [Bool.not_eq_true', Bool.not_eq_false', decide_eq_true_eq, decide_eq_false_iff_not]; omega)
  | fail)
local macro_rules | `(tactic| walk_at "sd") => `(tactic| first | assumption | decide | omega | fail)
local macro_rules | `(tactic| walk_at "r") => `(tactic| first
  | (with_reducible refine r_seq ?_)
  | (with_reducible refine r_asg ?_)
  | ((with_reducible refine' r_var ?h ?k); (case h => rfl))
  | (with_reducible refine r_c ?_)
  | (with_reducible refine r_op ?_)
  | (with_reducible refine r_un ?_)
  | (with_reducible refine r_nil ?_)
  | (with_reducible refine r_cons ?_)
  | (with_reducible refine r_tup ?_)
  | (with_reducible refine r_lst ?_)
  | (with_reducible refine r_cbLen ?_)
  | (with_reducible refine r_cbInt ?_)
  | (with_reducible refine r_cbRepr ?_)
  | (with_reducible refine r_cbTup ?_)
  | (with_reducible refine r_cbLst ?_)
  | (with_reducible refine r_cb ?_)
  | (with_reducible refine r_prop ?_)
  | (with_reducible refine r_andV ?_)
  | (with_reducible refine r_orV ?_)
  | (with_reducible refine r_notV ?_)
  | (with_reducible refine r_chain ?_)
  | (with_reducible refine r_ifE ?_)
  | (with_reducible refine r_test ?_)
  | (with_reducible refine r_B ?_)
  | (with_reducible refine r_and ?_)
  | (with_reducible refine r_or ?_)
  | (with_reducible refine r_not ?_)
  | (with_reducible refine r_yes ?_)
  | (with_reducible refine r_k ?_)
  | (with_reducible refine r_kV ?_)
  | (with_reducible refine r_next ?_)
  | (with_reducible refine r_drop ?_)
  | (with_reducible refine r_ret ?_)
  | (with_reducible refine r_ifS ?_)
  | (with_reducible refine r_par ?_)
  | (with_reducible refine r_par1 ?_)
  | (with_reducible refine r_gname ?_)
  | (with_reducible refine r_gnil ?_)
  | (with_reducible refine r_gcons ?_)
  | ((with_reducible refine' r_unpack2 ?h ?k); (case h => walk_at "up"))
  | ((with_reducible refine' r_unpack3 ?h ?k); (case h => walk_at "up"))
  | (with_reducible refine r_add ?_)
  | (with_reducible refine r_sub ?_)
  | (with_reducible refine r_neg ?_)
  | ((with_reducible refine' r_mod ?h ?k); (case h => walk_at "sd"))
  | ((with_reducible refine' r_div ?h ?k); (case h => walk_at "sd"))
  | ((with_reducible refine' r_mul ?h ?k); (case h => walk_at "sd"))
  | ((with_reducible refine' r_mulW ?h ?k); (case h => walk_at "sd"))
  | ((with_reducible refine' r_pow ?h ?k); (case h => (show (0 : Int) ≤ _ ∧ _ ∧ _; decide)))
  | (with_reducible refine r_lt ?_)
  | (with_reducible refine r_le ?_)
  | (with_reducible refine r_gt ?_)
  | (with_reducible refine r_ge ?_)
  | (with_reducible refine r_eqI ?_)
  | (with_reducible refine r_neI ?_)
  | (with_reducible refine r_eqS ?_)
  | (with_reducible refine r_neS ?_)
  | ((with_reducible refine' r_eqT ?h ?g ?k); (case h => walk_at "up"); (case g => walk_at "up"))
  | ((with_reducible refine' r_neT ?h ?g ?k); (case h => walk_at "up"); (case g => walk_at "up"))
  | ((with_reducible refine' r_ix0 ?h ?k); (case h => walk_at "up"))
  | ((with_reducible refine' r_ix1 ?h ?k); (case h => walk_at "up"))
  | ((with_reducible refine' r_ix2 ?h ?k); (case h => walk_at "up"))
  | (with_reducible refine r_newI2 (fun v H2 S I => ?_))
  | (with_reducible refine r_newI3 (fun v H2 S I => ?_))
  | (with_reducible refine r_newL1 (fun p H2 S hp np => ?_))
  | (with_reducible refine r_newL2 (fun p H2 S hp np => ?_))
  | (with_reducible refine r_newL3 (fun p H2 S hp np => ?_))
  | (with_reducible refine r_T ?_)
  | (with_reducible refine r_F ?_)
  | fail)
local macro_rules | `(tactic| walk_at "go") => `(tactic| repeat (walk_at "r"))
local macro_rules | `(tactic| walk_at "r") => `(tactic| first
  | (with_reducible refine r_call0 ?_)
  | (with_reducible refine r_meth0 ?_)
  | (with_reducible refine r_make0 ?_)
  | (with_reducible refine r_isiII ?_)
  | (with_reducible refine r_isiIB ?_)
  | ((with_reducible refine' r_isiTT ?h ?k); (case h => walk_at "up"))
  | ((with_reducible refine' r_len2 ?h ?k); (case h => walk_at "up"))
  | ((with_reducible refine' r_len3 ?h ?k); (case h => walk_at "up"))
  | ((with_reducible refine' r_lenL ?h ?k); (case h => walk_at "up"))
  | (with_reducible refine r_int1 ?_)
  | (with_reducible refine r_int1B ?_)
  | (with_reducible refine r_nT ?_)
  | (with_reducible refine r_nF ?_)
  | (with_reducible refine r_gcd ?_)
  | (with_reducible refine r_gsub ?_)
  | (with_reducible refine r_fld ?_)
  | (with_reducible refine r_p6 ?_)
  | (with_reducible refine r_p9 ?_)
  | (with_reducible refine r_p10 ?_)
  | (with_reducible refine r_p11 ?_)
  | (with_reducible refine r_p12 ?_)
  | (with_reducible refine r_p18 ?_)
  | (with_reducible refine r_p20 ?_)
  | (with_reducible refine r_p26 ?_)
  | (with_reducible refine r_p27 ?_)
  | (with_reducible refine r_p30 ?_)
  | ((with_reducible refine' r_iF ?h ?k); (case h => walk_at "bT"))
  | ((with_reducible refine' r_iT ?h ?k); (case h => walk_at "bT"))
  | (with_reducible refine r_sfld ?_)
  | (with_reducible refine r_sl ?_)
  | (with_reducible refine r_noPart ?_)
  | (with_reducible refine r_part ?_)
  | (with_reducible refine r_pk ?_)
  | ((with_reducible refine' r_unl2 ?h ?k); (case h => walk_at "up"))
  | ((with_reducible refine' r_ixLi ?h ?h0 ?hn ?k); (case h => walk_at "up"); (case h0 => walk_at "sd"); (case hn => rfl))
  | fail)

section
variable {P : Program} {w : World} {K : PySem.W.Frag} {mg : Str → Option Value} {base : Heap} {ad : Ad} {H : Hp} {Q : VK} {E : XK} {i j x y : Int} {v : V}

/-- the greatest number of this proof -/
def N1 : Int := 10 ^ 2000
theorem n1_big : (10 : Int) ^ 100 ≤ N1 := by unfold N1; decide +kernel
theorem n1_log {i : Int} (h : -N1 ≤ i) (h2 : i ≤ N1) : i.natAbs < 2 ^ 7000 := by
  have : N1 < 2 ^ 7000 := by unfold N1; decide +kernel
  have : (N1 : Int) < ((2 ^ 7000 : Nat) : Int) := by exact_mod_cast this
  omega
theorem mulN {i j : Int} (h1 : -N1 ≤ i) (h2 : i ≤ N1) (h3 : -N1 ≤ j) (h4 : j ≤ N1) : CMulW i j := wide_mul (n1_log h1 h2) (n1_log h3 h4) (by decide) (by decide) (by decide)
theorem divN {i j : Int} (h : 0 < j) (h2 : j ≤ N1) : CDivW i j := wide_div h (n1_log (by omega) h2) (by decide) (by decide)
theorem divN9 {i j : Int} (h : j ≠ 0) (h1 : -N1 ≤ j) (h2 : j ≤ N1) : CDivN9 i j := ⟨h, Nat.lt_of_lt_of_le (PySem.Flt.log2_lt_of (by decide) (n1_log h1 h2)) (by decide)⟩

/-! ### checks -/
def sp_is_integer : Sp := fun vs H Q _ => ∃ i, vs = [.int i] ∧ Q (.bl true) H
theorem do_is_integer (q : Q (.bl true) H) : sp_is_integer [.int i] H Q E := ⟨i, rfl, q⟩
theorem ok_is_integer (T : Txt w K mg ad) : FnG P w K mg base CX0 1 ad.is_integer ad.is_integer_d P_is_integer sp_is_integer := by
  refine Fun.g T.F_is_integer sc_is_integer (fun vs H Q E h => ?_) (fun cdv A outer s H vs Q E hr hg h => ?_)
  · obtain ⟨i, rfl, _⟩ := h
    rfl
  · obtain ⟨i, rfl, q⟩ := h
    refine ⟨_, (pss_one (ps_ret (pe_and (pe_callB call_isi (by rfl) T.z_isinstance (by decide +kernel) (pa_cons (pv 0) (pa_cons (pe_bltn (v := V.ty "int") (u := Value.type "int") (by rfl) T.z_int (by decide +kernel) rfl) pa_nil))) (pe_one (pe_not (pe_callB call_isi (by rfl) T.z_isinstance (by decide +kernel) (pa_cons (pv 0) (pa_cons (pe_bltn (v := V.ty "bool") (u := Value.type "bool") (by rfl) T.z_bool (by decide +kernel) rfl) pa_nil)))))))), ?_⟩
    walk_at "go"
    exact q
local macro_rules | `(tactic| walk_at "r") => `(tactic| with_reducible refine do_is_integer ?_)

def sp_is_place (K : PySem.W.Frag) : Sp := fun vs H Q _ => ∃ v x y, vs = [v] ∧ IK K H v [x, y] ∧ Q (.bl true) H
theorem do_is_place (h : IK K H v [x, y]) (q : Q (.bl true) H) : sp_is_place K [v] H Q E := ⟨v, x, y, rfl, h, q⟩
theorem ok_is_place (T : Txt w K mg ad) : FnG P w K mg base CX0 2 ad.is_place ad.is_place_d P_is_place (sp_is_place K) := by
  have G_is_integer := ok_is_integer (P := P) (w := w) (base := base) T
  refine Fun.g T.F_is_place sc_is_place (fun vs H Q E h => ?_) (fun cdv A outer s H vs Q E hr hg h => ?_)
  · obtain ⟨v, x, y, rfl, _⟩ := h
    rfl
  · obtain ⟨v, x, y, rfl, hI, q⟩ := h
    refine ⟨_, (pss_cons (ps_if (PW.pt (pw_or (pt_not (pt_val (pe_callB call_isi (by rfl) T.z_isinstance (by decide +kernel) (pa_cons (pv 0) (pa_cons (pe_bltn (v := V.ty "tuple") (u := Value.type "tuple") (by rfl) T.z_tuple (by decide +kernel) rfl) pa_nil))))) (pw_or1 (pt_cmpR op_ne (pe_callB call_len_seq (by rfl) T.z_len (by decide +kernel) (pa_cons (pv 0) pa_nil)) pe_int (nomark _)))))
      (pss_one (ps_ret pe_bl)) pss_nil)
      (pss_one (ps_ret (pe_and (peg_call G_is_integer (hr.mono (by decide)) hg (by rfl) T.g_is_integer T.F_is_integer.kp T.b_is_integer .nil pass0 (pa_cons (pe_ix ix_seq (pv 0) pe_int (fun _ _ => rfl)) pa_nil)) (pe_one (peg_call G_is_integer (hr.mono (by decide)) hg (by rfl) T.g_is_integer T.F_is_integer.kp T.b_is_integer .nil pass0 (pa_cons (pe_ix ix_seq (pv 0) pe_int (fun _ _ => rfl)) pa_nil))))))), ?_⟩
    walk_at "go"
    exact q
local macro_rules | `(tactic| walk_at "r") => `(tactic| first | ((with_reducible refine' do_is_place ?h ?k); (case h => walk_at "up")) | fail)

def sp_check_place (K : PySem.W.Frag) : Sp := fun vs H Q _ => ∃ v x y, vs = [v] ∧ IK K H v [x, y] ∧ Q .non H
theorem do_check_place (h : IK K H v [x, y]) (q : Q .non H) : sp_check_place K [v] H Q E := ⟨v, x, y, rfl, h, q⟩
theorem ok_check_place (T : Txt w K mg ad) : FnG P w K mg base CX0 3 ad.check_place ad.check_place_d P_check_place (sp_check_place K) := by
  have G_is_place := ok_is_place (P := P) (w := w) (base := base) T
  refine Fun.g T.F_check_place sc_check_place (fun vs H Q E h => ?_) (fun cdv A outer s H vs Q E hr hg h => ?_)
  · obtain ⟨v, x, y, rfl, _⟩ := h
    rfl
  · obtain ⟨v, x, y, rfl, hI, q⟩ := h
    refine ⟨_, (pss_one (ps_if (pt_not (pt_val (peg_call G_is_place (hr.mono (by decide)) hg (by rfl) T.g_is_place T.F_is_place.kp T.b_is_place .nil pass0 (pa_cons (pv 0) pa_nil))))
      (pss_one ps_never) pss_nil)), ?_⟩
    walk_at "go"
    exact q
local macro_rules | `(tactic| walk_at "r") => `(tactic| first | ((with_reducible refine' do_check_place ?h ?k); (case h => walk_at "up")) | fail)

/-! ### nets -/
/-- the numbers of a net -/
structure Nm (a b c : Int) : Prop where
  a1 : 1 ≤ a
  c1 : 1 ≤ c
  b0 : 0 ≤ b
  ba : b < a
  az : a ≤ N1
  cz : c ≤ N1
def sp_are_numbers : Sp := fun vs H Q _ => ∃ a b c, vs = [.int a, .int b, .int c] ∧ Nm a b c ∧ Q (.bl true) H
theorem do_are_numbers {a b c : Int} (h : Nm a b c) (q : Q (.bl true) H) : sp_are_numbers [.int a, .int b, .int c] H Q E := ⟨a, b, c, rfl, h, q⟩
theorem ok_are_numbers (T : Txt w K mg ad) : FnG P w K mg base CX0 2 ad.are_numbers ad.are_numbers_d P_are_numbers sp_are_numbers := by
  have G_is_integer := ok_is_integer (P := P) (w := w) (base := base) T
  refine Fun.g T.F_are_numbers sc_are_numbers (fun vs H Q E h => ?_) (fun cdv A outer s H vs Q E hr hg h => ?_)
  · obtain ⟨a, b, c, rfl, _⟩ := h
    rfl
  · obtain ⟨a, b, c, rfl, n, q⟩ := h
    obtain ⟨h1, h2, h3, h4, _, _⟩ := n
    refine ⟨_, (pss_cons (ps_if (pt_not (PW.pt (pw_and (pt_val (peg_call G_is_integer (hr.mono (by decide)) hg (by rfl) T.g_is_integer T.F_is_integer.kp T.b_is_integer .nil pass0 (pa_cons (pv 0) pa_nil))) (pw_and (pt_val (peg_call G_is_integer (hr.mono (by decide)) hg (by rfl) T.g_is_integer T.F_is_integer.kp T.b_is_integer .nil pass0 (pa_cons (pv 1) pa_nil))) (pw_and1 (pt_val (peg_call G_is_integer (hr.mono (by decide)) hg (by rfl) T.g_is_integer T.F_is_integer.kp T.b_is_integer .nil pass0 (pa_cons (pv 2) pa_nil))))))))
      (pss_one (ps_ret pe_bl)) pss_nil)
      (pss_one (ps_ret (pe_and (pe_cmpR op_ge (pv 0) pe_int (nomark _)) (pe_and (pe_cmpR op_ge (pv 2) pe_int (nomark _)) (pe_one (pe_chain op_le op_lt pe_int (pv 1) (pv 0)))))))), ?_⟩
    walk_at "go"
    rw [decide_eq_true h4]
    exact q
local macro_rules | `(tactic| walk_at "r") => `(tactic| first | ((with_reducible refine' do_are_numbers ?h ?k); (case h => assumption)) | fail)

def sp_two_shifts : Sp := fun vs H Q _ => ∃ v a b c, vs = [v] ∧ IT H v [a, b, c] ∧
  ∀ p H' u w, Stp none H H' → H' p = some (.lst [u, w]) → IT H' u [a, 0] → IT H' w [b, c] → Q (.ref p) H'
theorem ok_two_shifts (T : Txt w K mg ad) : FnG P w K mg base CX0 1 ad.two_shifts ad.two_shifts_d P_two_shifts sp_two_shifts := by
  refine Fun.g T.F_two_shifts sc_two_shifts (fun vs H Q E h => ?_) (fun cdv A outer s H vs Q E hr hg h => ?_)
  · obtain ⟨v, a, b, c, rfl, _⟩ := h
    rfl
  · obtain ⟨v, a, b, c, rfl, hI, q⟩ := h
    refine ⟨_, (pss_cons (ps_asg (pv 0) (pg_tup (n := 3) rfl (pgs_cons (pg_name (i := 1) sc_two_shifts.nd rfl (Or.inl rfl)) (pgs_cons (pg_name (i := 2) sc_two_shifts.nd rfl (Or.inl rfl)) (pgs_cons (pg_name (i := 3) sc_two_shifts.nd rfl (Or.inl rfl)) pgs_nil)))))
      (pss_one (ps_ret (pe_lst (pa_cons (pe_tup (pa_cons (pv 1) (pa_cons pe_int pa_nil))) (pa_cons (pe_tup (pa_cons (pv 2) (pa_cons (pv 3) pa_nil))) pa_nil)))))), ?_⟩
    walk_at "go"
    exact q _ _ _ _ (by walk_at "st") (by assumption) (by walk_at "up") (by walk_at "up")

/-- v is a Net of these numbers -/
def NA (C : Addr) (H : Hp) (v : V) (a b c : Int) : Prop := Nm a b c ∧ ∃ p dx u, v = .ref p ∧ H p = some (.ins C dx (putF "_numbers" u [])) ∧ IT H u [a, b, c]
theorem NA.mv {C : Addr} {t : Option Addr} {H H' : Hp} {v : V} {a b c : Int} (s : Stp t H H') (h : NA C H v a b c) : NA C H' v a b c := by
  obtain ⟨n, p, dx, u, e, h1, h2⟩ := h
  exact ⟨n, p, dx, u, e, At.ins s h1, h2.mv s⟩
local macro_rules | `(tactic| walk_at "up") => `(tactic| first | (refine' NA.mv ?s ?g; (case s => assumption); (case g => walk_at "up")) | fail)

def sp_Net_init (C : Addr) : Sp := fun vs H Q _ => ∃ p dx a b c, vs = [.ref p, .int a, .int b, .int c] ∧ Nm a b c ∧ H p = some (.ins C dx []) ∧
  ∀ H', (∀ b o, b ≠ p → H b = some o → H' b = some o) → NA C H' (.ref p) a b c → Q .non H'
theorem ok_Net_init (T : Txt w K mg ad) : FnG P w K mg base CX0 3 ad.Net_init ad.Net_init_d P_Net_init (sp_Net_init ad.C_Net) := by
  have G_are_numbers := ok_are_numbers (P := P) (w := w) (base := base) T
  refine Fun.g T.F_Net_init sc_Net_init (fun vs H Q E h => ?_) (fun cdv A outer s H vs Q E hr hg h => ?_)
  · obtain ⟨p, dx, a, b, c, rfl, _⟩ := h
    rfl
  · obtain ⟨p, dx, a, b, c, rfl, n, hp, q⟩ := h
    refine ⟨_, (pss_cons (ps_if (pt_not (pt_val (peg_call G_are_numbers (hr.mono (by decide)) hg (by rfl) T.g_are_numbers T.F_are_numbers.kp T.b_are_numbers .nil pass0 (pa_cons (pv 1) (pa_cons (pv 2) (pa_cons (pv 3) pa_nil))))))
      (pss_one ps_never) pss_nil)
      (pss_one (ps_fld (pv 0) (pe_tup (pa_cons (pe_callTy call_int1 (by rfl) T.z_int (by decide +kernel) (pa_cons (pv 1) pa_nil)) (pa_cons (pe_callTy call_int1 (by rfl) T.z_int (by decide +kernel) (pa_cons (pv 2) pa_nil)) (pa_cons (pe_callTy call_int1 (by rfl) T.z_int (by decide +kernel) (pa_cons (pv 3) pa_nil)) pa_nil)))) rfl))), ?_⟩
    walk_at "go"
    refine ⟨p, ad.C_Net, dx, [], rfl, by walk_at "up", T.cl_Net, T.n_Net_numbers, Nat.zero_lt_succ _, ?_⟩
    rename_i u H2 S hI
    refine q _ (fun b o nb e => ?_) ⟨n, p, dx, u, rfl, upd_same, ?_⟩
    · rw [upd_ne nb]
      exact S.all _ _ e
    · obtain ⟨t, rfl, ht⟩ := hI
      exact ⟨t, rfl, by rw [upd_ne (ne_of ht (S.all _ _ hp) (by intro z; cases z))]; exact ht⟩
/-- Net(a, b, c) -/
theorem do_Net {C : Addr} {a b c : Int} (n : Nm a b c) (k : ∀ v H', Stp none H H' → NA C H' v a b c → Q v H') :
    MkR C (sp_Net_init C) [.int a, .int b, .int c] H Q E := by
  intro x dx hx hd ne
  refine ⟨x, dx, a, b, c, rfl, n, upd_same, fun H' s h => ⟨rfl, k _ _ (Stp.of (fun b o e => s b o (ne_of_none e hx) ?_) none) h⟩⟩
  rw [upd_ne (ne_of_none e hx), upd_ne (ne_of_none e hd)]
  exact e

theorem pe_NA {C : Addr} {sp : Sp} {a b c : Int} (h : NA C H v a b c) (q : ∀ p u dx, v = .ref p → H p = some (.ins C dx (putF "_numbers" u [])) → IT H u [a, b, c] → sp [.ref p] H Q E) :
    ∃ p dx fs, v = .ref p ∧ H p = some (.ins C dx fs) ∧ sp (.ref p :: []) H Q E := by
  obtain ⟨n, p, dx, u, e, h1, h2⟩ := h
  exact ⟨p, dx, _, e, h1, q p u dx e h1 h2⟩
theorem put_numbers (u : V) : (putF "_numbers" u []).lookup ("_numbers" : Str) = some u := by rw [lookup_putF, if_pos rfl]
theorem put_other (u : V) {m : Str} (h : m ≠ "_numbers") : (putF "_numbers" u []).lookup m = none := by rw [lookup_putF, if_neg h]; rfl
/-- v._numbers -/
theorem r_numF {C p dx : Addr} {u : V} {K : PySem.W.Frag} (c : Cls K C) (n : NoAttr K C "_numbers") (h : H p = some (.ins C dx (putF "_numbers" u []))) (q : Q u H) :
    FldR K "_numbers" (.ref p) H Q :=
  ⟨p, C, dx, _, u, rfl, h, c, n, put_numbers u, q⟩

def sp_Net_numbers (C : Addr) : Sp := fun vs H Q _ => ∃ p a b c, vs = [.ref p] ∧ NA C H (.ref p) a b c ∧ ∀ u, IT H u [a, b, c] → Q u H
theorem ok_Net_numbers (T : Txt w K mg ad) : FnG P w K mg base CX0 1 ad.Net_numbers ad.Net_numbers_d P_Net_numbers (sp_Net_numbers ad.C_Net) := by
  refine Fun.g T.F_Net_numbers sc_Net_numbers (fun vs H Q E h => ?_) (fun cdv A outer s H vs Q E hr hg h => ?_)
  · obtain ⟨p, a, b, c, rfl, _⟩ := h
    rfl
  · obtain ⟨p, a, b, c, rfl, ⟨_, p', dx, u, e, h1, h2⟩, q⟩ := h
    cases e
    refine ⟨_, (pss_one (ps_ret (pe_fld (pv 0) rfl))), ?_⟩
    walk_at "go"
    exact r_numF T.cl_Net T.n_Net_numbers h1 (q u h2)
theorem do_Net_numbers {C : Addr} {a b c : Int} (h : NA C H v a b c) (k : ∀ u, IT H u [a, b, c] → Q u H) :
    ∃ p dx fs, v = .ref p ∧ H p = some (.ins C dx fs) ∧ sp_Net_numbers C (.ref p :: []) H Q E := by
  have h' := h
  obtain ⟨_, p, dx, u, rfl, h1, _⟩ := h'
  exact ⟨p, dx, _, rfl, h1, p, a, b, c, rfl, h, k⟩

def sp_Net_size (C : Addr) : Sp := fun vs H Q _ => ∃ p a b c, vs = [.ref p] ∧ NA C H (.ref p) a b c ∧ Q (.int (a * c)) H
theorem ok_Net_size (T : Txt w K mg ad) : FnG P w K mg base CX0 1 ad.Net_size ad.Net_size_d P_Net_size (sp_Net_size ad.C_Net) := by
  refine Fun.g T.F_Net_size sc_Net_size (fun vs H Q E h => ?_) (fun cdv A outer s H vs Q E hr hg h => ?_)
  · obtain ⟨p, a, b, c, rfl, _⟩ := h
    rfl
  · obtain ⟨p, a, b, c, rfl, ⟨n, p', dx, u, e, h1, h2⟩, q⟩ := h
    cases e
    obtain ⟨n1, n2, n3, n4, n5, n6⟩ := n
    have hm : CMulW a c := mulN (by omega) (by omega) (by omega) (by omega)
    refine ⟨_, (pss_cons (ps_asg (pe_fld (pv 0) rfl) (pg_tup (n := 3) rfl (pgs_cons (pg_name (i := 1) sc_Net_size.nd rfl (Or.inl rfl)) (pgs_cons (pg_name (i := 2) sc_Net_size.nd rfl (Or.inl rfl)) (pgs_cons (pg_name (i := 3) sc_Net_size.nd rfl (Or.inl rfl)) pgs_nil)))))
      (pss_one (ps_ret (pe_op op_mulW (pv 1) (pv 3))))), ?_⟩
    walk_at "go"
    refine r_numF T.cl_Net T.n_Net_numbers h1 ?_
    walk_at "go"
    exact q
theorem do_Net_size {C : Addr} {a b c : Int} (h : NA C H v a b c) (k : Q (.int (a * c)) H) :
    ∃ p dx fs, v = .ref p ∧ H p = some (.ins C dx fs) ∧ sp_Net_size C (.ref p :: []) H Q E := by
  have h' := h
  obtain ⟨_, p, dx, u, rfl, h1, _⟩ := h'
  exact ⟨p, dx, _, rfl, h1, p, a, b, c, rfl, h, k⟩
/-- the start of a method's call -/
theorem do_meth {C : Addr} {a b c : Int} {m : Str} {sp : Sp} {t : TA} {σ : L2.St} (h : NA C H v a b c) (hm : m ≠ "_numbers") (q : t σ H fun vs H2 => sp (v :: vs) H2 Q E) :
    ∃ p dx fs, v = .ref p ∧ H p = some (.ins C dx fs) ∧ fs.lookup m = none ∧ t σ H fun vs H2 => sp (v :: vs) H2 Q E := by
  obtain ⟨_, p, dx, u, rfl, h1, _⟩ := h
  exact ⟨p, dx, _, rfl, h1, put_other u hm, q⟩
local macro_rules | `(tactic| walk_at "r") => `(tactic| first
  | ((with_reducible refine' do_Net_size ?h ?k); (case h => walk_at "up"))
  | ((with_reducible refine' do_meth ?h ?hm ?k); (case h => walk_at "up"); (case hm => decide +kernel))
  | fail)

/-- coordinates within the bounds of this proof -/
def Co (x : Int) : Prop := -N1 ≤ x ∧ x ≤ N1
def sp_home : Sp := fun vs H Q _ => ∃ v u a b c x y, vs = [v, u] ∧ Nm a b c ∧ IT H v [a, b, c] ∧ IT H u [x, y] ∧ Co x ∧ Co y ∧
  ∀ z H', Stp none H H' → IT H' z [lowX a b c x y, y % c] → Q z H'
theorem ok_home (T : Txt w K mg ad) : FnG P w K mg base CX0 1 ad.home ad.home_d P_home sp_home := by
  refine Fun.g T.F_home sc_home (fun vs H Q E h => ?_) (fun cdv A outer s H vs Q E hr hg h => ?_)
  · obtain ⟨v, u, a, b, c, x, y, rfl, _⟩ := h
    rfl
  · obtain ⟨v, u, a, b, c, x, y, rfl, n, hn, hu, hx, hy, q⟩ := h
    obtain ⟨n1, n2, n3, n4, n5, n6⟩ := n
    unfold Co at hx hy
    have d1 : CDivW y c := divN (by omega) (by omega)
    have e1 : (y / c).natAbs ≤ y.natAbs := Int.natAbs_ediv_le_natAbs _ _
    have m1 : CMulW (y / c) b := mulN (by omega) (by omega) (by omega) (by omega)
    refine ⟨_, (pss_cons (ps_asg (pv 0) (pg_tup (n := 3) rfl (pgs_cons (pg_name (i := 2) sc_home.nd rfl (Or.inl rfl)) (pgs_cons (pg_name (i := 3) sc_home.nd rfl (Or.inl rfl)) (pgs_cons (pg_name (i := 4) sc_home.nd rfl (Or.inl rfl)) pgs_nil)))))
      (pss_cons (ps_asg (pv 1) (pg_tup (n := 2) rfl (pgs_cons (pg_name (i := 5) sc_home.nd rfl (Or.inl rfl)) (pgs_cons (pg_name (i := 6) sc_home.nd rfl (Or.inl rfl)) pgs_nil))))
      (pss_one (ps_ret (pe_tup (pa_cons (pe_op op_mod (pe_op op_sub (pv 5) (pe_op op_mulW (pe_op op_fdivW (pv 6) (pv 4)) (pv 3))) (pv 2)) (pa_cons (pe_op op_mod (pv 6) (pv 4)) pa_nil))))))), ?_⟩
    walk_at "go"
    exact q _ _ (by walk_at "st") (by walk_at "up")
theorem do_home {a b c : Int} {u : V} (n : Nm a b c) (h : IT H v [a, b, c]) (hu : IT H u [x, y]) (hx : Co x) (hy : Co y) (k : ∀ z H', Stp none H H' → IT H' z [lowX a b c x y, y % c] → Q z H') :
    sp_home [v, u] H Q E := ⟨v, u, a, b, c, x, y, rfl, n, h, hu, hx, hy, k⟩
def sp_Net_reduced (C : Addr) : Sp := fun vs H Q _ => ∃ v u a b c x y, vs = [v, u] ∧ NA C H v a b c ∧ IT H u [x, y] ∧ Co x ∧ Co y ∧
  ∀ z H', Stp none H H' → IT H' z [lowX a b c x y, y % c] → Q z H'
theorem ok_Net_reduced (T : Txt w K mg ad) : FnG P w K mg base CX0 4 ad.Net_reduced ad.Net_reduced_d P_Net_reduced (sp_Net_reduced ad.C_Net) := by
  have G_check_place := ok_check_place (P := P) (w := w) (base := base) T
  have G_home := ok_home (P := P) (w := w) (base := base) T
  refine Fun.g T.F_Net_reduced sc_Net_reduced (fun vs H Q E h => ?_) (fun cdv A outer s H vs Q E hr hg h => ?_)
  · obtain ⟨v, u, a, b, c, x, y, rfl, _⟩ := h
    rfl
  · obtain ⟨v, u, a, b, c, x, y, rfl, hN, hu, hx, hy, q⟩ := h
    obtain ⟨n, p, dx, ns, rfl, h1, h2⟩ := hN
    refine ⟨_, (pss_cons (ps_expr (peg_call G_check_place (hr.mono (by decide)) hg (by rfl) T.g_check_place T.F_check_place.kp T.b_check_place .nil pass0 (pa_cons (pv 1) pa_nil)))
      (pss_one (ps_ret (peg_call G_home (hr.mono (by decide)) hg (by rfl) T.g_home T.F_home.kp T.b_home .nil pass0 (pa_cons (pe_fld (pv 0) rfl) (pa_cons (pv 1) pa_nil)))))), ?_⟩
    walk_at "go"
    refine r_numF T.cl_Net T.n_Net_numbers (by walk_at "up") ?_
    walk_at "go"
    exact do_home n (by walk_at "up") (by walk_at "up") hx hy q
theorem do_Net_reduced {C : Addr} {a b c : Int} {u : V} (h : NA C H v a b c) (hu : IT H u [x, y]) (hx : Co x) (hy : Co y) (k : ∀ z H', Stp none H H' → IT H' z [lowX a b c x y, y % c] → Q z H') :
    sp_Net_reduced C [v, u] H Q E := ⟨v, u, a, b, c, x, y, rfl, h, hu, hx, hy, k⟩

instance (a b c x y : Int) : Decidable (InN a b c x y) := inferInstanceAs (Decidable (_ ∧ _))
theorem inN_dec (a b c x y : Int) : decide ([lowX a b c x y, y % c] = [0, 0]) = decide (InN a b c x y) := by
  refine decide_eq_decide.mpr ?_
  unfold InN
  rw [lowY_mod]
  constructor
  · intro h
    injection h with h1 h2
    injection h2 with h2 _
    exact ⟨h1, h2⟩
  · rintro ⟨h1, h2⟩
    rw [h1, h2]
def sp_Net_contains (C : Addr) : Sp := fun vs H Q _ => ∃ v u a b c x y, vs = [v, u] ∧ NA C H v a b c ∧ IT H u [x, y] ∧ Co x ∧ Co y ∧
  ∀ H', Stp none H H' → Q (.bl (decide (InN a b c x y))) H'
theorem ok_Net_contains (T : Txt w K mg ad) : FnG P w K mg base CX0 5 ad.Net_contains ad.Net_contains_d P_Net_contains (sp_Net_contains ad.C_Net) := by
  have G_is_place := ok_is_place (P := P) (w := w) (base := base) T
  have G_Net_reduced := ok_Net_reduced (P := P) (w := w) (base := base) T
  refine Fun.g T.F_Net_contains sc_Net_contains (fun vs H Q E h => ?_) (fun cdv A outer s H vs Q E hr hg h => ?_)
  · obtain ⟨v, u, a, b, c, x, y, rfl, _⟩ := h
    rfl
  · obtain ⟨v, u, a, b, c, x, y, rfl, hN, hu, hx, hy, q⟩ := h
    refine ⟨_, (pss_one (ps_ret (pe_and (peg_call G_is_place (hr.mono (by decide)) hg (by rfl) T.g_is_place T.F_is_place.kp T.b_is_place .nil pass0 (pa_cons (pv 1) pa_nil)) (pe_one (pe_cmpR (op_eqD hr.units) (peg_meth (pv 0) T.cl_Net T.m_Net_reduced G_Net_reduced (hr.mono (by decide)) hg T.b_Net_reduced .nil pass0 (pa_cons (pv 1) pa_nil)) (pe_tup (pa_cons pe_int (pa_cons pe_int pa_nil))) (nomark _)))))), ?_⟩
    walk_at "go"
    refine do_Net_reduced hN hu hx hy fun z H1 S1 hz => ?_
    walk_at "go"
    rw [inN_dec]
    exact q _ (by walk_at "st")
/-- u in v, u not in v -/
theorem do_in {C : Addr} {a b c : Int} {u : V} (h : NA C H v a b c) (hu : IT H u [x, y]) (hx : Co x) (hy : Co y)
    (k : ∀ H', Stp none H H' → Q (.bl (decide (InN a b c x y))) H') : rHas C (sp_Net_contains C) E false u v H Q := by
  have h' := h
  obtain ⟨_, p, dx, w, rfl, h1, _⟩ := h'
  exact ⟨p, dx, _, rfl, h1, .ref p, u, a, b, c, x, y, rfl, h, hu, hx, hy, fun H' S => ⟨_, rfl, k H' S⟩⟩
theorem do_notIn {C : Addr} {a b c : Int} {u : V} (h : NA C H v a b c) (hu : IT H u [x, y]) (hx : Co x) (hy : Co y)
    (k : ∀ H', Stp none H H' → Q (.bl (!decide (InN a b c x y))) H') : rHas C (sp_Net_contains C) E true u v H Q := by
  have h' := h
  obtain ⟨_, p, dx, w, rfl, h1, _⟩ := h'
  exact ⟨p, dx, _, rfl, h1, .ref p, u, a, b, c, x, y, rfl, h, hu, hx, hy, fun H' S => ⟨_, rfl, k H' S⟩⟩

theorem do_two_shifts {a b c : Int} (h : IT H v [a, b, c]) (k : ∀ p H' u w, Stp none H H' → H' p = some (.lst [u, w]) → IT H' u [a, 0] → IT H' w [b, c] → Q (.ref p) H') :
    sp_two_shifts [v] H Q E := ⟨v, a, b, c, rfl, h, k⟩
def sp_Net_eq (C : Addr) : Sp := fun vs H Q _ => ∃ v u a b c d e f, vs = [v, u] ∧ NA C H v a b c ∧ NA C H u d e f ∧ Q (.bl (decide ([a, b, c] = [d, e, f]))) H
theorem r_isiNet {C : Addr} {a b c : Int} (ic : IsC K C) (cl : Cls K C) (h : NA C H v a b c) (q : Q (.bl true) H) : rIsi K [v, .ref C] H Q := by
  obtain ⟨_, p, dx, u, rfl, h1, _⟩ := h
  exact r_isi (.own C) (ic.ty cl h1) kit_self q
theorem ok_Net_eq (T : Txt w K mg ad) : FnG P w K mg base CX0 1 ad.Net_eq ad.Net_eq_d P_Net_eq (sp_Net_eq ad.C_Net) := by
  refine Fun.g T.F_Net_eq sc_Net_eq (fun vs H Q E h => ?_) (fun cdv A outer s H vs Q E hr hg h => ?_)
  · obtain ⟨v, u, a, b, c, d, e, f, rfl, _⟩ := h
    rfl
  · obtain ⟨v, u, a, b, c, d, e, f, rfl, hN, hM, q⟩ := h
    refine ⟨_, (pss_one (ps_ret (pe_and (pe_callB call_isi (by rfl) T.z_isinstance (by decide +kernel) (pa_cons (pv 1) (pa_cons (pe_glob (v := V.ref ad.C_Net) rfl T.g_Net rfl) pa_nil))) (pe_one (pe_cmpR (op_eqD hr.units) (pe_fld (pv 0) rfl) (pe_fld (pv 1) rfl) (nomark _)))))), ?_⟩
    walk_at "go"
    refine r_isiNet T.i_Net T.cl_Net hM ?_
    obtain ⟨_, p, dx, u1, rfl, h1, h2⟩ := hN
    obtain ⟨_, p', dx', u2, rfl, h3, h4⟩ := hM
    walk_at "go"
    refine r_numF T.cl_Net T.n_Net_numbers h1 ?_
    walk_at "go"
    refine r_numF T.cl_Net T.n_Net_numbers h3 ?_
    walk_at "go"
    exact q
/-- v == u, v != u of two nets -/
theorem do_eq {C : Addr} {a b c d e f : Int} {u : V} (ic : IsC K C) (cl : Cls K C) (h : NA C H v a b c) (h2 : NA C H u d e f) (q : Q (.bl (decide ([a, b, c] = [d, e, f]))) H) :
    rOwnEq K C (sp_Net_eq C) E false v u H Q := by
  have h' := h
  have h2' := h2
  obtain ⟨_, p, dx, u1, rfl, h1, _⟩ := h'
  obtain ⟨_, p', dx', u2, rfl, h3, _⟩ := h2'
  exact ⟨p, dx, _, .ref C, rfl, h1, ic.ty cl h3, notFirst_self, _, _, a, b, c, d, e, f, rfl, h, h2, _, rfl, q⟩
theorem do_ne {C : Addr} {a b c d e f : Int} {u : V} (ic : IsC K C) (cl : Cls K C) (h : NA C H v a b c) (h2 : NA C H u d e f) (q : Q (.bl (!decide ([a, b, c] = [d, e, f]))) H) :
    rOwnEq K C (sp_Net_eq C) E true v u H Q := by
  have h' := h
  have h2' := h2
  obtain ⟨_, p, dx, u1, rfl, h1, _⟩ := h'
  obtain ⟨_, p', dx', u2, rfl, h3, _⟩ := h2'
  exact ⟨p, dx, _, .ref C, rfl, h1, ic.ty cl h3, notFirst_self, _, _, a, b, c, d, e, f, rfl, h, h2, _, rfl, q⟩
end
end Law

set_option Elab.async false
set_option linter.all false
set_option maxRecDepth 100000
set_option maxHeartbeats 4000000
namespace Law
open PySem PySem.Spec PyProof.Rows L2 MV
local macro_rules | `(tactic| walk_at "up") => `(tactic| first
  | assumption
  | (refine' IT.mv ?s ?g; (case s => assumption); (case g => walk_at "up"))
  | (refine' IT.k ?g; (case g => walk_at "up"))
  | (refine' IK.mv ?s ?g; (case s => assumption); (case g => walk_at "up"))
  | (refine' Tape.mvN ?s ?g; (case s => assumption); (case g => walk_at "up"))
  | (refine' Tape.mvS ?s ?g; (case s => assumption); (case g => walk_at "up"))
  | (refine' At.tup ?s ?g; (case s => assumption); (case g => walk_at "up"))
  | (refine' At.ins ?s ?g; (case s => assumption); (case g => walk_at "up"))
  | (refine' At.lst ?s ?g; (case s => assumption); (case g => walk_at "up"))
  | (refine' At.lstS ?s ?n ?g; (case s => assumption); (case n => assumption); (case g => walk_at "up"))
  | fail)
local macro_rules | `(tactic| walk_at "st") => `(tactic| first
  | assumption
  | exact Stp.refl _ _
  | (refine' Stp.w ?s; (case s => assumption))
  | (refine' Stp.trans ?g ?s; (case s => (first | assumption | (refine' Stp.w ?u; (case u => assumption)))); (case g => walk_at "st"))
  | fail)
local macro_rules | `(tactic| walk_at "bT") => `(tactic| first
  | decide
  | (simp only [Bool.not_eq_true', Bool.not_eq_false', decide_eq_true_eq, decide_eq_false_iff_not]; omega)
  | fail)
local macro_rules | `(tactic| walk_at "sd") => `(tactic| first | assumption | decide | omega | fail)
local macro_rules | `(tactic| walk_at "r") => `(tactic| first
  | (with_reducible refine r_seq ?_)
  | (with_reducible refine r_asg ?_)
  | ((with_reducible refine' r_var ?h ?k); (case h => rfl))
  | (with_reducible refine r_c ?_)
  | (with_reducible refine r_op ?_)
  | (with_reducible refine r_un ?_)
  | (with_reducible refine r_nil ?_)
  | (with_reducible refine r_cons ?_)
  | (with_reducible refine r_tup ?_)
  | (with_reducible refine r_lst ?_)
  | (with_reducible refine r_cbLen ?_)
  | (with_reducible refine r_cbInt ?_)
  | (with_reducible refine r_cbRepr ?_)
  | (with_reducible refine r_cbTup ?_)
  | (with_reducible refine r_cbLst ?_)
  | (with_reducible refine r_cb ?_)
  | (with_reducible refine r_prop ?_)
  | (with_reducible refine r_andV ?_)
  | (with_reducible refine r_orV ?_)
  | (with_reducible refine r_notV ?_)
  | (with_reducible refine r_chain ?_)
  | (with_reducible refine r_ifE ?_)
  | (with_reducible refine r_test ?_)
  | (with_reducible refine r_B ?_)
  | (with_reducible refine r_and ?_)
  | (with_reducible refine r_or ?_)
  | (with_reducible refine r_not ?_)
  | (with_reducible refine r_yes ?_)
  | (with_reducible refine r_k ?_)
  | (with_reducible refine r_kV ?_)
  | (with_reducible refine r_next ?_)
  | (with_reducible refine r_drop ?_)
  | (with_reducible refine r_ret ?_)
  | (with_reducible refine r_ifS ?_)
  | (with_reducible refine r_par ?_)
  | (with_reducible refine r_par1 ?_)
  | (with_reducible refine r_gname ?_)
  | (with_reducible refine r_gnil ?_)
  | (with_reducible refine r_gcons ?_)
  | ((with_reducible refine' r_unpack2 ?h ?k); (case h => walk_at "up"))
  | ((with_reducible refine' r_unpack3 ?h ?k); (case h => walk_at "up"))
  | (with_reducible refine r_add ?_)
  | (with_reducible refine r_sub ?_)
  | (with_reducible refine r_neg ?_)
  | ((with_reducible refine' r_mod ?h ?k); (case h => walk_at "sd"))
  | ((with_reducible refine' r_div ?h ?k); (case h => walk_at "sd"))
  | ((with_reducible refine' r_mul ?h ?k); (case h => walk_at "sd"))
  | ((with_reducible refine' r_mulW ?h ?k); (case h => walk_at "sd"))
  | ((with_reducible refine' r_pow ?h ?k); (case h => (show (0 : Int) ≤ _ ∧ _ ∧ _; decide)))
  | (with_reducible refine r_lt ?_)
  | (with_reducible refine r_le ?_)
  | (with_reducible refine r_gt ?_)
  | (with_reducible refine r_ge ?_)
  | (with_reducible refine r_eqI ?_)
  | (with_reducible refine r_neI ?_)
  | (with_reducible refine r_eqS ?_)
  | (with_reducible refine r_neS ?_)
  | ((with_reducible refine' r_eqT ?h ?g ?k); (case h => walk_at "up"); (case g => walk_at "up"))
  | ((with_reducible refine' r_neT ?h ?g ?k); (case h => walk_at "up"); (case g => walk_at "up"))
  | ((with_reducible refine' r_ix0 ?h ?k); (case h => walk_at "up"))
  | ((with_reducible refine' r_ix1 ?h ?k); (case h => walk_at "up"))
  | ((with_reducible refine' r_ix2 ?h ?k); (case h => walk_at "up"))
  | (with_reducible refine r_newI2 (fun v H2 S I => ?_))
  | (with_reducible refine r_newI3 (fun v H2 S I => ?_))
  | (with_reducible refine r_newL1 (fun p H2 S hp np => ?_))
  | (with_reducible refine r_newL2 (fun p H2 S hp np => ?_))
  | (with_reducible refine r_newL3 (fun p H2 S hp np => ?_))
  | (with_reducible refine r_T ?_)
  | (with_reducible refine r_F ?_)
  | fail)
local macro_rules | `(tactic| walk_at "go") => `(tactic| repeat (walk_at "r"))
local macro_rules | `(tactic| walk_at "r") => `(tactic| first
  | (with_reducible refine r_call0 ?_)
  | (with_reducible refine r_meth0 ?_)
  | (with_reducible refine r_make0 ?_)
  | (with_reducible refine r_isiII ?_)
  | (with_reducible refine r_isiIB ?_)
  | ((with_reducible refine' r_isiTT ?h ?k); (case h => walk_at "up"))
  | ((with_reducible refine' r_len2 ?h ?k); (case h => walk_at "up"))
  | ((with_reducible refine' r_len3 ?h ?k); (case h => walk_at "up"))
  | ((with_reducible refine' r_lenL ?h ?k); (case h => walk_at "up"))
  | (with_reducible refine r_int1 ?_)
  | (with_reducible refine r_int1B ?_)
  | (with_reducible refine r_nT ?_)
  | (with_reducible refine r_nF ?_)
  | (with_reducible refine r_gcd ?_)
  | (with_reducible refine r_gsub ?_)
  | (with_reducible refine r_fld ?_)
  | (with_reducible refine r_p6 ?_)
  | (with_reducible refine r_p9 ?_)
  | (with_reducible refine r_p10 ?_)
  | (with_reducible refine r_p11 ?_)
  | (with_reducible refine r_p12 ?_)
  | (with_reducible refine r_p18 ?_)
  | (with_reducible refine r_p20 ?_)
  | (with_reducible refine r_p26 ?_)
  | (with_reducible refine r_p27 ?_)
  | (with_reducible refine r_p30 ?_)
  | ((with_reducible refine' r_iF ?h ?k); (case h => walk_at "bT"))
  | ((with_reducible refine' r_iT ?h ?k); (case h => walk_at "bT"))
  | (with_reducible refine r_sfld ?_)
  | (with_reducible refine r_sl ?_)
  | (with_reducible refine r_noPart ?_)
  | (with_reducible refine r_part ?_)
  | (with_reducible refine r_pk ?_)
  | ((with_reducible refine' r_unl2 ?h ?k); (case h => walk_at "up"))
  | ((with_reducible refine' r_ixLi ?h ?h0 ?hn ?k); (case h => walk_at "up"); (case h0 => walk_at "sd"); (case hn => rfl))
  | fail)

local macro_rules | `(tactic| walk_at "r") => `(tactic| with_reducible refine do_is_integer ?_)
local macro_rules | `(tactic| walk_at "r") => `(tactic| first | ((with_reducible refine' do_is_place ?h ?k); (case h => walk_at "up")) | fail)
local macro_rules | `(tactic| walk_at "r") => `(tactic| first | ((with_reducible refine' do_check_place ?h ?k); (case h => walk_at "up")) | fail)
local macro_rules | `(tactic| walk_at "r") => `(tactic| first | ((with_reducible refine' do_are_numbers ?h ?k); (case h => assumption)) | fail)
local macro_rules | `(tactic| walk_at "up") => `(tactic| first | (refine' NA.mv ?s ?g; (case s => assumption); (case g => walk_at "up")) | fail)
local macro_rules | `(tactic| walk_at "r") => `(tactic| first
  | ((with_reducible refine' do_Net_size ?h ?k); (case h => walk_at "up"))
  | ((with_reducible refine' do_meth ?h ?hm ?k); (case h => walk_at "up"); (case hm => decide +kernel))
  | fail)

section
variable {P : Program} {w : World} {K : PySem.W.Frag} {mg : Str → Option Value} {base : Heap} {ad : Ad} {H : Hp} {Q : VK} {E : XK} {i j x y : Int} {v : V}
/-! ### draws -/
def sp_law_tape (K : PySem.W.Frag) : Sp := fun vs H Q _ => ∃ (l : Addr) (ns : List Int), vs = [.ref l] ∧ SqL K H l (ns.map V.int) ∧ ∀ t H', Stp none H H' → H t = none → Tape H' t → Q (.ref t) H'
theorem ok_law_tape (T : Txt w K mg ad) : FnG P w K mg base CX0 1 ad.law_tape ad.law_tape_d P_law_tape (sp_law_tape K) := by
  refine Fun.g T.F_law_tape sc_law_tape (fun vs H Q E h => ?_) (fun cdv A outer s H vs Q E hr hg h => ?_)
  · obtain ⟨l, ns, rfl, _⟩ := h
    rfl
  · obtain ⟨l, ns, rfl, hl, q⟩ := h
    refine ⟨_, (pss_one (ps_ret (pe_lst (pa_cons (pe_callTy call_list_of (by rfl) T.z_list (by decide +kernel) (pa_cons (pe_slice sl_list (pv 0) po_none (po_some pe_int)) pa_nil)) (pa_cons pe_int (pa_cons pe_int (pa_cons pe_int pa_nil))))))), ?_⟩
    walk_at "go"
    refine r_slL hl fun l1 H1 S1 h1 n1 => ?_
    walk_at "go"
    refine r_lstL (SqL.of h1) fun l2 H2 S2 h2 n2 => ?_
    walk_at "go"
    refine r_newL (sz100 (Nat.le_of_ble_eq_true rfl)) fun t H3 S3 h3 n3 => ?_
    obtain ⟨ms, e⟩ := cutV_map ns none (some 63)
    rw [e] at h2
    have nl : l2 ≠ t := ne_of_none h2 n3
    refine q t H3 (by walk_at "st") ?_ ⟨l2, ms, 0, 0, 17, nl, h3, S3.all _ _ h2, by decide, by decide, by decide⟩
    cases z : H t with
    | none => rfl
    | some o => exact absurd (S2.all _ _ (S1.all _ _ z)) (by rw [n3]; simp)
theorem do_law_tape {l : Addr} {ns : List Int} (h : SqL K H l (ns.map V.int)) (k : ∀ t H', Stp none H H' → H t = none → Tape H' t → Q (.ref t) H') :
    sp_law_tape K [.ref l] H Q E := ⟨l, ns, rfl, h, k⟩

def sp_law_draw : Sp := fun vs H Q _ => ∃ t m, vs = [.ref t, .int m] ∧ Tape H t ∧ 0 < m ∧ m < 10 ^ 30 ∧ ∀ r H', 0 ≤ r → r < m → Stp (some t) H H' → Q (.int r) H'
theorem ok_law_draw (T : Txt w K mg ad) : FnG P w K mg base CX0 1 ad.law_draw ad.law_draw_d P_law_draw sp_law_draw := by
  refine Fun.g T.F_law_draw sc_law_draw (fun vs H Q E h => ?_) (fun cdv A outer s H vs Q E hr hg h => ?_)
  · obtain ⟨t, m, rfl, _⟩ := h
    rfl
  · obtain ⟨t, m, rfl, hT, m0, m1, q⟩ := h
    obtain ⟨l, ns, a, b, c, X⟩ := hT.is
    have ht := X.at_
    have hl := X.li
    have a0 := X.a0
    have c0 := X.c0
    have c1 := X.c1
    have dv : ∀ z : Int, CDivW z m := fun z => divW_of m0 (by omega)
    have rm : ∀ z : Int, 0 ≤ z % m ∧ z % m < m := fun z => ⟨Int.emod_nonneg _ (by omega), Int.emod_lt_of_pos _ m0⟩
    refine ⟨_, (pss_cons (ps_if (pt_cmpR op_gt (pe_ix ix_seq (pv 0) pe_int (fun _ _ => rfl)) pe_int (nomark _))
      (pss_cons (ps_set (i := 2) sc_law_draw.nd rfl (Or.inl rfl) (pe_op op_mod (pe_ix ix_seq (pv 0) pe_int (fun _ _ => rfl)) (pv 1)))
      (pss_cons (ps_asg (pe_op op_fdivW (pe_ix ix_seq (pv 0) pe_int (fun _ _ => rfl)) (pv 1)) (pg_sub (pv 0) pe_int set_list))
      (pss_one (ps_ret (pv 2))))) pss_nil)
      (pss_cons (ps_set (i := 3) sc_law_draw.nd rfl (Or.inl rfl) pe_int)
      (pss_cons (ps_if (pt_cmpR op_lt (pe_ix ix_seq (pv 0) pe_int (fun _ _ => rfl)) (pe_callB call_len_seq (by rfl) T.z_len (by decide +kernel) (pa_cons (pe_ix ix_seq (pv 0) pe_int (fun _ _ => rfl)) pa_nil)) (nomark _))
      (pss_one (ps_set (i := 3) sc_law_draw.nd rfl (Or.inl rfl) (pe_ix ix_seq (pe_ix ix_seq (pv 0) pe_int (fun _ _ => rfl)) (pe_ix ix_seq (pv 0) pe_int (fun _ _ => rfl)) (fun _ _ => rfl)))) pss_nil)
      (pss_cons (ps_asg (pe_op op_add (pe_ix ix_seq (pv 0) pe_int (fun _ _ => rfl)) pe_int) (pg_sub (pv 0) pe_int set_list))
      (pss_cons (ps_if (pt_cmpR op_ge (pv 3) (pe_op op_pow pe_int pe_int) (nomark _))
      (pss_cons (ps_asg (pe_op op_fdivW (pv 3) (pv 1)) (pg_sub (pv 0) pe_int set_list))
      (pss_one (ps_ret (pe_op op_mod (pv 3) (pv 1))))) pss_nil)
      (pss_cons (ps_set (i := 4) sc_law_draw.nd rfl (Or.inl rfl) (pe_op op_add (pe_op op_add (pe_op op_mod (pv 3) pe_int) (pe_op op_mul pe_int (pe_ix ix_seq (pv 0) pe_int (fun _ _ => rfl)))) pe_int))
      (pss_cons (ps_asg (pe_op op_mod (pe_op op_add (pe_op op_mul (pe_ix ix_seq (pv 0) pe_int (fun _ _ => rfl)) pe_int) (pv 4)) pe_int) (pg_sub (pv 0) pe_int set_list))
      (pss_one (ps_ret (pe_op op_mod (pe_op op_mod (pe_op op_pow (pe_ix ix_seq (pv 0) pe_int (fun _ _ => rfl)) pe_int) pe_int) (pv 1))))))))))), ?_⟩
    walk_at "go"
    refine r_ite (fun hb => ?_) (fun hb => ?_)
    · walk_at "go"
      refine r_div (dv _) ?_
      walk_at "go"
      obtain ⟨S1, X1⟩ := X.put (a' := a) (b' := b / m) a0 c0 c1
      refine r_set2 ht ?_
      walk_at "go"
      exact q _ _ (rm _).1 (rm _).2 S1
    · walk_at "go"
      refine r_ite (fun ha => ?_) (fun ha => ?_)
      · have hz : ∃ z : Int, (ns.map V.int)[a.toNat]? = some (.int z) := by
          rw [List.length_map] at ha
          have : a.toNat < ns.length := by omega
          exact ⟨ns[a.toNat], by rw [List.getElem?_map, List.getElem?_eq_getElem this]; rfl⟩
        obtain ⟨z, hz⟩ := hz
        walk_at "go"
        refine r_ixLi hl a0 hz ?_
        walk_at "go"
        obtain ⟨S1, X1⟩ := X.put (a' := a + 1) (b' := b) (by omega) c0 c1
        refine r_set1 ht ?_
        generalize upd H t (.lst [.ref l, .int (a + 1), .int b, .int c]) = H1 at S1 X1 ⊢
        have ht1 := X1.at_
        walk_at "go"
        refine r_ite (fun hc => ?_) (fun hc => ?_)
        · walk_at "go"
          refine r_div (dv _) ?_
          walk_at "go"
          obtain ⟨S2, X2⟩ := X1.put (a' := a + 1) (b' := z / m) (by omega) c0 c1
          refine r_set2 ht1 ?_
          walk_at "go"
          exact q _ _ (rm _).1 (rm _).2 (S1.trans S2)
        · walk_at "go"
          refine r_mul (.inl ⟨by decide, by decide⟩) ?_
          walk_at "go"
          refine r_mul (.inl ⟨by omega, by omega⟩) ?_
          walk_at "go"
          have rm2 : ∀ z : Int, 0 ≤ z % 2147483647 ∧ z % 2147483647 < 2147483647 := fun z => ⟨Int.emod_nonneg _ (by omega), Int.emod_lt_of_pos _ (by omega)⟩
          obtain ⟨S2, X2⟩ := X1.put (a' := a + 1) (b' := b) (by omega) (rm2 _).1 (rm2 _).2
          refine r_set3 ht1 ?_
          have ht2 := X2.at_
          walk_at "go"
          refine r_pow ?_ ?_
          · have := rm2 (c * 48271 + (z % 2147483647 + 7919 * (a + 1) + 11))
            exact ⟨by decide, by decide, by omega⟩
          walk_at "go"
          exact q _ _ (rm _).1 (rm _).2 (S1.trans S2)
      · walk_at "go"
        obtain ⟨S1, X1⟩ := X.put (a' := a + 1) (b' := b) (by omega) c0 c1
        refine r_set1 ht ?_
        generalize upd H t (.lst [.ref l, .int (a + 1), .int b, .int c]) = H1 at S1 X1 ⊢
        have ht1 := X1.at_
        walk_at "go"
        refine r_mul (.inl ⟨by decide, by decide⟩) ?_
        walk_at "go"
        refine r_mul (.inl ⟨by omega, by omega⟩) ?_
        walk_at "go"
        have rm2 : ∀ z : Int, 0 ≤ z % 2147483647 ∧ z % 2147483647 < 2147483647 := fun z => ⟨Int.emod_nonneg _ (by omega), Int.emod_lt_of_pos _ (by omega)⟩
        obtain ⟨S2, X2⟩ := X1.put (a' := a + 1) (b' := b) (by omega) (rm2 _).1 (rm2 _).2
        refine r_set3 ht1 ?_
        have ht2 := X2.at_
        walk_at "go"
        refine r_pow ?_ ?_
        · have := rm2 (c * 48271 + (0 % 2147483647 + 7919 * (a + 1) + 11))
          exact ⟨by decide, by decide, by omega⟩
        walk_at "go"
        exact q _ _ (rm _).1 (rm _).2 (S1.trans S2)
theorem do_law_draw {t : Addr} {m : Int} (T : Tape H t) (h0 : 0 < m) (h1 : m < 10 ^ 30) (k : ∀ r H', 0 ≤ r → r < m → Stp (some t) H H' → Q (.int r) H') :
    sp_law_draw [.ref t, .int m] H Q E := ⟨t, m, rfl, T, h0, h1, k⟩
local macro_rules | `(tactic| walk_at "dr") => `(tactic| (refine do_law_draw (by walk_at "up") (by first | decide | omega) (by first | decide | omega) ?_))
def sp_law_great : Sp := fun vs H Q _ => ∃ t m, vs = [.ref t, .int m] ∧ Tape H t ∧ 60 ≤ m ∧ m < 10 ^ 30 ∧ ∀ r H', -m < r → r < m → Stp (some t) H H' → Q (.int r) H'
theorem ok_law_great (T : Txt w K mg ad) : FnG P w K mg base CX0 2 ad.law_great ad.law_great_d P_law_great sp_law_great := by
  have G_law_draw := ok_law_draw (P := P) (w := w) (base := base) T
  refine Fun.g T.F_law_great sc_law_great (fun vs H Q E h => ?_) (fun cdv A outer s H vs Q E hr hg h => ?_)
  · obtain ⟨t, m, rfl, _⟩ := h
    rfl
  · obtain ⟨t, m, rfl, hT, m0, m1, q⟩ := h
    refine ⟨_, (pss_cons (ps_set (i := 2) sc_law_great.nd rfl (Or.inl rfl) (pe_op op_add (pe_op op_mulW (peg_call G_law_draw (hr.mono (by decide)) hg (by rfl) T.g_law_draw T.F_law_draw.kp T.b_law_draw .nil pass0 (pa_cons (pv 0) (pa_cons (pe_op op_pow pe_int pe_int) pa_nil))) (pe_op op_pow pe_int pe_int)) (pe_op op_mulW (peg_call G_law_draw (hr.mono (by decide)) hg (by rfl) T.g_law_draw T.F_law_draw.kp T.b_law_draw .nil pass0 (pa_cons (pv 0) (pa_cons (pe_op op_pow pe_int pe_int) pa_nil))) (pe_op op_pow pe_int pe_int))))
      (pss_cons (ps_set (i := 3) sc_law_great.nd rfl (Or.inl rfl) (pe_ix ix_seq (pe_lst (pa_cons (peg_call G_law_draw (hr.mono (by decide)) hg (by rfl) T.g_law_draw T.F_law_draw.kp T.b_law_draw .nil pass0 (pa_cons (pv 0) (pa_cons pe_int pa_nil))) (pa_cons (peg_call G_law_draw (hr.mono (by decide)) hg (by rfl) T.g_law_draw T.F_law_draw.kp T.b_law_draw .nil pass0 (pa_cons (pv 0) (pa_cons pe_int pa_nil))) (pa_cons (pe_op op_mod (pe_op op_add (pv 2) (peg_call G_law_draw (hr.mono (by decide)) hg (by rfl) T.g_law_draw T.F_law_draw.kp T.b_law_draw .nil pass0 (pa_cons (pv 0) (pa_cons (pe_op op_pow pe_int pe_int) pa_nil)))) (pv 1)) pa_nil)))) (peg_call G_law_draw (hr.mono (by decide)) hg (by rfl) T.g_law_draw T.F_law_draw.kp T.b_law_draw .nil pass0 (pa_cons (pv 0) (pa_cons pe_int pa_nil))) (fun _ _ => rfl)))
      (pss_one (ps_ret (pe_op op_mulW (pv 3) (pe_ix ix_seq (pe_lst (pa_cons pe_int (pa_cons (pe_un un_neg pe_int) pa_nil))) (peg_call G_law_draw (hr.mono (by decide)) hg (by rfl) T.g_law_draw T.F_law_draw.kp T.b_law_draw .nil pass0 (pa_cons (pv 0) (pa_cons pe_int pa_nil))) (fun _ _ => rfl))))))), ?_⟩
    walk_at "go"
    walk_at "dr"
    intro r1 H1 a1 b1 S1
    walk_at "go"
    refine r_mulW (mulW_of (by omega) (by decide)) ?_
    walk_at "go"
    walk_at "dr"
    intro r2 H2 a2 b2 S2
    walk_at "go"
    refine r_mulW (mulW_of (by omega) (by decide)) ?_
    walk_at "go"
    walk_at "dr"
    intro r3 H3 a3 b3 S3
    walk_at "go"
    walk_at "dr"
    intro r4 H4 a4 b4 S4
    walk_at "go"
    walk_at "dr"
    intro r5 H5 a5 b5 S5
    walk_at "go"
    have e1 : 0 ≤ (r1 * 1000000000000000000 + r2 * 1000000000 + r5) % m := Int.emod_nonneg _ (by omega)
    have e2 : (r1 * 1000000000000000000 + r2 * 1000000000 + r5) % m < m := Int.emod_lt_of_pos _ (by omega)
    rename_i p1 H6 S6 hp1 np1
    generalize (r1 * 1000000000000000000 + r2 * 1000000000 + r5) % m = z at e1 e2 hp1
    have T6 : Tape H6 t := by walk_at "up"
    have nt1 : p1 ≠ t := by
      intro e
      have T5 : Tape H5 t := by walk_at "up"
      obtain ⟨_, _, _, _, _, _, h, _⟩ := T5
      rw [← e, np1] at h
      cases h
    walk_at "dr"
    intro r6 H7 a6 b6 S7
    have hz : ∃ u, [V.int r3, V.int r4, V.int z][r6.toNat]? = some (V.int u) ∧ 0 ≤ u ∧ u < m := by
      have : r6 = 0 ∨ r6 = 1 ∨ r6 = 2 := by omega
      rcases this with rfl | rfl | rfl
      · exact ⟨r3, rfl, by omega, by omega⟩
      · exact ⟨r4, rfl, by omega, by omega⟩
      · exact ⟨z, rfl, by omega, by omega⟩
    obtain ⟨u, hu, u0, u1⟩ := hz
    have hp7 : H7 p1 = some (.lst [V.int r3, V.int r4, V.int z]) := At.lstS S7 nt1 hp1
    refine r_ixLi hp7 a6 hu ?_
    walk_at "go"
    rename_i p2 H8 S8 hp2 np2
    have nt2 : p2 ≠ t := by
      intro e
      have T5 : Tape H7 t := by walk_at "up"
      obtain ⟨_, _, _, _, _, _, h, _⟩ := T5
      rw [← e, np2] at h
      cases h
    walk_at "dr"
    intro r7 H9 a7 b7 S9
    have hp9 : H9 p2 = some (.lst [V.int 1, V.int (-1)]) := At.lstS S9 nt2 hp2
    have : r7 = 0 ∨ r7 = 1 := by omega
    rcases this with rfl | rfl
    · walk_at "go"
      refine r_mulW (mulW_of (by omega) (by decide)) ?_
      exact q _ _ (by omega) (by omega) (by walk_at "st")
    · walk_at "go"
      refine r_mulW (mulW_of (by omega) (by decide)) ?_
      exact q _ _ (by omega) (by omega) (by walk_at "st")
theorem do_law_great {t : Addr} {m : Int} (T : Tape H t) (h0 : 60 ≤ m) (h1 : m < 10 ^ 30) (k : ∀ r H', -m < r → r < m → Stp (some t) H H' → Q (.int r) H') :
    sp_law_great [.ref t, .int m] H Q E := ⟨t, m, rfl, T, h0, h1, k⟩

def sp_law_place : Sp := fun vs H Q _ => ∃ t, vs = [.ref t] ∧ Tape H t ∧ ∀ v x y H', -10 ^ 26 < x → x < 10 ^ 26 → -10 ^ 26 < y → y < 10 ^ 26 → Stp (some t) H H' → IT H' v [x, y] → Q v H'
theorem ok_law_place (T : Txt w K mg ad) : FnG P w K mg base CX0 3 ad.law_place ad.law_place_d P_law_place sp_law_place := by
  have G_law_great := ok_law_great (P := P) (w := w) (base := base) T
  refine Fun.g T.F_law_place sc_law_place (fun vs H Q E h => ?_) (fun cdv A outer s H vs Q E hr hg h => ?_)
  · obtain ⟨t, rfl, _⟩ := h
    rfl
  · obtain ⟨t, rfl, hT, q⟩ := h
    refine ⟨_, (pss_one (ps_ret (pe_tup (pa_cons (peg_call G_law_great (hr.mono (by decide)) hg (by rfl) T.g_law_great T.F_law_great.kp T.b_law_great .nil pass0 (pa_cons (pv 0) (pa_cons (pe_op op_pow pe_int pe_int) pa_nil))) (pa_cons (peg_call G_law_great (hr.mono (by decide)) hg (by rfl) T.g_law_great T.F_law_great.kp T.b_law_great .nil pass0 (pa_cons (pv 0) (pa_cons (pe_op op_pow pe_int pe_int) pa_nil))) pa_nil))))), ?_⟩
    walk_at "go"
    refine do_law_great (by walk_at "up") (by decide) (by decide) fun x H1 x0 x1 S1 => ?_
    walk_at "go"
    refine do_law_great (by walk_at "up") (by decide) (by decide) fun y H2 y0 y1 S2 => ?_
    walk_at "go"
    exact q _ x y _ (by omega) (by omega) (by omega) (by omega) (by walk_at "st") (by walk_at "up")
theorem do_law_place {t : Addr} (T : Tape H t) (k : ∀ v x y H', -10 ^ 26 < x → x < 10 ^ 26 → -10 ^ 26 < y → y < 10 ^ 26 → Stp (some t) H H' → IT H' v [x, y] → Q v H') :
    sp_law_place [.ref t] H Q E := ⟨t, rfl, T, k⟩

def sp_law_net : Sp := fun vs H Q _ => ∃ t m, vs = [.ref t, .int m] ∧ Tape H t ∧ 1 ≤ m ∧ m < 10 ^ 9 ∧
  ∀ v a b c H', Nm a b c → a ≤ m → c ≤ m → a * c ≤ m → Stp (some t) H H' → IT H' v [a, b, c] → Q v H'
theorem ok_law_net (T : Txt w K mg ad) : FnG P w K mg base CX0 2 ad.law_net ad.law_net_d P_law_net sp_law_net := by
  have G_law_draw := ok_law_draw (P := P) (w := w) (base := base) T
  refine Fun.g T.F_law_net sc_law_net (fun vs H Q E h => ?_) (fun cdv A outer s H vs Q E hr hg h => ?_)
  · obtain ⟨t, m, rfl, _⟩ := h
    rfl
  · obtain ⟨t, m, rfl, hT, m0, m1, q⟩ := h
    refine ⟨_, (pss_cons (ps_set (i := 2) sc_law_net.nd rfl (Or.inl rfl) (pe_op op_add pe_int (peg_call G_law_draw (hr.mono (by decide)) hg (by rfl) T.g_law_draw T.F_law_draw.kp T.b_law_draw .nil pass0 (pa_cons (pv 0) (pa_cons (pv 1) pa_nil)))))
      (pss_one (ps_ret (pe_tup (pa_cons (pv 2) (pa_cons (peg_call G_law_draw (hr.mono (by decide)) hg (by rfl) T.g_law_draw T.F_law_draw.kp T.b_law_draw .nil pass0 (pa_cons (pv 0) (pa_cons (pv 2) pa_nil))) (pa_cons (pe_op op_add pe_int (peg_call G_law_draw (hr.mono (by decide)) hg (by rfl) T.g_law_draw T.F_law_draw.kp T.b_law_draw .nil pass0 (pa_cons (pv 0) (pa_cons (pe_op op_fdivW (pv 1) (pv 2)) pa_nil)))) pa_nil))))))), ?_⟩
    walk_at "go"
    walk_at "dr"
    intro r1 H1 a1 b1 S1
    walk_at "go"
    walk_at "dr"
    intro r2 H2 a2 b2 S2
    walk_at "go"
    have d1 : CDivW m (1 + r1) := divW_of (by omega) (by omega)
    walk_at "go"
    have k1 : 1 ≤ m / (1 + r1) := by
      rw [Int.le_ediv_iff_mul_le (by omega)]; omega
    have k2 : m / (1 + r1) ≤ m := Int.ediv_le_self _ (by omega)
    refine do_law_draw (by walk_at "up") (by omega) (by omega) ?_
    intro r3 H3 a3 b3 S3
    walk_at "go"
    have k3 : (1 + r1) * (1 + r3) ≤ m := by
      have := Int.mul_le_mul_of_nonneg_left (show 1 + r3 ≤ m / (1 + r1) by omega) (show 0 ≤ 1 + r1 by omega)
      have := Int.mul_ediv_self_le (x := m) (k := 1 + r1) (by omega)
      omega
    have nb := n1_big
    exact q _ (1 + r1) r2 (1 + r3) _ ⟨by omega, by omega, by omega, by omega, by omega, by omega⟩ (by omega) (by omega) k3 (by walk_at "st") (by walk_at "up")
theorem do_law_net {t : Addr} {m : Int} (T : Tape H t) (h0 : 1 ≤ m) (h1 : m < 10 ^ 9) (k : ∀ v a b c H', Nm a b c → a ≤ m → c ≤ m → a * c ≤ m → Stp (some t) H H' → IT H' v [a, b, c] → Q v H') :
    sp_law_net [.ref t, .int m] H Q E := ⟨t, m, rfl, T, h0, h1, k⟩

end
end Law

set_option Elab.async false
set_option linter.all false
set_option maxRecDepth 100000
set_option maxHeartbeats 4000000
namespace Law
open PySem PySem.Spec PyProof.Rows L2 MV
local macro_rules | `(tactic| walk_at "up") => `(tactic| first
  | assumption
  | (refine' IT.mv ?s ?g; (case s => assumption); (case g => walk_at "up"))
  | (refine' IT.k ?g; (case g => walk_at "up"))
  | (refine' IK.mv ?s ?g; (case s => assumption); (case g => walk_at "up"))
  | (refine' Tape.mvN ?s ?g; (case s => assumption); (case g => walk_at "up"))
  | (refine' Tape.mvS ?s ?g; (case s => assumption); (case g => walk_at "up"))
  | (refine' At.tup ?s ?g; (case s => assumption); (case g => walk_at "up"))
  | (refine' At.ins ?s ?g; (case s => assumption); (case g => walk_at "up"))
  | (refine' At.lst ?s ?g; (case s => assumption); (case g => walk_at "up"))
  | (refine' At.lstS ?s ?n ?g; (case s => assumption); (case n => assumption); (case g => walk_at "up"))
  | fail)
local macro_rules | `(tactic| walk_at "st") => `(tactic| first
  | assumption
  | exact Stp.refl _ _
  | (refine' Stp.w ?s; (case s => assumption))
  | (refine' Stp.trans ?g ?s; (case s => (first | assumption | (refine' Stp.w ?u; (case u => assumption)))); (case g => walk_at "st"))
  | fail)
local macro_rules | `(tactic| walk_at "bT") => `(tactic| first
  | decide
  | (simp only [Bool.not_eq_true', Bool.not_eq_false', decide_eq_true_eq, decide_eq_false_iff_not]; omega)
  | fail)
local macro_rules | `(tactic| walk_at "sd") => `(tactic| first | assumption | decide | omega | fail)
local macro_rules | `(tactic| walk_at "r") => `(tactic| first
  | (with_reducible refine r_seq ?_)
  | (with_reducible refine r_asg ?_)
  | ((with_reducible refine' r_var ?h ?k); (case h => rfl))
  | (with_reducible refine r_c ?_)
  | (with_reducible refine r_op ?_)
  | (with_reducible refine r_un ?_)
  | (with_reducible refine r_nil ?_)
  | (with_reducible refine r_cons ?_)
  | (with_reducible refine r_tup ?_)
  | (with_reducible refine r_lst ?_)
  | (with_reducible refine r_cbLen ?_)
  | (with_reducible refine r_cbInt ?_)
  | (with_reducible refine r_cbRepr ?_)
  | (with_reducible refine r_cbTup ?_)
  | (with_reducible refine r_cbLst ?_)
  | (with_reducible refine r_cb ?_)
  | (with_reducible refine r_prop ?_)
  | (with_reducible refine r_andV ?_)
  | (with_reducible refine r_orV ?_)
  | (with_reducible refine r_notV ?_)
  | (with_reducible refine r_chain ?_)
  | (with_reducible refine r_ifE ?_)
  | (with_reducible refine r_test ?_)
  | (with_reducible refine r_B ?_)
  | (with_reducible refine r_and ?_)
  | (with_reducible refine r_or ?_)
  | (with_reducible refine r_not ?_)
  | (with_reducible refine r_yes ?_)
  | (with_reducible refine r_k ?_)
  | (with_reducible refine r_kV ?_)
  | (with_reducible refine r_next ?_)
  | (with_reducible refine r_drop ?_)
  | (with_reducible refine r_ret ?_)
  | (with_reducible refine r_ifS ?_)
  | (with_reducible refine r_par ?_)
  | (with_reducible refine r_par1 ?_)
  | (with_reducible refine r_gname ?_)
  | (with_reducible refine r_gnil ?_)
  | (with_reducible refine r_gcons ?_)
  | ((with_reducible refine' r_unpack2 ?h ?k); (case h => walk_at "up"))
  | ((with_reducible refine' r_unpack3 ?h ?k); (case h => walk_at "up"))
  | (with_reducible refine r_add ?_)
  | (with_reducible refine r_sub ?_)
  | (with_reducible refine r_neg ?_)
  | ((with_reducible refine' r_mod ?h ?k); (case h => walk_at "sd"))
  | ((with_reducible refine' r_div ?h ?k); (case h => walk_at "sd"))
  | ((with_reducible refine' r_mul ?h ?k); (case h => walk_at "sd"))
  | ((with_reducible refine' r_mulW ?h ?k); (case h => walk_at "sd"))
  | ((with_reducible refine' r_pow ?h ?k); (case h => (show (0 : Int) ≤ _ ∧ _ ∧ _; decide)))
  | (with_reducible refine r_lt ?_)
  | (with_reducible refine r_le ?_)
  | (with_reducible refine r_gt ?_)
  | (with_reducible refine r_ge ?_)
  | (with_reducible refine r_eqI ?_)
  | (with_reducible refine r_neI ?_)
  | (with_reducible refine r_eqS ?_)
  | (with_reducible refine r_neS ?_)
  | ((with_reducible refine' r_eqT ?h ?g ?k); (case h => walk_at "up"); (case g => walk_at "up"))
  | ((with_reducible refine' r_neT ?h ?g ?k); (case h => walk_at "up"); (case g => walk_at "up"))
  | ((with_reducible refine' r_ix0 ?h ?k); (case h => walk_at "up"))
  | ((with_reducible refine' r_ix1 ?h ?k); (case h => walk_at "up"))
  | ((with_reducible refine' r_ix2 ?h ?k); (case h => walk_at "up"))
  | (with_reducible refine r_newI2 (fun v H2 S I => ?_))
  | (with_reducible refine r_newI3 (fun v H2 S I => ?_))
  | (with_reducible refine r_newL1 (fun p H2 S hp np => ?_))
  | (with_reducible refine r_newL2 (fun p H2 S hp np => ?_))
  | (with_reducible refine r_newL3 (fun p H2 S hp np => ?_))
  | (with_reducible refine r_T ?_)
  | (with_reducible refine r_F ?_)
  | fail)
local macro_rules | `(tactic| walk_at "go") => `(tactic| repeat (walk_at "r"))
local macro_rules | `(tactic| walk_at "r") => `(tactic| first
  | (with_reducible refine r_call0 ?_)
  | (with_reducible refine r_meth0 ?_)
  | (with_reducible refine r_make0 ?_)
  | (with_reducible refine r_isiII ?_)
  | (with_reducible refine r_isiIB ?_)
  | ((with_reducible refine' r_isiTT ?h ?k); (case h => walk_at "up"))
  | ((with_reducible refine' r_len2 ?h ?k); (case h => walk_at "up"))
  | ((with_reducible refine' r_len3 ?h ?k); (case h => walk_at "up"))
  | ((with_reducible refine' r_lenL ?h ?k); (case h => walk_at "up"))
  | (with_reducible refine r_int1 ?_)
  | (with_reducible refine r_int1B ?_)
  | (with_reducible refine r_nT ?_)
  | (with_reducible refine r_nF ?_)
  | (with_reducible refine r_gcd ?_)
  | (with_reducible refine r_gsub ?_)
  | (with_reducible refine r_fld ?_)
  | (with_reducible refine r_p6 ?_)
  | (with_reducible refine r_p9 ?_)
  | (with_reducible refine r_p10 ?_)
  | (with_reducible refine r_p11 ?_)
  | (with_reducible refine r_p12 ?_)
  | (with_reducible refine r_p18 ?_)
  | (with_reducible refine r_p20 ?_)
  | (with_reducible refine r_p26 ?_)
  | (with_reducible refine r_p27 ?_)
  | (with_reducible refine r_p30 ?_)
  | ((with_reducible refine' r_iF ?h ?k); (case h => walk_at "bT"))
  | ((with_reducible refine' r_iT ?h ?k); (case h => walk_at "bT"))
  | (with_reducible refine r_sfld ?_)
  | (with_reducible refine r_sl ?_)
  | (with_reducible refine r_noPart ?_)
  | (with_reducible refine r_part ?_)
  | (with_reducible refine r_pk ?_)
  | ((with_reducible refine' r_unl2 ?h ?k); (case h => walk_at "up"))
  | ((with_reducible refine' r_ixLi ?h ?h0 ?hn ?k); (case h => walk_at "up"); (case h0 => walk_at "sd"); (case hn => rfl))
  | fail)

local macro_rules | `(tactic| walk_at "r") => `(tactic| with_reducible refine do_is_integer ?_)
local macro_rules | `(tactic| walk_at "r") => `(tactic| first | ((with_reducible refine' do_is_place ?h ?k); (case h => walk_at "up")) | fail)
local macro_rules | `(tactic| walk_at "r") => `(tactic| first | ((with_reducible refine' do_check_place ?h ?k); (case h => walk_at "up")) | fail)
local macro_rules | `(tactic| walk_at "r") => `(tactic| first | ((with_reducible refine' do_are_numbers ?h ?k); (case h => assumption)) | fail)
local macro_rules | `(tactic| walk_at "up") => `(tactic| first | (refine' NA.mv ?s ?g; (case s => assumption); (case g => walk_at "up")) | fail)
local macro_rules | `(tactic| walk_at "r") => `(tactic| first
  | ((with_reducible refine' do_Net_size ?h ?k); (case h => walk_at "up"))
  | ((with_reducible refine' do_meth ?h ?hm ?k); (case h => walk_at "up"); (case hm => decide +kernel))
  | fail)

local macro_rules | `(tactic| walk_at "r") => `(tactic| first
  | (with_reducible refine r_forT ?_)
  | (with_reducible refine r_forL ?_)
  | (with_reducible refine r_forR ?_)
  | (with_reducible refine r_newI4 (fun v H2 S I => ?_))
  | ((with_reducible refine' r_unpack4 ?h ?k); (case h => walk_at "up"))
  | fail)
section
variable {P : Program} {w : World} {K : PySem.W.Frag} {mg : Str → Option Value} {base : Heap} {ad : Ad} {H : Hp} {Q : VK} {E : XK} {i j x y : Int} {v : V}
/-! ### one more shift -/
theorem gcd_bd {a x : Int} {M : Nat} (h : a.natAbs ≤ M) (g : x.natAbs ≤ M) : (gcdI a x).natAbs ≤ M := by
  unfold gcdI
  rw [Int.natAbs_natCast]
  by_cases z : a.natAbs = 0
  · rw [z, Nat.gcd_zero_left]; exact g
  · exact Nat.le_trans (Nat.gcd_le_left _ (by omega)) h
theorem gcd_nn (a x : Int) : 0 ≤ gcdI a x := by unfold gcdI; omega
structure Wb (C B : Nat) (a b c x y : Int) : Prop where
  c1 : 1 ≤ C
  cc : c.natAbs ≤ C
  yy : y.natAbs ≤ C
  aa : a.natAbs ≤ B
  bb : b.natAbs ≤ B
  xx : x.natAbs ≤ B
theorem Nf.mk' {a b c : Int} (ha : 0 ≤ a) (hc : 0 ≤ c) (hz : c = 0 → b = 0) {M : Nat} (bb : b.natAbs ≤ M) (ba : a.natAbs ≤ M) :
    (0 < a → NF a (b % a) c ∧ (b % a).natAbs ≤ M) ∧ (¬ 0 < a → NF a b c) := by
  constructor
  · intro h
    have r0 := Int.emod_nonneg b (show a ≠ 0 by omega)
    have r1 := Int.emod_lt_of_pos b h
    refine ⟨⟨ha, hc, fun _ => ⟨r0, r1⟩, fun e => by rw [hz e]; rfl⟩, by omega⟩
  · intro h
    exact ⟨ha, hc, fun n => absurd n (by omega), hz⟩
/-- what with_shift gives -/
structure Ws (a b c x y : Int) (C M : Nat) (a' b' c' : Int) : Prop where
  nf : NF a' b' c'
  sp : ∀ X Y, Lp a' b' c' X Y ↔ SpF (Lp a b c) (x, y) X Y
  cc : c'.natAbs ≤ C
  aa : a'.natAbs ≤ M
  bb : b'.natAbs ≤ M
def sp_with_shift : Sp := fun vs H Q _ => ∃ v u a b c x y C B, vs = [v, u] ∧ IT H v [a, b, c] ∧ IT H u [x, y] ∧ NF a b c ∧ Wb C B a b c x y ∧ ((4 * C * B : Nat) : Int) ≤ N1 ∧ ((C : Nat) : Int) ≤ N1 ∧
  ∀ z a' b' c' H', Stp none H H' → IT H' z [a', b', c'] → Ws a b c x y C (4 * C * B) a' b' c' → Q z H'
theorem ok_with_shift (T : Txt w K mg ad) : FnG P w K mg base CX0 1 ad.with_shift ad.with_shift_d P_with_shift sp_with_shift := by
  refine Fun.gn T.F_with_shift sc_with_shift (fun vs H Q E h => ?_) (fun cdv A outer s H vs Q E hr hg h => ?_)
  · obtain ⟨v, u, a, b, c, x, y, C, B, rfl, _⟩ := h
    rfl
  · obtain ⟨v, u, a, b, c, x, y, C, B, rfl, hv, hu, hn, hw, hM, hC, q⟩ := h
    have e0 := EB.start hw.c1 hw.cc hw.yy hw.bb hw.xx
    have ha : a.natAbs ≤ 4 * C * B := by
      have := Nat.mul_le_mul_right B (show 1 ≤ 4 * C by have := hw.c1; omega)
      have := hw.aa
      omega
    generalize 4 * C * B = M at e0 ha hM q
    refine ⟨_, (pss_cons (ps_asg (pv 0) (pg_tup (n := 3) rfl (pgs_cons (pg_name (i := 2) sc_with_shift.nd rfl (Or.inl rfl)) (pgs_cons (pg_name (i := 3) sc_with_shift.nd rfl (Or.inl rfl)) (pgs_cons (pg_name (i := 4) sc_with_shift.nd rfl (Or.inl rfl)) pgs_nil)))))
      (pss_cons (ps_asg (pv 1) (pg_tup (n := 2) rfl (pgs_cons (pg_name (i := 5) sc_with_shift.nd rfl (Or.inl rfl)) (pgs_cons (pg_name (i := 6) sc_with_shift.nd rfl (Or.inl rfl)) pgs_nil))))
      (pss_cons (ps_while PassesOwn.never (pt_cmpR op_ne (pv 6) pe_int (nomark _))
      (pss_cons (ps_set (i := 7) sc_with_shift.nd rfl (Or.inl rfl) (pe_op op_fdivN9 (pv 4) (pv 6)))
      (pss_one (ps_asg (pe_tup (pa_cons (pv 5) (pa_cons (pv 6) (pa_cons (pe_op op_sub (pv 3) (pe_op op_mulW (pv 7) (pv 5))) (pa_cons (pe_op op_sub (pv 4) (pe_op op_mulW (pv 7) (pv 6))) pa_nil))))) (pg_tup (n := 4) rfl (pgs_cons (pg_name (i := 3) sc_with_shift.nd rfl (Or.inl rfl)) (pgs_cons (pg_name (i := 4) sc_with_shift.nd rfl (Or.inl rfl)) (pgs_cons (pg_name (i := 5) sc_with_shift.nd rfl (Or.inl rfl)) (pgs_cons (pg_name (i := 6) sc_with_shift.nd rfl (Or.inl rfl)) pgs_nil)))))))))
      (pss_cons (ps_if (pt_cmpR op_lt (pv 4) pe_int (nomark _))
      (pss_one (ps_par (i := 3) (j := 4) rfl sc_with_shift.nd rfl rfl (by decide) rfl rfl (pa_cons (pe_un un_neg (pv 3)) (pa_cons (pe_un un_neg (pv 4)) pa_nil)) rfl)) pss_nil)
      (pss_cons (ps_set (i := 2) sc_with_shift.nd rfl (Or.inl rfl) (pe_callBfun cr_gcd (by rfl) T.g_gcd (pa_cons (pv 2) (pa_cons (pv 5) pa_nil))))
      (pss_cons (ps_if (pt_cmpR op_gt (pv 2) pe_int (nomark _))
      (pss_one (ps_set (i := 3) sc_with_shift.nd rfl (Or.inl rfl) (pe_op op_mod (pv 3) (pv 2)))) pss_nil)
      (pss_one (ps_ret (pe_tup (pa_cons (pv 2) (pa_cons (pv 3) (pa_cons (pv 4) pa_nil)))))))))))), ?_⟩
    walk_at "go"
    refine r_while (fun m σ H' => ∃ b1 c1 x1 y1 t, σ = [some v, some u, some (.int a), some (.int b1), some (.int c1), some (.int x1), some (.int y1), t] ∧ Stp none H H' ∧ EB C M b1 c1 x1 y1 ∧
      (∀ X Y, L3 a b1 c1 x1 y1 X Y ↔ L3 a b c x y X Y) ∧ (c1 = 0 → b1 = 0) ∧ m = y1.natAbs) ⟨_, b, c, x, y, none, rfl, Stp.refl _ _, e0, fun _ _ => Iff.rfl, hn.z, rfl⟩ ?_
    rintro m σ H1 ⟨b1, c1, x1, y1, t, rfl, s1, e1, l1, z1, rfl⟩
    walk_at "go"
    refine r_iteN (fun hy => ?_) (fun hy => ?_)
    · obtain ⟨k1, k2, k3, k4, _⟩ := id e1
      have f1 := fd_le (c := c1) (y := y1)
      have rr := fd_rest (c := c1) hy
      refine ⟨fun σ' H' => ∃ t, σ' = [some v, some u, some (.int a), some (.int x1), some (.int y1), some (.int (b1 - c1.fdiv y1 * x1)), some (.int (c1 - c1.fdiv y1 * y1)), t] ∧ Stp none H H', ?_, ?_⟩
      · rintro σ' H' ⟨t, rfl, s'⟩
        exact ⟨_, rr.1, x1, y1, _, _, t, rfl, s', e1.step hy, fun X Y => L3_step.trans (l1 X Y), fun h => absurd h hy, rfl⟩
      · walk_at "go"
        refine r_divN9 (divN9 hy (by omega) (by omega)) ?_
        walk_at "go"
        refine r_mulW (mulN (by omega) (by omega) (by omega) (by omega)) ?_
        walk_at "go"
        refine r_mulW (mulN (by omega) (by omega) (by omega) (by omega)) ?_
        walk_at "go"
        exact ⟨_, rfl, by walk_at "st"⟩
    · subst hy
      have gb := gcd_bd ha e1.hx
      have gn := gcd_nn a x1
      have l2 : ∀ X Y, Lp (gcdI a x1) b1 c1 X Y ↔ SpF (Lp a b c) (x, y) X Y := fun X Y => L3_end.symm.trans (l1 X Y)
      have fin : ∀ {b2 c2 : Int} {t : Option V} {H2 : Hp} (σ' : L2.St), (∀ X Y, Lp (gcdI a x1) b2 c2 X Y ↔ SpF (Lp a b c) (x, y) X Y) → 0 ≤ c2 → (c2 = 0 → b2 = 0) → b2.natAbs ≤ M → c2.natAbs ≤ C → Stp none H H2 → ∀ b3,
          (if 0 < gcdI a x1 then b3 = b2 % gcdI a x1 else b3 = b2) → ∀ z, ∀ H3, Stp none H2 H3 → IT H3 z [gcdI a x1, b3, c2] → Q z H3 := by
        intro b2 c2 t H2 σ' l3 c0 z3 bb cc s2 b3 hb3 z H3 s3 hz
        obtain ⟨n1, n2⟩ := Nf.mk' gn c0 z3 bb gb
        by_cases hg : 0 < gcdI a x1
        · rw [if_pos hg] at hb3
          subst hb3
          exact q _ _ _ _ _ (s2.trans s3) hz ⟨(n1 hg).1, fun X Y => Lp_mod.trans (l3 X Y), cc, gb, (n1 hg).2⟩
        · rw [if_neg hg] at hb3
          subst hb3
          exact q _ _ _ _ _ (s2.trans s3) hz ⟨n2 hg, l3, cc, gb, bb⟩
      walk_at "go"
      refine r_ite (fun hc => ?_) (fun hc => ?_)
      · walk_at "go"
        refine r_ite (fun hg => ?_) (fun hg => ?_)
        · walk_at "go"
          rename_i z H3 S3 hz
          exact fin (t := t) [] (fun X Y => Lp_neg.trans (l2 X Y)) (by omega) (fun h => by rw [z1 (by omega)]; rfl) (by have := e1.hb; omega) (by have := e1.hc; omega) s1 _ (by rw [if_pos (show 0 < gcdI a x1 from hg)]; rfl) z H3 S3 hz
        · walk_at "go"
          rename_i z H3 S3 hz
          exact fin (t := t) [] (fun X Y => Lp_neg.trans (l2 X Y)) (by omega) (fun h => by rw [z1 (by omega)]; rfl) (by have := e1.hb; omega) (by have := e1.hc; omega) s1 _ (by rw [if_neg (show ¬ 0 < gcdI a x1 from hg)]) z H3 S3 hz
      · walk_at "go"
        refine r_ite (fun hg => ?_) (fun hg => ?_)
        · walk_at "go"
          rename_i z H3 S3 hz
          exact fin (t := t) [] l2 (by omega) z1 e1.hb e1.hc s1 _ (by rw [if_pos (show 0 < gcdI a x1 from hg)]; rfl) z H3 S3 hz
        · walk_at "go"
          rename_i z H3 S3 hz
          exact fin (t := t) [] l2 (by omega) z1 e1.hb e1.hc s1 _ (by rw [if_neg (show ¬ 0 < gcdI a x1 from hg)]) z H3 S3 hz
theorem do_with_shift {u : V} {a b c : Int} {C B : Nat} (h : IT H v [a, b, c]) (hu : IT H u [x, y]) (n : NF a b c) (hw : Wb C B a b c x y) (hM : ((4 * C * B : Nat) : Int) ≤ N1) (hC : ((C : Nat) : Int) ≤ N1)
    (q : ∀ z a' b' c' H', Stp none H H' → IT H' z [a', b', c'] → Ws a b c x y C (4 * C * B) a' b' c' → Q z H') : sp_with_shift [v, u] H Q E := ⟨v, u, a, b, c, x, y, C, B, rfl, h, hu, n, hw, hM, hC, q⟩
end
end Law

set_option Elab.async false
set_option linter.all false
set_option maxRecDepth 100000
set_option maxHeartbeats 4000000
namespace Law
open PySem PySem.Spec PyProof.Rows L2 MV
local macro_rules | `(tactic| walk_at "up") => `(tactic| first
  | assumption
  | (refine' IT.mv ?s ?g; (case s => assumption); (case g => walk_at "up"))
  | (refine' IT.k ?g; (case g => walk_at "up"))
  | (refine' IK.mv ?s ?g; (case s => assumption); (case g => walk_at "up"))
  | (refine' Tape.mvN ?s ?g; (case s => assumption); (case g => walk_at "up"))
  | (refine' Tape.mvS ?s ?g; (case s => assumption); (case g => walk_at "up"))
  | (refine' At.tup ?s ?g; (case s => assumption); (case g => walk_at "up"))
  | (refine' At.ins ?s ?g; (case s => assumption); (case g => walk_at "up"))
  | (refine' At.lst ?s ?g; (case s => assumption); (case g => walk_at "up"))
  | (refine' At.lstS ?s ?n ?g; (case s => assumption); (case n => assumption); (case g => walk_at "up"))
  | fail)
local macro_rules | `(tactic| walk_at "st") => `(tactic| first
  | assumption
  | exact Stp.refl _ _
  | (refine' Stp.w ?s; (case s => assumption))
  | (refine' Stp.trans ?g ?s; (case s => (first | assumption | (refine' Stp.w ?u; (case u => assumption)))); (case g => walk_at "st"))
  | fail)
local macro_rules | `(tactic| walk_at "bT") => `(tactic| first
  | decide
  | (simp only [Bool.not_eq_true', Bool.not_eq_false', decide_eq_true_eq, decide_eq_false_iff_not]; omega)
  | fail)
local macro_rules | `(tactic| walk_at "sd") => `(tactic| first | assumption | decide | omega | fail)
local macro_rules | `(tactic| walk_at "r") => `(tactic| first
  | (with_reducible refine r_seq ?_)
  | (with_reducible refine r_asg ?_)
  | ((with_reducible refine' r_var ?h ?k); (case h => rfl))
  | (with_reducible refine r_c ?_)
  | (with_reducible refine r_op ?_)
  | (with_reducible refine r_un ?_)
  | (with_reducible refine r_nil ?_)
  | (with_reducible refine r_cons ?_)
  | (with_reducible refine r_tup ?_)
  | (with_reducible refine r_lst ?_)
  | (with_reducible refine r_cbLen ?_)
  | (with_reducible refine r_cbInt ?_)
  | (with_reducible refine r_cbRepr ?_)
  | (with_reducible refine r_cbTup ?_)
  | (with_reducible refine r_cbLst ?_)
  | (with_reducible refine r_cb ?_)
  | (with_reducible refine r_prop ?_)
  | (with_reducible refine r_andV ?_)
  | (with_reducible refine r_orV ?_)
  | (with_reducible refine r_notV ?_)
  | (with_reducible refine r_chain ?_)
  | (with_reducible refine r_ifE ?_)
  | (with_reducible refine r_test ?_)
  | (with_reducible refine r_B ?_)
  | (with_reducible refine r_and ?_)
  | (with_reducible refine r_or ?_)
  | (with_reducible refine r_not ?_)
  | (with_reducible refine r_yes ?_)
  | (with_reducible refine r_k ?_)
  | (with_reducible refine r_kV ?_)
  | (with_reducible refine r_next ?_)
  | (with_reducible refine r_drop ?_)
  | (with_reducible refine r_ret ?_)
  | (with_reducible refine r_ifS ?_)
  | (with_reducible refine r_par ?_)
  | (with_reducible refine r_par1 ?_)
  | (with_reducible refine r_gname ?_)
  | (with_reducible refine r_gnil ?_)
  | (with_reducible refine r_gcons ?_)
  | ((with_reducible refine' r_unpack2 ?h ?k); (case h => walk_at "up"))
  | ((with_reducible refine' r_unpack3 ?h ?k); (case h => walk_at "up"))
  | (with_reducible refine r_add ?_)
  | (with_reducible refine r_sub ?_)
  | (with_reducible refine r_neg ?_)
  | ((with_reducible refine' r_mod ?h ?k); (case h => walk_at "sd"))
  | ((with_reducible refine' r_div ?h ?k); (case h => walk_at "sd"))
  | ((with_reducible refine' r_mul ?h ?k); (case h => walk_at "sd"))
  | ((with_reducible refine' r_mulW ?h ?k); (case h => walk_at "sd"))
  | ((with_reducible refine' r_pow ?h ?k); (case h => (show (0 : Int) ≤ _ ∧ _ ∧ _; decide)))
  | (with_reducible refine r_lt ?_)
  | (with_reducible refine r_le ?_)
  | (with_reducible refine r_gt ?_)
  | (with_reducible refine r_ge ?_)
  | (with_reducible refine r_eqI ?_)
  | (with_reducible refine r_neI ?_)
  | (with_reducible refine r_eqS ?_)
  | (with_reducible refine r_neS ?_)
  | ((with_reducible refine' r_eqT ?h ?g ?k); (case h => walk_at "up"); (case g => walk_at "up"))
  | ((with_reducible refine' r_neT ?h ?g ?k); (case h => walk_at "up"); (case g => walk_at "up"))
  | ((with_reducible refine' r_ix0 ?h ?k); (case h => walk_at "up"))
  | ((with_reducible refine' r_ix1 ?h ?k); (case h => walk_at "up"))
  | ((with_reducible refine' r_ix2 ?h ?k); (case h => walk_at "up"))
  | (with_reducible refine r_newI2 (fun v H2 S I => ?_))
  | (with_reducible refine r_newI3 (fun v H2 S I => ?_))
  | (with_reducible refine r_newL1 (fun p H2 S hp np => ?_))
  | (with_reducible refine r_newL2 (fun p H2 S hp np => ?_))
  | (with_reducible refine r_newL3 (fun p H2 S hp np => ?_))
  | (with_reducible refine r_T ?_)
  | (with_reducible refine r_F ?_)
  | fail)
local macro_rules | `(tactic| walk_at "go") => `(tactic| repeat (walk_at "r"))
local macro_rules | `(tactic| walk_at "r") => `(tactic| first
  | (with_reducible refine r_call0 ?_)
  | (with_reducible refine r_meth0 ?_)
  | (with_reducible refine r_make0 ?_)
  | (with_reducible refine r_isiII ?_)
  | (with_reducible refine r_isiIB ?_)
  | ((with_reducible refine' r_isiTT ?h ?k); (case h => walk_at "up"))
  | ((with_reducible refine' r_len2 ?h ?k); (case h => walk_at "up"))
  | ((with_reducible refine' r_len3 ?h ?k); (case h => walk_at "up"))
  | ((with_reducible refine' r_lenL ?h ?k); (case h => walk_at "up"))
  | (with_reducible refine r_int1 ?_)
  | (with_reducible refine r_int1B ?_)
  | (with_reducible refine r_nT ?_)
  | (with_reducible refine r_nF ?_)
  | (with_reducible refine r_gcd ?_)
  | (with_reducible refine r_gsub ?_)
  | (with_reducible refine r_fld ?_)
  | (with_reducible refine r_p6 ?_)
  | (with_reducible refine r_p9 ?_)
  | (with_reducible refine r_p10 ?_)
  | (with_reducible refine r_p11 ?_)
  | (with_reducible refine r_p12 ?_)
  | (with_reducible refine r_p18 ?_)
  | (with_reducible refine r_p20 ?_)
  | (with_reducible refine r_p26 ?_)
  | (with_reducible refine r_p27 ?_)
  | (with_reducible refine r_p30 ?_)
  | ((with_reducible refine' r_iF ?h ?k); (case h => walk_at "bT"))
  | ((with_reducible refine' r_iT ?h ?k); (case h => walk_at "bT"))
  | (with_reducible refine r_sfld ?_)
  | (with_reducible refine r_sl ?_)
  | (with_reducible refine r_noPart ?_)
  | (with_reducible refine r_part ?_)
  | (with_reducible refine r_pk ?_)
  | ((with_reducible refine' r_unl2 ?h ?k); (case h => walk_at "up"))
  | ((with_reducible refine' r_ixLi ?h ?h0 ?hn ?k); (case h => walk_at "up"); (case h0 => walk_at "sd"); (case hn => rfl))
  | fail)

local macro_rules | `(tactic| walk_at "r") => `(tactic| with_reducible refine do_is_integer ?_)
local macro_rules | `(tactic| walk_at "r") => `(tactic| first | ((with_reducible refine' do_is_place ?h ?k); (case h => walk_at "up")) | fail)
local macro_rules | `(tactic| walk_at "r") => `(tactic| first | ((with_reducible refine' do_check_place ?h ?k); (case h => walk_at "up")) | fail)
local macro_rules | `(tactic| walk_at "r") => `(tactic| first | ((with_reducible refine' do_are_numbers ?h ?k); (case h => assumption)) | fail)
local macro_rules | `(tactic| walk_at "up") => `(tactic| first | (refine' NA.mv ?s ?g; (case s => assumption); (case g => walk_at "up")) | fail)
local macro_rules | `(tactic| walk_at "r") => `(tactic| first
  | ((with_reducible refine' do_Net_size ?h ?k); (case h => walk_at "up"))
  | ((with_reducible refine' do_meth ?h ?hm ?k); (case h => walk_at "up"); (case hm => decide +kernel))
  | fail)

local macro_rules | `(tactic| walk_at "r") => `(tactic| first
  | (with_reducible refine r_forT ?_)
  | (with_reducible refine r_forL ?_)
  | (with_reducible refine r_forR ?_)
  | (with_reducible refine r_newI4 (fun v H2 S I => ?_))
  | ((with_reducible refine' r_unpack4 ?h ?k); (case h => walk_at "up"))
  | fail)
section
variable {P : Program} {w : World} {K : PySem.W.Frag} {mg : Str → Option Value} {base : Heap} {ad : Ad} {H : Hp} {Q : VK} {E : XK} {i j x y : Int} {v : V}
/-! ### the divisor and the net of the law -/
theorem dvd_gcdI {a b d : Int} (h : d ∣ a) (g : d ∣ b) : d ∣ gcdI a b := by
  obtain ⟨i, j, e⟩ := bezI a b
  rw [e]
  exact Int.dvd_add (Int.dvd_mul_of_dvd_right h) (Int.dvd_mul_of_dvd_right g)
theorem gcd_step (c y t : Int) : gcdI y (c - t * y) = gcdI c y := by
  refine Int.dvd_antisymm (gcd_nn _ _) (gcd_nn _ _) ?_ ?_
  · refine dvd_gcdI ?_ (gcdI_left _ _)
    have := Int.dvd_add (gcdI_right y (c - t * y)) (Int.dvd_mul_of_dvd_right (b := t) (gcdI_left y (c - t * y)))
    have e : c - t * y + t * y = c := by omega
    rwa [e] at this
  · refine dvd_gcdI (gcdI_right _ _) ?_
    exact Int.dvd_sub (gcdI_left _ _) (Int.dvd_mul_of_dvd_right (gcdI_right _ _))
theorem fmod_is (c y : Int) : c.fmod y = c - c.fdiv y * y := by
  have := Int.fmod_def c y
  rw [this, Int.mul_comm]
theorem gcd_zero (a : Int) : gcdI a 0 = if a < 0 then -a else a := by
  unfold gcdI
  simp only [Int.natAbs_zero, Nat.gcd_zero_right]
  split <;> omega
def sp_law_divisor : Sp := fun vs H Q _ => ∃ i j, vs = [.int i, .int j] ∧ Q (.int (gcdI i j)) H
theorem ok_law_divisor (T : Txt w K mg ad) : FnG P w K mg base CX0 1 ad.law_divisor ad.law_divisor_d P_law_divisor sp_law_divisor := by
  refine Fun.gn T.F_law_divisor sc_law_divisor (fun vs H Q E h => ?_) (fun cdv A outer s H vs Q E hr hg h => ?_)
  · obtain ⟨i, j, rfl, _⟩ := h
    rfl
  · obtain ⟨i, j, rfl, q⟩ := h
    refine ⟨_, (pss_cons (ps_while PassesOwn.never (pt_cmpR op_ne (pv 1) pe_int (nomark _))
      (pss_one (ps_par (i := 0) (j := 1) rfl sc_law_divisor.nd rfl rfl (by decide) rfl rfl (pa_cons (pv 1) (pa_cons (pe_op op_modN (pv 0) (pv 1)) pa_nil)) rfl)))
      (pss_one (ps_ret (pe_callB call_abs (by rfl) T.z_abs (by decide +kernel) (pa_cons (pv 0) pa_nil))))), ?_⟩
    walk_at "go"
    refine r_while (fun m σ H' => ∃ i1 j1, σ = [some (.int i1), some (.int j1)] ∧ H' = H ∧ gcdI i1 j1 = gcdI i j ∧ m = j1.natAbs) ⟨_, i, j, rfl, rfl, rfl, rfl⟩ ?_
    rintro m σ H' ⟨i1, j1, rfl, rfl, e, rfl⟩
    walk_at "go"
    refine r_iteN (fun hy => ?_) (fun hy => ?_)
    · refine ⟨fun σ' H2 => σ' = [some (.int j1), some (.int (i1 - i1.fdiv j1 * j1))] ∧ H2 = H', ?_, ?_⟩
      · rintro σ' H2 ⟨rfl, rfl⟩
        exact ⟨_, (fd_rest hy).1, j1, _, rfl, rfl, (gcd_step i1 j1 _).trans e, rfl⟩
      · walk_at "go"
        refine r_modN hy ?_
        rw [fmod_is]
        walk_at "go"
        exact ⟨rfl, rfl⟩
    · subst hy
      walk_at "go"
      refine ⟨i1, rfl, ?_⟩
      rw [← gcd_zero, e]
      exact q
theorem do_law_divisor (q : Q (.int (gcdI i j)) H) : sp_law_divisor [.int i, .int j] H Q E := ⟨i, j, rfl, q⟩
/-- the shifts ss stand as the values xs -/
def PT (H : Hp) (xs : List V) (ss : List (Int × Int)) : Prop := xs.length = ss.length ∧ ∀ (i : Nat) (x : V), xs[i]? = some x → ∃ s, ss[i]? = some s ∧ IT H x [s.1, s.2]
theorem PT.mv {t : Option Addr} {H H' : Hp} {xs : List V} {ss : List (Int × Int)} (s : Stp t H H') (h : PT H xs ss) : PT H' xs ss :=
  ⟨h.1, fun i x e => (let ⟨u, h1, h2⟩ := h.2 i x e; ⟨u, h1, h2.mv s⟩)⟩
def Bd (C B : Nat) (ss : List (Int × Int)) : Prop := ∀ s ∈ ss, s.1.natAbs ≤ B ∧ s.2.natAbs ≤ C
/-- the bounds of a fold over so many shifts -/
structure Fb (C B n : Nat) : Prop where
  c1 : 1 ≤ C
  n1 : (((4 * C) ^ n * B : Nat) : Int) ≤ N1
  cn : ((C : Nat) : Int) ≤ N1
theorem pw_le {C B i n : Nat} (h : 1 ≤ C) (hi : i ≤ n) : (4 * C) ^ i * B ≤ (4 * C) ^ n * B := Nat.mul_le_mul_right B (Nat.pow_le_pow_right (by omega) hi)
theorem pw_0 {C B i : Nat} (h : 1 ≤ C) : B ≤ (4 * C) ^ i * B := by
  have := pw_le (B := B) h (Nat.zero_le i)
  rwa [Nat.pow_zero, Nat.one_mul] at this
theorem pw_s {C B i : Nat} : 4 * C * ((4 * C) ^ i * B) = (4 * C) ^ (i + 1) * B := by
  rw [Nat.pow_succ, ← Nat.mul_assoc]
  congr 1
  exact Nat.mul_comm _ _
theorem Fb.at_ {C B n : Nat} (h : Fb C B n) {i : Nat} (hi : i ≤ n) : (((4 * C) ^ i * B : Nat) : Int) ≤ N1 := by
  have := pw_le (B := B) h.c1 hi
  have := h.n1
  omega
theorem nf_0 : NF 0 0 0 := ⟨by decide, by decide, fun h => absurd rfl h, fun _ => rfl⟩
theorem lp_0 (X Y : Int) : Lp 0 0 0 X Y ↔ SpL [] X Y :=
  ⟨fun ⟨i, j, e1, e2⟩ => ⟨by omega, by omega⟩, fun ⟨e1, e2⟩ => ⟨0, 0, by omega, by omega⟩⟩
theorem spF_cong {L M : Lat} (h : ∀ X Y, L X Y ↔ M X Y) (s : Int × Int) (X Y : Int) : SpF L s X Y ↔ SpF M s X Y :=
  ⟨fun ⟨k, z⟩ => ⟨k, (h _ _).mp z⟩, fun ⟨k, z⟩ => ⟨k, (h _ _).mpr z⟩⟩
theorem Bd.at_ {C B : Nat} {ss : List (Int × Int)} (h : Bd C B ss) {i : Nat} {s : Int × Int} (e : ss[i]? = some s) : s.1.natAbs ≤ B ∧ s.2.natAbs ≤ C := h s (List.mem_of_getElem? e)
def sp_law_net_of (K : PySem.W.Frag) : Sp := fun vs H Q _ => ∃ p xs ss C B, vs = [.ref p] ∧ SqL K H p xs ∧ PT H xs ss ∧ Bd C B ss ∧ Fb C B ss.length ∧ (∀ H', Stp none H H' → SqL K H' p xs) ∧
  ∀ a b c, Nfs ss a b c → (a = 0 ∨ c = 0 → ∀ H', Stp none H H' → Q .non H') ∧ (a ≠ 0 → c ≠ 0 → ∀ z H', Stp none H H' → IT H' z [a, b, c] → Q z H')
theorem ok_law_net_of (T : Txt w K mg ad) : FnG P w K mg base CX0 2 ad.law_net_of ad.law_net_of_d P_law_net_of (sp_law_net_of K) := by
  have G_law_divisor := ok_law_divisor (P := P) (w := w) (base := base) T
  refine Fun.gn T.F_law_net_of sc_law_net_of (fun vs H Q E h => ?_) (fun cdv A outer s H vs Q E hr hg h => ?_)
  · obtain ⟨p, xs, ss, C, B, rfl, _⟩ := h
    rfl
  · obtain ⟨p, xs, ss, C, B, rfl, hp, hx, hb, hf, hk, q⟩ := h
    refine ⟨_, (pss_cons (ps_asg (pe_tup (pa_cons pe_int (pa_cons (pe_tup (pa_cons pe_int (pa_cons pe_int pa_nil))) pa_nil))) (pg_tup (n := 2) rfl (pgs_cons (pg_name (i := 1) sc_law_net_of.nd rfl (Or.inl rfl)) (pgs_cons (pg_name (i := 2) sc_law_net_of.nd rfl (Or.inl rfl)) pgs_nil))))
      (pss_cons (ps_for PassesOwn.never rfl (pi_list (pv 0)) (pg_name (i := 3) sc_law_net_of.nd rfl (Or.inl rfl))
      (pss_cons (ps_set (i := 4) sc_law_net_of.nd rfl (Or.inl rfl) (pv 3))
      (pss_cons (ps_while PassesOwn.never (pt_cmpR op_ne (pe_ix ix_seq (pv 4) pe_int (fun _ _ => rfl)) pe_int (nomark _))
      (pss_cons (ps_set (i := 5) sc_law_net_of.nd rfl (Or.inl rfl) (pe_op op_fdivN9 (pe_ix ix_seq (pv 2) pe_int (fun _ _ => rfl)) (pe_ix ix_seq (pv 4) pe_int (fun _ _ => rfl))))
      (pss_one (ps_par (i := 2) (j := 4) rfl sc_law_net_of.nd rfl rfl (by decide) rfl rfl (pa_cons (pv 4) (pa_cons (pe_tup (pa_cons (pe_op op_sub (pe_ix ix_seq (pv 2) pe_int (fun _ _ => rfl)) (pe_op op_mulW (pv 5) (pe_ix ix_seq (pv 4) pe_int (fun _ _ => rfl)))) (pa_cons (pe_op op_sub (pe_ix ix_seq (pv 2) pe_int (fun _ _ => rfl)) (pe_op op_mulW (pv 5) (pe_ix ix_seq (pv 4) pe_int (fun _ _ => rfl)))) pa_nil))) pa_nil)) rfl))))
      (pss_one (ps_set (i := 1) sc_law_net_of.nd rfl (Or.inl rfl) (peg_call G_law_divisor (hr.mono (by decide)) hg (by rfl) T.g_law_divisor T.F_law_divisor.kp T.b_law_divisor .nil pass0 (pa_cons (pv 1) (pa_cons (pe_ix ix_seq (pv 4) pe_int (fun _ _ => rfl)) pa_nil))))))))
      (pss_cons (ps_if (PW.pt (pw_or (pt_cmpR op_eq (pv 1) pe_int (nomark _)) (pw_or1 (pt_cmpR op_eq (pe_ix ix_seq (pv 2) pe_int (fun _ _ => rfl)) pe_int (nomark _)))))
      (pss_one (ps_ret pe_non)) pss_nil)
      (pss_one (ps_ret (pe_tup (pa_cons (pv 1) (pa_cons (pe_op op_mod (pe_op op_mulW (pe_ix ix_seq (pv 2) pe_int (fun _ _ => rfl)) (pe_ix ix_seq (pe_lst (pa_cons pe_int (pa_cons (pe_un un_neg pe_int) pa_nil))) (pe_callTy call_int1 (by rfl) T.z_int (by decide +kernel) (pa_cons (pe_cmpR op_lt (pe_ix ix_seq (pv 2) pe_int (fun _ _ => rfl)) pe_int (nomark _)) pa_nil)) (fun _ _ => rfl))) (pv 1)) (pa_cons (pe_callB call_abs (by rfl) T.z_abs (by decide +kernel) (pa_cons (pe_ix ix_seq (pv 2) pe_int (fun _ _ => rfl)) pa_nil)) pa_nil))))))))), ?_⟩
    walk_at "go"
    rename_i z0 H00 S00 i00
    refine r_newT (sz100 (Nat.le_of_ble_eq_true rfl)) fun pp H0 S0' hpp npp => r_unT2 hpp ?_
    have S0 : Stp none H H0 := S00.trans S0'
    have i0 : IT H0 z0 [0, 0] := i00.mv S0'
    walk_at "go"
    have hl : xs.length = ss.length := hx.1
    refine ⟨p, rfl, ⟨_, hk _ S0⟩, for_list (xs := xs) (fun i σ H' => ∃ wd z l0 l1 t3 t4 t5, σ = [some (.ref p), some (.int wd), some z, t3, t4, t5] ∧ Stp none H H' ∧ IT H' z [l0, l1] ∧ 0 ≤ wd ∧ (∀ X Y, Lp wd l0 l1 X Y ↔ SpL (ss.take i) X Y) ∧
      (l1 = 0 → l0 = 0) ∧ l1.natAbs ≤ C ∧ l0.natAbs ≤ (4 * C) ^ i * B ∧ wd.natAbs ≤ (4 * C) ^ i * B) ⟨0, z0, 0, 0, none, none, none, rfl, S0, i0, by decide, lp_0, fun _ => rfl, Nat.zero_le _, Nat.zero_le _, Nat.zero_le _⟩
      (fun i σ H' _ ⟨_, _, _, _, _, _, _, _, s', _⟩ => hk _ s') ?_ ?_⟩
    · rintro i u σ H' hu ⟨wd, z, l0, l1, t3, t4, t5, rfl, s', iz, w0, le, lz, bc, b0, bw⟩
      have hi : i < ss.length := by
        have := (List.getElem?_eq_some_iff.mp hu).1
        omega
      obtain ⟨⟨x, y⟩, es, iu0⟩ := hx.2 i u hu
      have iu : IT H' u [x, y] := iu0.mv s'
      have hxy := hb.at_ es
      have e0 : EB C ((4 * C) ^ (i + 1) * B) l0 l1 x y := by
        have := EB.start (b := l0) (c := l1) (x := x) (y := y) hf.c1 bc hxy.2 b0 (Nat.le_trans hxy.1 (pw_0 hf.c1))
        rwa [pw_s] at this
      have hM := hf.at_ (show i + 1 ≤ ss.length from hi)
      have hC := hf.cn
      have bw' : wd.natAbs ≤ (4 * C) ^ (i + 1) * B := Nat.le_trans bw (pw_le hf.c1 (Nat.le_succ i))
      have et := SpL_take es
      generalize (4 * C) ^ (i + 1) * B = M at e0 hM bw' ⊢
      walk_at "go"
      refine r_while (fun m σ H2 => ∃ zl zf b1 c1 x1 y1 t, σ = [some (.ref p), some (.int wd), some zl, some u, some zf, t] ∧ Stp none H H2 ∧ IT H2 zl [b1, c1] ∧ IT H2 zf [x1, y1] ∧ EB C M b1 c1 x1 y1 ∧
        (∀ X Y, L3 wd b1 c1 x1 y1 X Y ↔ L3 wd l0 l1 x y X Y) ∧ (c1 = 0 → b1 = 0) ∧ m = y1.natAbs) ⟨_, z, u, l0, l1, x, y, t5, rfl, s', iz, iu, e0, fun _ _ => Iff.rfl, lz, rfl⟩ ?_
      rintro m σ H2 ⟨zl, zf, b1, c1, x1, y1, t, rfl, s2, il, if_, e1, l1', z1, rfl⟩
      walk_at "go"
      refine r_iteN (fun hy => ?_) (fun hy => ?_)
      · obtain ⟨k1, k2, k3, k4, _⟩ := id e1
        have f1 := fd_le (c := c1) (y := y1)
        have rr := fd_rest (c := c1) hy
        refine ⟨fun σ' H3 => ∃ zg t, σ' = [some (.ref p), some (.int wd), some zf, some u, some zg, t] ∧ Stp none H H3 ∧ IT H3 zf [x1, y1] ∧ IT H3 zg [b1 - c1.fdiv y1 * x1, c1 - c1.fdiv y1 * y1], ?_, ?_⟩
        · rintro σ' H3 ⟨zg, t, rfl, s3, i3, i4⟩
          exact ⟨_, rr.1, zf, zg, x1, y1, _, _, t, rfl, s3, i3, i4, e1.step hy, fun X Y => L3_step.trans (l1' X Y), fun h => absurd h hy, rfl⟩
        · walk_at "go"
          refine r_divN9 (divN9 hy (by omega) (by omega)) ?_
          walk_at "go"
          refine r_mulW (mulN (by omega) (by omega) (by omega) (by omega)) ?_
          walk_at "go"
          refine r_mulW (mulN (by omega) (by omega) (by omega) (by omega)) ?_
          walk_at "go"
          exact ⟨_, _, rfl, by walk_at "st", by walk_at "up", by walk_at "up"⟩
      · subst hy
        have gb := gcd_bd bw' e1.hx
        walk_at "go"
        refine do_law_divisor ?_
        walk_at "go"
        refine ⟨_, zl, b1, c1, _, _, _, rfl, s2, il, gcd_nn _ _, fun X Y => ?_, z1, e1.hc, e1.hb, gb⟩
        rw [et]
        exact L3_end.symm.trans ((l1' X Y).trans (spF_cong le (x, y) X Y))
    · rintro σ H' ⟨wd, z, l0, l1, t3, t4, t5, rfl, s', iz, w0, le, lz, bc, b0, bw⟩
      rw [hl, List.take_length] at le
      have hM := hf.at_ (Nat.le_refl _)
      rw [← hl] at hM
      have hC := hf.cn
      -- the numbers in their form
      have key : ∀ b2 : Int, b2 = (if l1 < 0 then -l0 else l0) → ∀ c2 : Int, c2 = (if l1 < 0 then -l1 else l1) → (0 < wd → Nfs ss wd (b2 % wd) c2) ∧ (¬ 0 < wd → Nfs ss wd b2 c2) := by
        intro b2 e2 c2 e3
        have l2 : ∀ X Y, Lp wd b2 c2 X Y ↔ SpL ss X Y := by
          intro X Y
          by_cases h : l1 < 0
          · rw [e2, e3, if_pos h, if_pos h]; exact Lp_neg.trans (le X Y)
          · rw [e2, e3, if_neg h, if_neg h]; exact le X Y
        have c0 : 0 ≤ c2 := by split at e3 <;> omega
        have z2 : c2 = 0 → b2 = 0 := by
          intro h
          have : l1 = 0 := by split at e3 <;> omega
          have := lz this
          split at e2 <;> omega
        have n1 : 0 < wd → NF wd (b2 % wd) c2 := fun g => by
          have r0 := Int.emod_nonneg b2 (show wd ≠ 0 by omega)
          have r1 := Int.emod_lt_of_pos b2 g
          exact ⟨w0, c0, fun _ => ⟨r0, r1⟩, fun e => by rw [z2 e]; rfl⟩
        have n2 : ¬ 0 < wd → NF wd b2 c2 := fun g => ⟨w0, c0, fun n => absurd n (by omega), z2⟩
        exact ⟨fun g => ⟨n1 g, fun X Y => Lp_mod.trans (l2 X Y)⟩, fun g => ⟨n2 g, l2⟩⟩
      have key := key _ rfl _ rfl
      have deg : wd = 0 ∨ l1 = 0 → ∀ H', Stp none H H' → Q .non H' := by
        intro h
        by_cases g : 0 < wd
        · refine (q _ _ _ (key.1 g)).1 (.inr ?_)
          have : l1 = 0 := by omega
          rw [if_neg (by omega)]; exact this
        · exact (q _ _ _ (key.2 g)).1 (.inl (by omega))
      walk_at "go"
      refine r_ite (fun hw => ?_) (fun hw => ?_)
      · walk_at "go"
        exact deg (.inl hw) _ s'
      · walk_at "go"
        refine r_ite (fun hc => ?_) (fun hc => ?_)
        · walk_at "go"
          exact deg (.inr hc) _ s'
        · have fin := (q _ _ _ (key.1 (by omega))).2 hw (by split <;> omega)
          clear deg q le
          walk_at "go"
          rename_i p1 H1 S1 hp1 np1
          by_cases hn : l1 < 0
          · rw [if_pos hn, if_pos hn] at fin
            simp only [hn, decide_true, if_true]
            walk_at "go"
            refine r_mulW (mulN (by omega) (by omega) (by have := n1_big; omega) (by have := n1_big; omega)) ?_
            walk_at "go"
            refine ⟨l1, rfl, ?_⟩
            rw [if_pos hn]
            have e : l0 * -1 = -l0 := by omega
            rw [e]
            walk_at "go"
            exact fin _ _ (by walk_at "st") (by walk_at "up")
          · rw [if_neg hn, if_neg hn] at fin
            simp only [hn, decide_false, Bool.false_eq_true, if_false]
            walk_at "go"
            refine r_mulW (mulN (by omega) (by omega) (by have := n1_big; omega) (by have := n1_big; omega)) ?_
            walk_at "go"
            refine ⟨l1, rfl, ?_⟩
            rw [if_neg hn]
            have e : l0 * 1 = l0 := by omega
            rw [e]
            walk_at "go"
            exact fin _ _ (by walk_at "st") (by walk_at "up")
theorem do_law_net_of {p : Addr} {xs : List V} {ss : List (Int × Int)} {C B : Nat} (h : H p = some (.lst xs)) (hx : PT H xs ss) (hb : Bd C B ss) (hf : Fb C B ss.length)
    (q : ∀ a b c, Nfs ss a b c → (a = 0 ∨ c = 0 → ∀ H', Stp none H H' → Q .non H') ∧ (a ≠ 0 → c ≠ 0 → ∀ z H', Stp none H H' → IT H' z [a, b, c] → Q z H')) : sp_law_net_of K [.ref p] H Q E :=
  ⟨p, xs, ss, C, B, rfl, SqL.of h, hx, hb, hf, fun H' s => SqL.of (s.all _ _ h), q⟩
end
end Law

set_option Elab.async false
set_option linter.all false
set_option maxRecDepth 100000
set_option maxHeartbeats 4000000
namespace Law
open PySem PySem.Spec PyProof.Rows L2 MV
local macro_rules | `(tactic| walk_at "up") => `(tactic| first
  | assumption
  | (refine' IT.mv ?s ?g; (case s => assumption); (case g => walk_at "up"))
  | (refine' IT.k ?g; (case g => walk_at "up"))
  | (refine' IK.mv ?s ?g; (case s => assumption); (case g => walk_at "up"))
  | (refine' Tape.mvN ?s ?g; (case s => assumption); (case g => walk_at "up"))
  | (refine' Tape.mvS ?s ?g; (case s => assumption); (case g => walk_at "up"))
  | (refine' At.tup ?s ?g; (case s => assumption); (case g => walk_at "up"))
  | (refine' At.ins ?s ?g; (case s => assumption); (case g => walk_at "up"))
  | (refine' At.lst ?s ?g; (case s => assumption); (case g => walk_at "up"))
  | (refine' At.lstS ?s ?n ?g; (case s => assumption); (case n => assumption); (case g => walk_at "up"))
  | fail)
local macro_rules | `(tactic| walk_at "st") => `(tactic| first
  | assumption
  | exact Stp.refl _ _
  | (refine' Stp.w ?s; (case s => assumption))
  | (refine' Stp.trans ?g ?s; (case s => (first | assumption | (refine' Stp.w ?u; (case u => assumption)))); (case g => walk_at "st"))
  | fail)
local macro_rules | `(tactic| walk_at "bT") => `(tactic| first
  | decide
  | (simp only [Bool.not_eq_true', Bool.not_eq_false', decide_eq_true_eq, decide_eq_false_iff_not]; omega)
  | fail)
local macro_rules | `(tactic| walk_at "sd") => `(tactic| first | assumption | decide | omega | fail)
local macro_rules | `(tactic| walk_at "r") => `(tactic| first
  | (with_reducible refine r_seq ?_)
  | (with_reducible refine r_asg ?_)
  | ((with_reducible refine' r_var ?h ?k); (case h => rfl))
  | (with_reducible refine r_c ?_)
  | (with_reducible refine r_op ?_)
  | (with_reducible refine r_un ?_)
  | (with_reducible refine r_nil ?_)
  | (with_reducible refine r_cons ?_)
  | (with_reducible refine r_tup ?_)
  | (with_reducible refine r_lst ?_)
  | (with_reducible refine r_cbLen ?_)
  | (with_reducible refine r_cbInt ?_)
  | (with_reducible refine r_cbRepr ?_)
  | (with_reducible refine r_cbTup ?_)
  | (with_reducible refine r_cbLst ?_)
  | (with_reducible refine r_cb ?_)
  | (with_reducible refine r_prop ?_)
  | (with_reducible refine r_andV ?_)
  | (with_reducible refine r_orV ?_)
  | (with_reducible refine r_notV ?_)
  | (with_reducible refine r_chain ?_)
  | (with_reducible refine r_ifE ?_)
  | (with_reducible refine r_test ?_)
  | (with_reducible refine r_B ?_)
  | (with_reducible refine r_and ?_)
  | (with_reducible refine r_or ?_)
  | (with_reducible refine r_not ?_)
  | (with_reducible refine r_yes ?_)
  | (with_reducible refine r_k ?_)
  | (with_reducible refine r_kV ?_)
  | (with_reducible refine r_next ?_)
  | (with_reducible refine r_drop ?_)
  | (with_reducible refine r_ret ?_)
  | (with_reducible refine r_ifS ?_)
  | (with_reducible refine r_par ?_)
  | (with_reducible refine r_par1 ?_)
  | (with_reducible refine r_gname ?_)
  | (with_reducible refine r_gnil ?_)
  | (with_reducible refine r_gcons ?_)
  | ((with_reducible refine' r_unpack2 ?h ?k); (case h => walk_at "up"))
  | ((with_reducible refine' r_unpack3 ?h ?k); (case h => walk_at "up"))
  | (with_reducible refine r_add ?_)
  | (with_reducible refine r_sub ?_)
  | (with_reducible refine r_neg ?_)
  | ((with_reducible refine' r_mod ?h ?k); (case h => walk_at "sd"))
  | ((with_reducible refine' r_div ?h ?k); (case h => walk_at "sd"))
  | ((with_reducible refine' r_mul ?h ?k); (case h => walk_at "sd"))
  | ((with_reducible refine' r_mulW ?h ?k); (case h => walk_at "sd"))
  | ((with_reducible refine' r_pow ?h ?k); (case h => (show (0 : Int) ≤ _ ∧ _ ∧ _; decide)))
  | (with_reducible refine r_lt ?_)
  | (with_reducible refine r_le ?_)
  | (with_reducible refine r_gt ?_)
  | (with_reducible refine r_ge ?_)
  | (with_reducible refine r_eqI ?_)
  | (with_reducible refine r_neI ?_)
  | (with_reducible refine r_eqS ?_)
  | (with_reducible refine r_neS ?_)
  | ((with_reducible refine' r_eqT ?h ?g ?k); (case h => walk_at "up"); (case g => walk_at "up"))
  | ((with_reducible refine' r_neT ?h ?g ?k); (case h => walk_at "up"); (case g => walk_at "up"))
  | ((with_reducible refine' r_ix0 ?h ?k); (case h => walk_at "up"))
  | ((with_reducible refine' r_ix1 ?h ?k); (case h => walk_at "up"))
  | ((with_reducible refine' r_ix2 ?h ?k); (case h => walk_at "up"))
  | (with_reducible refine r_newI2 (fun v H2 S I => ?_))
  | (with_reducible refine r_newI3 (fun v H2 S I => ?_))
  | (with_reducible refine r_newL1 (fun p H2 S hp np => ?_))
  | (with_reducible refine r_newL2 (fun p H2 S hp np => ?_))
  | (with_reducible refine r_newL3 (fun p H2 S hp np => ?_))
  | (with_reducible refine r_T ?_)
  | (with_reducible refine r_F ?_)
  | fail)
local macro_rules | `(tactic| walk_at "go") => `(tactic| repeat (walk_at "r"))
local macro_rules | `(tactic| walk_at "r") => `(tactic| first
  | (with_reducible refine r_call0 ?_)
  | (with_reducible refine r_meth0 ?_)
  | (with_reducible refine r_make0 ?_)
  | (with_reducible refine r_isiII ?_)
  | (with_reducible refine r_isiIB ?_)
  | ((with_reducible refine' r_isiTT ?h ?k); (case h => walk_at "up"))
  | ((with_reducible refine' r_len2 ?h ?k); (case h => walk_at "up"))
  | ((with_reducible refine' r_len3 ?h ?k); (case h => walk_at "up"))
  | ((with_reducible refine' r_lenL ?h ?k); (case h => walk_at "up"))
  | (with_reducible refine r_int1 ?_)
  | (with_reducible refine r_int1B ?_)
  | (with_reducible refine r_nT ?_)
  | (with_reducible refine r_nF ?_)
  | (with_reducible refine r_gcd ?_)
  | (with_reducible refine r_gsub ?_)
  | (with_reducible refine r_fld ?_)
  | (with_reducible refine r_p6 ?_)
  | (with_reducible refine r_p9 ?_)
  | (with_reducible refine r_p10 ?_)
  | (with_reducible refine r_p11 ?_)
  | (with_reducible refine r_p12 ?_)
  | (with_reducible refine r_p18 ?_)
  | (with_reducible refine r_p20 ?_)
  | (with_reducible refine r_p26 ?_)
  | (with_reducible refine r_p27 ?_)
  | (with_reducible refine r_p30 ?_)
  | ((with_reducible refine' r_iF ?h ?k); (case h => walk_at "bT"))
  | ((with_reducible refine' r_iT ?h ?k); (case h => walk_at "bT"))
  | (with_reducible refine r_sfld ?_)
  | (with_reducible refine r_sl ?_)
  | (with_reducible refine r_noPart ?_)
  | (with_reducible refine r_part ?_)
  | (with_reducible refine r_pk ?_)
  | ((with_reducible refine' r_unl2 ?h ?k); (case h => walk_at "up"))
  | ((with_reducible refine' r_ixLi ?h ?h0 ?hn ?k); (case h => walk_at "up"); (case h0 => walk_at "sd"); (case hn => rfl))
  | fail)

local macro_rules | `(tactic| walk_at "r") => `(tactic| with_reducible refine do_is_integer ?_)
local macro_rules | `(tactic| walk_at "r") => `(tactic| first | ((with_reducible refine' do_is_place ?h ?k); (case h => walk_at "up")) | fail)
local macro_rules | `(tactic| walk_at "r") => `(tactic| first | ((with_reducible refine' do_check_place ?h ?k); (case h => walk_at "up")) | fail)
local macro_rules | `(tactic| walk_at "r") => `(tactic| first | ((with_reducible refine' do_are_numbers ?h ?k); (case h => assumption)) | fail)
local macro_rules | `(tactic| walk_at "up") => `(tactic| first | (refine' NA.mv ?s ?g; (case s => assumption); (case g => walk_at "up")) | fail)
local macro_rules | `(tactic| walk_at "r") => `(tactic| first
  | ((with_reducible refine' do_Net_size ?h ?k); (case h => walk_at "up"))
  | ((with_reducible refine' do_meth ?h ?hm ?k); (case h => walk_at "up"); (case hm => decide +kernel))
  | fail)

local macro_rules | `(tactic| walk_at "r") => `(tactic| first
  | (with_reducible refine r_forT ?_)
  | (with_reducible refine r_forL ?_)
  | (with_reducible refine r_newI4 (fun v H2 S I => ?_))
  | ((with_reducible refine' r_unpack4 ?h ?k); (case h => walk_at "up"))
  | fail)
section
variable {P : Program} {w : World} {K : PySem.W.Frag} {mg : Str → Option Value} {base : Heap} {ad : Ad} {H : Hp} {Q : VK} {E : XK} {i j x y : Int} {v : V}
theorem SqT.mvN {H H' : Hp} {p : Addr} {xs : List V} (s : Stp none H H') (h : SqT K H p xs) : SqT K H' p xs := SqT.mvS s h
/-! ### the net of a tuple of shifts -/
/-- the numbers of the shifts ss, within bounds -/
structure Nb (ss : List (Int × Int)) (C B : Nat) (a b c : Int) : Prop where
  ns : Nfs ss a b c
  cc : c.natAbs ≤ C
  aa : a.natAbs ≤ (4 * C) ^ ss.length * B
  bb : b.natAbs ≤ (4 * C) ^ ss.length * B
def sp_spanned (K : PySem.W.Frag) : Sp := fun vs H Q _ => ∃ p xs ss C B, vs = [.ref p] ∧ SqT K H p xs ∧ PT H xs ss ∧ Bd C B ss ∧ Fb C B ss.length ∧
  ∀ z a b c H', Stp none H H' → IT H' z [a, b, c] → Nb ss C B a b c → Q z H'
theorem ok_spanned (T : Txt w K mg ad) : FnG P w K mg base CX0 2 ad.spanned ad.spanned_d P_spanned (sp_spanned K) := by
  have G_with_shift := ok_with_shift (P := P) (w := w) (base := base) T
  refine Fun.gn T.F_spanned sc_spanned (fun vs H Q E h => ?_) (fun cdv A outer s H vs Q E hr hg h => ?_)
  · obtain ⟨p, xs, ss, C, B, rfl, _⟩ := h
    rfl
  · obtain ⟨p, xs, ss, C, B, rfl, hp, hx, hb, hf, q⟩ := h
    refine ⟨_, (pss_cons (ps_set (i := 1) sc_spanned.nd rfl (Or.inl rfl) (pe_tup (pa_cons pe_int (pa_cons pe_int (pa_cons pe_int pa_nil)))))
      (pss_cons (ps_for PassesOwn.never rfl (pi_tup (pv 0)) (pg_name (i := 2) sc_spanned.nd rfl (Or.inl rfl))
      (pss_one (ps_set (i := 1) sc_spanned.nd rfl (Or.inl rfl) (peg_call G_with_shift (hr.mono (by decide)) hg (by rfl) T.g_with_shift T.F_with_shift.kp T.b_with_shift .nil pass0 (pa_cons (pv 1) (pa_cons (pv 2) pa_nil))))))
      (pss_one (ps_ret (pv 1))))), ?_⟩
    walk_at "go"
    rename_i z0 H0 S0 i0
    have hl : xs.length = ss.length := hx.1
    refine ForT.ok ⟨p, xs, fun i σ H' => ∃ z a b c t, σ = [some (.ref p), some z, t] ∧ Stp none H H' ∧ IT H' z [a, b, c] ∧ Nfs (ss.take i) a b c ∧ c.natAbs ≤ C ∧ a.natAbs ≤ (4 * C) ^ i * B ∧ b.natAbs ≤ (4 * C) ^ i * B, rfl,
      ⟨z0, 0, 0, 0, none, rfl, S0, i0, ⟨nf_0, lp_0⟩, Nat.zero_le _, Nat.zero_le _, Nat.zero_le _⟩, fun i σ H' _ ⟨_, _, _, _, _, _, s', _⟩ => SqT.mvS s' hp, ?_, ?_⟩
    · rintro i u σ H' hu ⟨z, a, b, c, t, rfl, s', iz, hn, bc, ba, bb⟩
      have hi : i < ss.length := by
        have := (List.getElem?_eq_some_iff.mp hu).1
        omega
      obtain ⟨⟨x, y⟩, es, iu0⟩ := hx.2 i u hu
      have iu : IT H' u [x, y] := iu0.mv s'
      have hxy := hb.at_ es
      have hM := hf.at_ (show i + 1 ≤ ss.length from hi)
      rw [← pw_s] at hM
      walk_at "go"
      refine do_with_shift iz iu hn.nf ⟨hf.c1, bc, hxy.2, ba, bb, Nat.le_trans hxy.1 (pw_0 hf.c1)⟩ hM hf.cn fun z2 a2 b2 c2 H2 S2 i2 hw => ?_
      walk_at "go"
      refine ⟨z2, a2, b2, c2, _, rfl, s'.trans S2, i2, ⟨hw.nf, fun X Y => ?_⟩, hw.cc, by rw [← pw_s]; exact hw.aa, by rw [← pw_s]; exact hw.bb⟩
      rw [SpL_take es]
      exact (hw.sp X Y).trans (spF_cong hn.sp (x, y) X Y)
    · rintro σ H' ⟨z, a, b, c, t, rfl, s', iz, hn, bc, ba, bb⟩
      rw [hl] at ba bb hn
      rw [List.take_length] at hn
      walk_at "go"
      exact q _ _ _ _ _ s' iz ⟨hn, bc, ba, bb⟩
theorem do_spanned {p : Addr} {xs : List V} {ss : List (Int × Int)} {C B : Nat} (h : SqT K H p xs) (hx : PT H xs ss) (hb : Bd C B ss) (hf : Fb C B ss.length)
    (q : ∀ z a b c H', Stp none H H' → IT H' z [a, b, c] → Nb ss C B a b c → Q z H') : sp_spanned K [.ref p] H Q E := ⟨p, xs, ss, C, B, rfl, h, hx, hb, hf, q⟩
/-- no number of the shifts' net is 0 -/
def Full (ss : List (Int × Int)) : Prop := ∀ a b c, Nfs ss a b c → a ≠ 0 ∧ c ≠ 0
def sp_Net_of (C' : Addr) (K : PySem.W.Frag) : Sp := fun vs H Q _ => ∃ p xs ss C B, vs = [.ref p] ∧ SqT K H p xs ∧ PT H xs ss ∧ Bd C B ss ∧ Fb C B ss.length ∧ Full ss ∧
  ∀ z a b c H', Stp none H H' → NA C' H' z a b c → Nb ss C B a b c → Q z H'
theorem ok_Net_of (T : Txt w K mg ad) : FnGR P w K mg base CX0 5 ad.Net_of (spStar (sp_Net_of ad.C_Net K)) := by
  have G_check_place := ok_check_place (P := P) (w := w) (base := base) T
  have G_spanned := ok_spanned (P := P) (w := w) (base := base) T
  have G_Net_init := ok_Net_init (P := P) (w := w) (base := base) T
  refine Fun.gs T.F_Net_of sc_Net_of StX.cxUp_none T.bs_Net_of (fun cdv A outer s H vs Q E hr hg h => ?_)
  · obtain ⟨p, xs, ss, C, B, rfl, hp, hx, hb, hf, hn, q⟩ := h
    refine ⟨_, (pss_cons (ps_for PassesOwn.never rfl (pi_tup (pv 0)) (pg_name (i := 1) sc_Net_of.nd rfl (Or.inl rfl))
      (pss_one (ps_expr (peg_call G_check_place (hr.mono (by decide)) hg (by rfl) T.g_check_place T.F_check_place.kp T.b_check_place .nil pass0 (pa_cons (pv 1) pa_nil)))))
      (pss_cons (ps_asg (peg_call G_spanned (hr.mono (by decide)) hg (by rfl) T.g_spanned T.F_spanned.kp T.b_spanned .nil pass0 (pa_cons (pv 0) pa_nil)) (pg_tup (n := 3) rfl (pgs_cons (pg_name (i := 2) sc_Net_of.nd rfl (Or.inl rfl)) (pgs_cons (pg_name (i := 3) sc_Net_of.nd rfl (Or.inl rfl)) (pgs_cons (pg_name (i := 4) sc_Net_of.nd rfl (Or.inl rfl)) pgs_nil)))))
      (pss_cons (ps_if (PW.pt (pw_or (pt_cmpR op_eq (pv 2) pe_int (nomark _)) (pw_or1 (pt_cmpR op_eq (pv 4) pe_int (nomark _)))))
      (pss_one ps_never) pss_nil)
      (pss_one (ps_ret (peg_make T.k_Net G_Net_init (hr.mono (by decide)) hg (by rfl) T.g_Net T.b_Net_init .nil pass0 (pa_cons (pv 2) (pa_cons (pv 3) (pa_cons (pv 4) pa_nil))))))))), ?_⟩
    walk_at "go"
    refine ForT.ok ⟨p, xs, fun i σ H' => ∃ t, σ = [some (.ref p), t, none, none, none] ∧ Stp none H H', rfl, ⟨none, rfl, Stp.refl _ _⟩, fun i σ H' _ ⟨_, _, s'⟩ => SqT.mvS s' hp, ?_, ?_⟩
    · rintro i u σ H' hu ⟨t, rfl, s'⟩
      obtain ⟨⟨x, y⟩, es, iu0⟩ := hx.2 i u hu
      have iu : IT H' u [x, y] := iu0.mv s'
      walk_at "go"
      exact ⟨_, rfl, s'⟩
    · rintro σ H' ⟨t, rfl, s'⟩
      walk_at "go"
      refine do_spanned (SqT.mvS s' hp) (hx.mv s') hb hf fun z a b c H2 S2 iz nb => ?_
      have hM := hf.n1
      have hC := hf.cn
      obtain ⟨f1, f2⟩ := hn _ _ _ nb.ns
      have a0 := nb.ns.nf.a0
      have c0 := nb.ns.nf.c0
      have b0 := nb.ns.nf.b0 f1
      have k1 := nb.aa
      have k2 := nb.cc
      generalize hE : (4 * C) ^ ss.length * B = M at hM k1
      walk_at "go"
      refine do_Net ⟨by omega, by omega, b0.1, b0.2, by omega, by omega⟩ fun z2 H3 S3 h3 => ?_
      exact q _ _ _ _ _ (by walk_at "st") h3 nb
/-- Net.of of so many values -/
theorem do_Net_of {C' : Addr} {xs : List V} {ss : List (Int × Int)} {C B : Nat} (hl : xs.length ≤ 100) (hx : PT H xs ss) (hb : Bd C B ss) (hf : Fb C B ss.length) (hn : Full ss)
    (q : ∀ z a b c H', Stp none H H' → NA C' H' z a b c → Nb ss C B a b c → Q z H') : spStar (sp_Net_of C' K) xs H Q E :=
  ⟨sz100 hl, fun p hp => ⟨p, xs, ss, C, B, rfl, SqT.of upd_same, hx.mv (Stp.new hp), hb, hf, hn, fun z a b c H' s' h nb => q z a b c H' ((Stp.new hp).trans s') h nb⟩⟩
def sp_Net_whole (C : Addr) : Sp := fun vs H Q _ => vs = [.ref C] ∧ ∀ z H', Stp none H H' → NA C H' z 1 0 1 → Q z H'
theorem nm_1 : Nm 1 0 1 := by
  have := n1_big
  exact ⟨by decide, by decide, by decide, by decide, by omega, by omega⟩
theorem ok_Net_whole (T : Txt w K mg ad) : FnG P w K mg base CX0 5 ad.Net_whole ad.Net_whole_d P_Net_whole (sp_Net_whole ad.C_Net) := by
  have G_Net_init := ok_Net_init (P := P) (w := w) (base := base) T
  refine Fun.g T.F_Net_whole sc_Net_whole (fun vs H Q E h => ?_) (fun cdv A outer s H vs Q E hr hg h => ?_)
  · obtain ⟨rfl, _⟩ := h
    rfl
  · obtain ⟨rfl, q⟩ := h
    refine ⟨_, (pss_one (ps_ret (peg_makeL (i := 0) T.k_Net G_Net_init (hr.mono (by decide)) hg T.b_Net_init pass0 rfl (.inl rfl) (pa_cons pe_int (pa_cons pe_int (pa_cons pe_int pa_nil)))))), ?_⟩
    walk_at "go"
    refine ⟨rfl, ?_⟩
    walk_at "go"
    exact do_Net nm_1 fun z H' S h => q z H' S h
theorem do_whole {C : Addr} (q : ∀ z H', Stp none H H' → NA C H' z 1 0 1 → Q z H') : sp_Net_whole C [.ref C] H Q E := ⟨rfl, q⟩
end
end Law

set_option Elab.async false
set_option linter.all false
set_option maxRecDepth 100000
set_option maxHeartbeats 4000000
namespace Law
open PySem PySem.Spec PyProof.Rows L2 MV
local macro_rules | `(tactic| walk_at "up") => `(tactic| first
  | assumption
  | (refine' IT.mv ?s ?g; (case s => assumption); (case g => walk_at "up"))
  | (refine' IT.k ?g; (case g => walk_at "up"))
  | (refine' IK.mv ?s ?g; (case s => assumption); (case g => walk_at "up"))
  | (refine' Tape.mvN ?s ?g; (case s => assumption); (case g => walk_at "up"))
  | (refine' Tape.mvS ?s ?g; (case s => assumption); (case g => walk_at "up"))
  | (refine' At.tup ?s ?g; (case s => assumption); (case g => walk_at "up"))
  | (refine' At.ins ?s ?g; (case s => assumption); (case g => walk_at "up"))
  | (refine' At.lst ?s ?g; (case s => assumption); (case g => walk_at "up"))
  | (refine' At.lstS ?s ?n ?g; (case s => assumption); (case n => assumption); (case g => walk_at "up"))
  | fail)
local macro_rules | `(tactic| walk_at "st") => `(tactic| first
  | assumption
  | exact Stp.refl _ _
  | (refine' Stp.w ?s; (case s => assumption))
  | (refine' Stp.trans ?g ?s; (case s => (first | assumption | (refine' Stp.w ?u; (case u => assumption)))); (case g => walk_at "st"))
  | fail)
local macro_rules | `(tactic| walk_at "bT") => `(tactic| first
  | decide
  | (simp only [Bool.not_eq_true', Bool.not_eq_false', decide_eq_true_eq, decide_eq_false_iff_not]; omega)
  | fail)
local macro_rules | `(tactic| walk_at "sd") => `(tactic| first | assumption | decide | omega | fail)
local macro_rules | `(tactic| walk_at "r") => `(tactic| first
  | (with_reducible refine r_seq ?_)
  | (with_reducible refine r_asg ?_)
  | ((with_reducible refine' r_var ?h ?k); (case h => rfl))
  | (with_reducible refine r_c ?_)
  | (with_reducible refine r_op ?_)
  | (with_reducible refine r_un ?_)
  | (with_reducible refine r_nil ?_)
  | (with_reducible refine r_cons ?_)
  | (with_reducible refine r_tup ?_)
  | (with_reducible refine r_lst ?_)
  | (with_reducible refine r_cbLen ?_)
  | (with_reducible refine r_cbInt ?_)
  | (with_reducible refine r_cbRepr ?_)
  | (with_reducible refine r_cbTup ?_)
  | (with_reducible refine r_cbLst ?_)
  | (with_reducible refine r_cb ?_)
  | (with_reducible refine r_prop ?_)
  | (with_reducible refine r_andV ?_)
  | (with_reducible refine r_orV ?_)
  | (with_reducible refine r_notV ?_)
  | (with_reducible refine r_chain ?_)
  | (with_reducible refine r_ifE ?_)
  | (with_reducible refine r_test ?_)
  | (with_reducible refine r_B ?_)
  | (with_reducible refine r_and ?_)
  | (with_reducible refine r_or ?_)
  | (with_reducible refine r_not ?_)
  | (with_reducible refine r_yes ?_)
  | (with_reducible refine r_k ?_)
  | (with_reducible refine r_kV ?_)
  | (with_reducible refine r_next ?_)
  | (with_reducible refine r_drop ?_)
  | (with_reducible refine r_ret ?_)
  | (with_reducible refine r_ifS ?_)
  | (with_reducible refine r_par ?_)
  | (with_reducible refine r_par1 ?_)
  | (with_reducible refine r_gname ?_)
  | (with_reducible refine r_gnil ?_)
  | (with_reducible refine r_gcons ?_)
  | ((with_reducible refine' r_unpack2 ?h ?k); (case h => walk_at "up"))
  | ((with_reducible refine' r_unpack3 ?h ?k); (case h => walk_at "up"))
  | (with_reducible refine r_add ?_)
  | (with_reducible refine r_sub ?_)
  | (with_reducible refine r_neg ?_)
  | ((with_reducible refine' r_mod ?h ?k); (case h => walk_at "sd"))
  | ((with_reducible refine' r_div ?h ?k); (case h => walk_at "sd"))
  | ((with_reducible refine' r_mul ?h ?k); (case h => walk_at "sd"))
  | ((with_reducible refine' r_mulW ?h ?k); (case h => walk_at "sd"))
  | ((with_reducible refine' r_pow ?h ?k); (case h => (show (0 : Int) ≤ _ ∧ _ ∧ _; decide)))
  | (with_reducible refine r_lt ?_)
  | (with_reducible refine r_le ?_)
  | (with_reducible refine r_gt ?_)
  | (with_reducible refine r_ge ?_)
  | (with_reducible refine r_eqI ?_)
  | (with_reducible refine r_neI ?_)
  | (with_reducible refine r_eqS ?_)
  | (with_reducible refine r_neS ?_)
  | ((with_reducible refine' r_eqT ?h ?g ?k); (case h => walk_at "up"); (case g => walk_at "up"))
  | ((with_reducible refine' r_neT ?h ?g ?k); (case h => walk_at "up"); (case g => walk_at "up"))
  | ((with_reducible refine' r_ix0 ?h ?k); (case h => walk_at "up"))
  | ((with_reducible refine' r_ix1 ?h ?k); (case h => walk_at "up"))
  | ((with_reducible refine' r_ix2 ?h ?k); (case h => walk_at "up"))
  | (with_reducible refine r_newI2 (fun v H2 S I => ?_))
  | (with_reducible refine r_newI3 (fun v H2 S I => ?_))
  | (with_reducible refine r_newL1 (fun p H2 S hp np => ?_))
  | (with_reducible refine r_newL2 (fun p H2 S hp np => ?_))
  | (with_reducible refine r_newL3 (fun p H2 S hp np => ?_))
  | (with_reducible refine r_T ?_)
  | (with_reducible refine r_F ?_)
  | fail)
local macro_rules | `(tactic| walk_at "go") => `(tactic| repeat (walk_at "r"))
local macro_rules | `(tactic| walk_at "r") => `(tactic| first
  | (with_reducible refine r_call0 ?_)
  | (with_reducible refine r_meth0 ?_)
  | (with_reducible refine r_make0 ?_)
  | (with_reducible refine r_isiII ?_)
  | (with_reducible refine r_isiIB ?_)
  | ((with_reducible refine' r_isiTT ?h ?k); (case h => walk_at "up"))
  | ((with_reducible refine' r_len2 ?h ?k); (case h => walk_at "up"))
  | ((with_reducible refine' r_len3 ?h ?k); (case h => walk_at "up"))
  | ((with_reducible refine' r_lenL ?h ?k); (case h => walk_at "up"))
  | (with_reducible refine r_int1 ?_)
  | (with_reducible refine r_int1B ?_)
  | (with_reducible refine r_nT ?_)
  | (with_reducible refine r_nF ?_)
  | (with_reducible refine r_gcd ?_)
  | (with_reducible refine r_gsub ?_)
  | (with_reducible refine r_fld ?_)
  | (with_reducible refine r_p6 ?_)
  | (with_reducible refine r_p9 ?_)
  | (with_reducible refine r_p10 ?_)
  | (with_reducible refine r_p11 ?_)
  | (with_reducible refine r_p12 ?_)
  | (with_reducible refine r_p18 ?_)
  | (with_reducible refine r_p20 ?_)
  | (with_reducible refine r_p26 ?_)
  | (with_reducible refine r_p27 ?_)
  | (with_reducible refine r_p30 ?_)
  | ((with_reducible refine' r_iF ?h ?k); (case h => walk_at "bT"))
  | ((with_reducible refine' r_iT ?h ?k); (case h => walk_at "bT"))
  | (with_reducible refine r_sfld ?_)
  | (with_reducible refine r_sl ?_)
  | (with_reducible refine r_noPart ?_)
  | (with_reducible refine r_part ?_)
  | (with_reducible refine r_pk ?_)
  | ((with_reducible refine' r_unl2 ?h ?k); (case h => walk_at "up"))
  | ((with_reducible refine' r_ixLi ?h ?h0 ?hn ?k); (case h => walk_at "up"); (case h0 => walk_at "sd"); (case hn => rfl))
  | fail)

local macro_rules | `(tactic| walk_at "r") => `(tactic| with_reducible refine do_is_integer ?_)
local macro_rules | `(tactic| walk_at "r") => `(tactic| first | ((with_reducible refine' do_is_place ?h ?k); (case h => walk_at "up")) | fail)
local macro_rules | `(tactic| walk_at "r") => `(tactic| first | ((with_reducible refine' do_check_place ?h ?k); (case h => walk_at "up")) | fail)
local macro_rules | `(tactic| walk_at "r") => `(tactic| first | ((with_reducible refine' do_are_numbers ?h ?k); (case h => assumption)) | fail)
local macro_rules | `(tactic| walk_at "up") => `(tactic| first | (refine' NA.mv ?s ?g; (case s => assumption); (case g => walk_at "up")) | fail)
local macro_rules | `(tactic| walk_at "r") => `(tactic| first
  | ((with_reducible refine' do_Net_size ?h ?k); (case h => walk_at "up"))
  | ((with_reducible refine' do_meth ?h ?hm ?k); (case h => walk_at "up"); (case hm => decide +kernel))
  | fail)

local macro_rules | `(tactic| walk_at "dr") => `(tactic| (refine do_law_draw (by walk_at "up") (by first | decide | omega) (by first | decide | omega) ?_))
local macro_rules | `(tactic| walk_at "r") => `(tactic| first
  | (with_reducible refine r_forT ?_)
  | (with_reducible refine r_forL ?_)
  | (with_reducible refine r_forR ?_)
  | (with_reducible refine r_bm ?_)
  | (with_reducible refine r_newI4 (fun v H2 S I => ?_))
  | ((with_reducible refine' r_unpack4 ?h ?k); (case h => walk_at "up"))
  | ((with_reducible refine' do_Net_numbers ?h (fun u hu => ?k)); (case h => walk_at "up"))
  | fail)
section
variable {P : Program} {w : World} {K : PySem.W.Frag} {mg : Str → Option Value} {base : Heap} {ad : Ad} {H : Hp} {Q : VK} {E : XK} {i j x y : Int} {v : V}
theorem r_smeth {C : Addr} {sp : Sp} {σ : L2.St} {ta : TE} {t : TA} (q : ta σ H fun x H1 => x = .ref C ∧ t σ H1 fun vs H2 => sp vs H2 Q E) : tSMeth C sp [] E ta t σ H Q := by
  unfold tSMeth
  simp only [List.append_nil]
  exact q
theorem r_same {a : Addr} {A : Prop} (q : A) : V.ref a = .ref a ∧ A := ⟨rfl, q⟩
local macro_rules | `(tactic| walk_at "r") => `(tactic| first | (with_reducible refine r_smeth ?_) | (with_reducible refine r_same ?_) | (with_reducible refine r_cmeth0 ?_) | fail)
theorem tape_ne {t a : Addr} (h : Tape H t) (n : H a = none) : a ≠ t := by
  intro e
  obtain ⟨_, _, _, _, _, _, g, _⟩ := h
  rw [← e, n] at g
  cases g
abbrev C7 : Nat := 10 ^ 27
theorem PT.app {f : Addr} {zs ys xs : List V} {ss : List (Int × Int)} {s : Int × Int} (h : PT H xs ss) (e : H f = some (.lst zs)) (hv : IT H v [s.1, s.2]) : PT (upd H f (.lst ys)) (xs ++ [v]) (ss ++ [s]) := by
  refine ⟨by rw [List.length_append, List.length_append, h.1]; rfl, fun i x hx => ?_⟩
  by_cases hi : i < xs.length
  · rw [List.getElem?_append_left hi] at hx
    obtain ⟨u, h1, h2⟩ := h.2 i x hx
    exact ⟨u, by rw [List.getElem?_append_left (by have := h.1; omega)]; exact h1, h2.put e⟩
  · rw [List.getElem?_append_right (by omega)] at hx
    obtain ⟨h0, hx⟩ := List.getElem?_eq_some_iff.mp hx
    have h0' : i - xs.length = 0 := by simp only [List.length_cons, List.length_nil] at h0; omega
    simp only [h0', List.getElem_cons_zero] at hx
    subst hx
    refine ⟨s, ?_, hv.put e⟩
    rw [List.getElem?_append_right (by have := h.1; omega), ← h.1, h0']
    rfl
theorem PT.nil : PT H [] [] := ⟨rfl, fun i x h => by cases h⟩
theorem PT.cons {xs : List V} {ss : List (Int × Int)} {s : Int × Int} (hv : IT H v [s.1, s.2]) (h : PT H xs ss) : PT H (v :: xs) (s :: ss) := by
  refine ⟨by rw [List.length_cons, List.length_cons, h.1], fun i x hx => ?_⟩
  match i, hx with
  | 0, hx => cases hx; exact ⟨s, rfl, hv⟩
  | i + 1, hx => exact h.2 i x hx
theorem Bd.app {C B : Nat} {ss : List (Int × Int)} {s : Int × Int} (h : Bd C B ss) (h1 : s.1.natAbs ≤ B) (h2 : s.2.natAbs ≤ C) : Bd C B (ss ++ [s]) := by
  intro u hu
  rcases List.mem_append.mp hu with hu | hu
  · exact h u hu
  · cases List.mem_singleton.mp hu; exact ⟨h1, h2⟩
theorem Bd.nil {C B : Nat} : Bd C B [] := fun u hu => by cases hu
theorem Bd.cons {C B : Nat} {ss : List (Int × Int)} {s : Int × Int} (h1 : s.1.natAbs ≤ B) (h2 : s.2.natAbs ≤ C) (h : Bd C B ss) : Bd C B (s :: ss) := by
  intro u hu
  rcases List.mem_cons.mp hu with rfl | hu
  · exact ⟨h1, h2⟩
  · exact h u hu
/-! ### the drawn shifts -/
def sp_law_shifts : Sp := fun vs H Q _ => ∃ t, vs = [.ref t] ∧ Tape H t ∧ ∀ p xs ss H', Stp (some t) H H' → H' p = some (.lst xs) → H p = none → PT H' xs ss → Bd C7 C7 ss → 2 ≤ ss.length → ss.length ≤ 6 → Q (.ref p) H'
theorem ok_law_shifts (T : Txt w K mg ad) : FnG P w K mg base CX0 4 ad.law_shifts ad.law_shifts_d P_law_shifts sp_law_shifts := by
  have G_law_draw := ok_law_draw (P := P) (w := w) (base := base) T
  have G_law_net := ok_law_net (P := P) (w := w) (base := base) T
  have G_law_place := ok_law_place (P := P) (w := w) (base := base) T
  refine Fun.gn T.F_law_shifts sc_law_shifts (fun vs H Q E h => ?_) (fun cdv A outer s H vs Q E hr hg h => ?_)
  · obtain ⟨t, rfl, _⟩ := h
    rfl
  · obtain ⟨t, rfl, hT, q⟩ := h
    refine ⟨_, (pss_cons (ps_set (i := 1) sc_law_shifts.nd rfl (Or.inl rfl) (peg_call G_law_net (hr.mono (by decide)) hg (by rfl) T.g_law_net T.F_law_net.kp T.b_law_net .nil pass0 (pa_cons (pv 0) (pa_cons pe_int pa_nil))))
      (pss_cons (ps_set (i := 2) sc_law_shifts.nd rfl (Or.inl rfl) (pe_lst pa_nil))
      (pss_cons (ps_for PassesOwn.never rfl (pi_range1 rfl T.z_range (pa_cons (pe_op op_add pe_int (peg_call G_law_draw (hr.mono (by decide)) hg (by rfl) T.g_law_draw T.F_law_draw.kp T.b_law_draw .nil pass0 (pa_cons (pv 0) (pa_cons pe_int pa_nil)))) pa_nil)) (pg_name (i := 3) sc_law_shifts.nd rfl (Or.inl rfl))
      (pss_cons (ps_par (i := 4) (j := 5) rfl sc_law_shifts.nd rfl rfl (by decide) rfl rfl (pa_cons (pe_op op_sub (peg_call G_law_draw (hr.mono (by decide)) hg (by rfl) T.g_law_draw T.F_law_draw.kp T.b_law_draw .nil pass0 (pa_cons (pv 0) (pa_cons pe_int pa_nil))) pe_int) (pa_cons (pe_op op_sub (peg_call G_law_draw (hr.mono (by decide)) hg (by rfl) T.g_law_draw T.F_law_draw.kp T.b_law_draw .nil pass0 (pa_cons (pv 0) (pa_cons pe_int pa_nil))) pe_int) pa_nil)) rfl)
      (pss_cons (ps_set (i := 6) sc_law_shifts.nd rfl (Or.inl rfl) (pe_tup (pa_cons (pe_op op_add (pe_op op_mulW (pv 4) (pe_ix ix_seq (pv 1) pe_int (fun _ _ => rfl))) (pe_op op_mulW (pv 5) (pe_ix ix_seq (pv 1) pe_int (fun _ _ => rfl)))) (pa_cons (pe_op op_mulW (pv 5) (pe_ix ix_seq (pv 1) pe_int (fun _ _ => rfl))) pa_nil))))
      (pss_one (ps_expr (pe_bm PySem.F.plainAttrs_list PySem.F.slot_list_append PySem.F.type_list_append mt_append (pv 2) (pa_cons (pe_ix ix_seq (pe_lst (pa_cons (pv 6) (pa_cons (pe_tup (pa_cons (pv 4) (pa_cons (pv 5) pa_nil))) (pa_cons (peg_call G_law_place (hr.mono (by decide)) hg (by rfl) T.g_law_place T.F_law_place.kp T.b_law_place .nil pass0 (pa_cons (pv 0) pa_nil)) pa_nil)))) (pe_op op_mod (pe_op op_fdivW (peg_call G_law_draw (hr.mono (by decide)) hg (by rfl) T.g_law_draw T.F_law_draw.kp T.b_law_draw .nil pass0 (pa_cons (pv 0) (pa_cons pe_int pa_nil))) pe_int) pe_int) (fun _ _ => rfl)) pa_nil)))))))
      (pss_one (ps_ret (pv 2)))))), ?_⟩
    walk_at "go"
    refine do_law_net hT (by decide) (by decide) fun vn a b c H1 n1 n2 n3 n4 S1 i1 => ?_
    walk_at "go"
    refine r_newL (sz100 (Nat.zero_le _)) fun f H2 S2 hf nf => ?_
    have T1 : Tape H1 t := hT.mvS S1
    have nft : f ≠ t := tape_ne T1 nf
    have T2 : Tape H2 t := T1.mvN S2
    walk_at "go"
    walk_at "dr"
    intro r0 H3 r00 r01 S3
    have nr : 2 + r0 = (((2 + r0).toNat : Nat) : Int) := by omega
    have i3 : IT H3 vn [a, b, c] := (i1.mv S2).mv S3
    have hf3 : H3 f = some (.lst []) := At.lstS S3 nft hf
    have s3 : Stp (some t) H1 H3 := S2.w.trans S3
    walk_at "go"
    rw [nr]
    obtain ⟨m1, m2, m3, m4, m5, m6⟩ := n1
    refine ForR.ok ⟨(2 + r0).toNat, fun i σ H' => ∃ xs ss t3 t4 t5 t6, σ = [some (.ref t), some vn, some (.ref f), t3, t4, t5, t6] ∧ Stp (some t) H1 H' ∧ IT H' vn [a, b, c] ∧ H' f = some (.lst xs) ∧ PT H' xs ss ∧ Bd C7 C7 ss ∧ ss.length = i, rfl, by omega,
      ⟨[], [], none, none, none, none, rfl, s3, i3, hf3, PT.nil, Bd.nil, rfl⟩, ?_, ?_⟩
    · rintro i σ H' hi ⟨xs, ss, t3, t4, t5, t6, rfl, s', iv, hf', hx, hb, hl⟩
      have TH : Tape H' t := T1.mvS s'
      walk_at "go"
      walk_at "dr"
      intro d1 H4 d10 d11 S4
      walk_at "go"
      walk_at "dr"
      intro d2 H5 d20 d21 S5
      walk_at "go"
      refine r_mulW (mulW_of (by omega) (by omega)) ?_
      walk_at "go"
      have k1 : ((d1 - 4) * a).natAbs ≤ 4 * 60 := by rw [Int.natAbs_mul]; exact Nat.mul_le_mul (by omega) (by omega)
      have k2 : ((d2 - 4) * b).natAbs ≤ 4 * 60 := by rw [Int.natAbs_mul]; exact Nat.mul_le_mul (by omega) (by omega)
      have k3 : ((d2 - 4) * c).natAbs ≤ 4 * 60 := by rw [Int.natAbs_mul]; exact Nat.mul_le_mul (by omega) (by omega)
      refine r_mulW (mulW_of (by omega) (by omega)) ?_
      walk_at "go"
      refine r_mulW (mulW_of (by omega) (by omega)) ?_
      walk_at "go"
      rename_i vs H6 S6 i6
      generalize (d1 - 4) * a = e1 at k1 i6
      generalize (d2 - 4) * b = e2 at k2 i6
      generalize (d2 - 4) * c = e3 at k3 i6
      refine ⟨.inl ⟨rfl, _, SqL.of (At.lst S6 (At.lstS S5 nft (At.lstS S4 nft hf')))⟩, ?_⟩
      walk_at "go"
      rename_i vo H7 S7 i7
      refine do_law_place (by walk_at "up") fun vp px py H8 p1 p2 p3 p4 S8 i8 => ?_
      walk_at "go"
      rename_i l9 H9 S9 hl9 nl9
      have T8 : Tape H8 t := by walk_at "up"
      have n9 : l9 ≠ t := tape_ne T8 nl9
      have T9 : Tape H9 t := T8.mvN S9
      walk_at "dr"
      intro d3 H10 d30 d31 S10
      walk_at "go"
      have hl10 : H10 l9 = some (.lst [vs, vo, vp]) := At.lstS S10 n9 hl9
      have hf10 : H10 f = some (.lst xs) := At.lstS S10 nft (At.lst S9 (At.lstS S8 nft (At.lst S7 (At.lst S6 (At.lstS S5 nft (At.lstS S4 nft hf'))))))
      have j1 : IT H10 vs [e1 + e2, e3] := by walk_at "up"
      have j2 : IT H10 vo [d1 - 4, d2 - 4] := by walk_at "up"
      have j3 : IT H10 vp [px, py] := by walk_at "up"
      have sA : Stp (some t) H' H10 := by walk_at "st"
      have c7 : (C7 : Nat) = 10 ^ 27 := rfl
      have pick : ∃ (z : V) (s : Int × Int), [vs, vo, vp][(d3 / 2 % 3).toNat]? = some z ∧ IT H10 z [s.1, s.2] ∧ s.1.natAbs ≤ C7 ∧ s.2.natAbs ≤ C7 := by
        have : d3 / 2 % 3 = 0 ∨ d3 / 2 % 3 = 1 ∨ d3 / 2 % 3 = 2 := by omega
        rcases this with h | h | h <;> rw [h]
        · exact ⟨vs, (e1 + e2, e3), rfl, j1, by simp only []; omega, by simp only []; omega⟩
        · exact ⟨vo, (d1 - 4, d2 - 4), rfl, j2, by simp only []; omega, by simp only []; omega⟩
        · exact ⟨vp, (px, py), rfl, j3, by simp only []; omega, by simp only []; omega⟩
      obtain ⟨z, s, hz, iz, z1, z2⟩ := pick
      refine r_div (divW_of (by decide) (by decide)) ?_
      walk_at "go"
      refine r_ixLi hl10 (by omega) hz ?_
      walk_at "go"
      have hx10 : PT H10 xs ss := hx.mv sA
      refine r_app hf10 ?_ ?_
      · have := hx.1
        exact Nat.lt_of_lt_of_le (show xs.length < 100 by omega) (by decide)
      · walk_at "go"
        exact ⟨xs ++ [z], ss ++ [s], _, _, _, _, rfl, (s'.trans sA).put nf, (iv.mv sA).put hf10, upd_same, hx10.app hf10 iz, hb.app z1 z2, by rw [List.length_append, hl]; rfl⟩
    · rintro σ H' ⟨xs, ss, t3, t4, t5, t6, rfl, s', iv, hf', hx, hb, hl⟩
      walk_at "go"
      refine q f xs ss H' (S1.trans s') hf' ?_ hx hb (by omega) (by omega)
      cases z : H f with
      | none => rfl
      | some o =>
        exfalso
        by_cases hh : ∀ xs, o ≠ .lst xs
        · have := S1.ge f o (fun _ => hh) z
          rw [nf] at this; cases this
        · have := S1.ge f o (fun e => absurd (Option.some.inj e).symm nft) z
          rw [nf] at this; cases this
theorem do_law_shifts {t : Addr} (h : Tape H t) (q : ∀ p xs ss H', Stp (some t) H H' → H' p = some (.lst xs) → H p = none → PT H' xs ss → Bd C7 C7 ss → 2 ≤ ss.length → ss.length ≤ 6 → Q (.ref p) H') : sp_law_shifts [.ref t] H Q E := ⟨t, rfl, h, q⟩
end
end Law

set_option Elab.async false
set_option linter.all false
set_option maxRecDepth 100000
set_option maxHeartbeats 4000000
namespace Law
open PySem PySem.Spec PyProof.Rows L2 MV
local macro_rules | `(tactic| walk_at "up") => `(tactic| first
  | assumption
  | (refine' IT.mv ?s ?g; (case s => assumption); (case g => walk_at "up"))
  | (refine' IT.k ?g; (case g => walk_at "up"))
  | (refine' IK.mv ?s ?g; (case s => assumption); (case g => walk_at "up"))
  | (refine' Tape.mvN ?s ?g; (case s => assumption); (case g => walk_at "up"))
  | (refine' Tape.mvS ?s ?g; (case s => assumption); (case g => walk_at "up"))
  | (refine' At.tup ?s ?g; (case s => assumption); (case g => walk_at "up"))
  | (refine' At.ins ?s ?g; (case s => assumption); (case g => walk_at "up"))
  | (refine' At.lst ?s ?g; (case s => assumption); (case g => walk_at "up"))
  | (refine' At.lstS ?s ?n ?g; (case s => assumption); (case n => assumption); (case g => walk_at "up"))
  | fail)
local macro_rules | `(tactic| walk_at "st") => `(tactic| first
  | assumption
  | exact Stp.refl _ _
  | (refine' Stp.w ?s; (case s => assumption))
  | (refine' Stp.trans ?g ?s; (case s => (first | assumption | (refine' Stp.w ?u; (case u => assumption)))); (case g => walk_at "st"))
  | fail)
local macro_rules | `(tactic| walk_at "bT") => `(tactic| first
  | decide
  | (simp only [Bool.not_eq_true', Bool.not_eq_false', decide_eq_true_eq, decide_eq_false_iff_not]; omega)
  | fail)
local macro_rules | `(tactic| walk_at "sd") => `(tactic| first | assumption | decide | omega | fail)
local macro_rules | `(tactic| walk_at "r") => `(tactic| first
  | (with_reducible refine r_seq ?_)
  | (with_reducible refine r_asg ?_)
  | ((with_reducible refine' r_var ?h ?k); (case h => rfl))
  | (with_reducible refine r_c ?_)
  | (with_reducible refine r_op ?_)
  | (with_reducible refine r_un ?_)
  | (with_reducible refine r_nil ?_)
  | (with_reducible refine r_cons ?_)
  | (with_reducible refine r_tup ?_)
  | (with_reducible refine r_lst ?_)
  | (with_reducible refine r_cbLen ?_)
  | (with_reducible refine r_cbInt ?_)
  | (with_reducible refine r_cbRepr ?_)
  | (with_reducible refine r_cbTup ?_)
  | (with_reducible refine r_cbLst ?_)
  | (with_reducible refine r_cb ?_)
  | (with_reducible refine r_prop ?_)
  | (with_reducible refine r_andV ?_)
  | (with_reducible refine r_orV ?_)
  | (with_reducible refine r_notV ?_)
  | (with_reducible refine r_chain ?_)
  | (with_reducible refine r_ifE ?_)
  | (with_reducible refine r_test ?_)
  | (with_reducible refine r_B ?_)
  | (with_reducible refine r_and ?_)
  | (with_reducible refine r_or ?_)
  | (with_reducible refine r_not ?_)
  | (with_reducible refine r_yes ?_)
  | (with_reducible refine r_k ?_)
  | (with_reducible refine r_kV ?_)
  | (with_reducible refine r_next ?_)
  | (with_reducible refine r_drop ?_)
  | (with_reducible refine r_ret ?_)
  | (with_reducible refine r_ifS ?_)
  | (with_reducible refine r_par ?_)
  | (with_reducible refine r_par1 ?_)
  | (with_reducible refine r_gname ?_)
  | (with_reducible refine r_gnil ?_)
  | (with_reducible refine r_gcons ?_)
  | ((with_reducible refine' r_unpack2 ?h ?k); (case h => walk_at "up"))
  | ((with_reducible refine' r_unpack3 ?h ?k); (case h => walk_at "up"))
  | (with_reducible refine r_add ?_)
  | (with_reducible refine r_sub ?_)
  | (with_reducible refine r_neg ?_)
  | ((with_reducible refine' r_mod ?h ?k); (case h => walk_at "sd"))
  | ((with_reducible refine' r_div ?h ?k); (case h => walk_at "sd"))
  | ((with_reducible refine' r_mul ?h ?k); (case h => walk_at "sd"))
  | ((with_reducible refine' r_mulW ?h ?k); (case h => walk_at "sd"))
  | ((with_reducible refine' r_pow ?h ?k); (case h => (show (0 : Int) ≤ _ ∧ _ ∧ _; decide)))
  | (with_reducible refine r_lt ?_)
  | (with_reducible refine r_le ?_)
  | (with_reducible refine r_gt ?_)
  | (with_reducible refine r_ge ?_)
  | (with_reducible refine r_eqI ?_)
  | (with_reducible refine r_neI ?_)
  | (with_reducible refine r_eqS ?_)
  | (with_reducible refine r_neS ?_)
  | ((with_reducible refine' r_eqT ?h ?g ?k); (case h => walk_at "up"); (case g => walk_at "up"))
  | ((with_reducible refine' r_neT ?h ?g ?k); (case h => walk_at "up"); (case g => walk_at "up"))
  | ((with_reducible refine' r_ix0 ?h ?k); (case h => walk_at "up"))
  | ((with_reducible refine' r_ix1 ?h ?k); (case h => walk_at "up"))
  | ((with_reducible refine' r_ix2 ?h ?k); (case h => walk_at "up"))
  | (with_reducible refine r_newI2 (fun v H2 S I => ?_))
  | (with_reducible refine r_newI3 (fun v H2 S I => ?_))
  | (with_reducible refine r_newL1 (fun p H2 S hp np => ?_))
  | (with_reducible refine r_newL2 (fun p H2 S hp np => ?_))
  | (with_reducible refine r_newL3 (fun p H2 S hp np => ?_))
  | (with_reducible refine r_T ?_)
  | (with_reducible refine r_F ?_)
  | fail)
local macro_rules | `(tactic| walk_at "go") => `(tactic| repeat (walk_at "r"))
local macro_rules | `(tactic| walk_at "r") => `(tactic| first
  | (with_reducible refine r_call0 ?_)
  | (with_reducible refine r_meth0 ?_)
  | (with_reducible refine r_make0 ?_)
  | (with_reducible refine r_isiII ?_)
  | (with_reducible refine r_isiIB ?_)
  | ((with_reducible refine' r_isiTT ?h ?k); (case h => walk_at "up"))
  | ((with_reducible refine' r_len2 ?h ?k); (case h => walk_at "up"))
  | ((with_reducible refine' r_len3 ?h ?k); (case h => walk_at "up"))
  | ((with_reducible refine' r_lenL ?h ?k); (case h => walk_at "up"))
  | (with_reducible refine r_int1 ?_)
  | (with_reducible refine r_int1B ?_)
  | (with_reducible refine r_nT ?_)
  | (with_reducible refine r_nF ?_)
  | (with_reducible refine r_gcd ?_)
  | (with_reducible refine r_gsub ?_)
  | (with_reducible refine r_fld ?_)
  | (with_reducible refine r_p6 ?_)
  | (with_reducible refine r_p9 ?_)
  | (with_reducible refine r_p10 ?_)
  | (with_reducible refine r_p11 ?_)
  | (with_reducible refine r_p12 ?_)
  | (with_reducible refine r_p18 ?_)
  | (with_reducible refine r_p20 ?_)
  | (with_reducible refine r_p26 ?_)
  | (with_reducible refine r_p27 ?_)
  | (with_reducible refine r_p30 ?_)
  | ((with_reducible refine' r_iF ?h ?k); (case h => walk_at "bT"))
  | ((with_reducible refine' r_iT ?h ?k); (case h => walk_at "bT"))
  | (with_reducible refine r_sfld ?_)
  | (with_reducible refine r_sl ?_)
  | (with_reducible refine r_noPart ?_)
  | (with_reducible refine r_part ?_)
  | (with_reducible refine r_pk ?_)
  | ((with_reducible refine' r_unl2 ?h ?k); (case h => walk_at "up"))
  | ((with_reducible refine' r_ixLi ?h ?h0 ?hn ?k); (case h => walk_at "up"); (case h0 => walk_at "sd"); (case hn => rfl))
  | fail)

local macro_rules | `(tactic| walk_at "r") => `(tactic| with_reducible refine do_is_integer ?_)
local macro_rules | `(tactic| walk_at "r") => `(tactic| first | ((with_reducible refine' do_is_place ?h ?k); (case h => walk_at "up")) | fail)
local macro_rules | `(tactic| walk_at "r") => `(tactic| first | ((with_reducible refine' do_check_place ?h ?k); (case h => walk_at "up")) | fail)
local macro_rules | `(tactic| walk_at "r") => `(tactic| first | ((with_reducible refine' do_are_numbers ?h ?k); (case h => assumption)) | fail)
local macro_rules | `(tactic| walk_at "up") => `(tactic| first | (refine' NA.mv ?s ?g; (case s => assumption); (case g => walk_at "up")) | fail)
local macro_rules | `(tactic| walk_at "r") => `(tactic| first
  | ((with_reducible refine' do_Net_size ?h ?k); (case h => walk_at "up"))
  | ((with_reducible refine' do_meth ?h ?hm ?k); (case h => walk_at "up"); (case hm => decide +kernel))
  | fail)

local macro_rules | `(tactic| walk_at "dr") => `(tactic| (refine do_law_draw (by walk_at "up") (by first | decide | omega) (by first | decide | omega) ?_))
local macro_rules | `(tactic| walk_at "r") => `(tactic| first
  | (with_reducible refine r_forT ?_)
  | (with_reducible refine r_forL ?_)
  | (with_reducible refine r_forR ?_)
  | (with_reducible refine r_bm ?_)
  | (with_reducible refine r_lcL ?_)
  | (with_reducible refine r_newI4 (fun v H2 S I => ?_))
  | ((with_reducible refine' r_unpack4 ?h ?k); (case h => walk_at "up"))
  | ((with_reducible refine' do_Net_numbers ?h (fun u hu => ?k)); (case h => walk_at "up"))
  | fail)
section
variable {P : Program} {w : World} {K : PySem.W.Frag} {mg : Str → Option Value} {base : Heap} {ad : Ad} {H : Hp} {Q : VK} {E : XK} {i j x y : Int} {v : V}
local macro_rules | `(tactic| walk_at "r") => `(tactic| first | (with_reducible refine r_smeth ?_) | (with_reducible refine r_same ?_) | (with_reducible refine r_cmeth0 ?_) | fail)
abbrev A2 : Nat := (4 * C7) ^ 2 * C7
theorem lp_two {a b c X Y : Int} : SpL [(a, 0), (b, c)] X Y ↔ Lp a b c X Y := by
  constructor
  · rintro ⟨k, l, e1, e2⟩
    simp only [] at e1 e2
    exact ⟨l, k, by omega, by omega⟩
  · rintro ⟨i, j, e1, e2⟩
    exact ⟨j, i, by simp only []; omega, by simp only []; omega⟩
theorem spl3 {a b c X Y : Int} {s : Int × Int} : SpL [(a, 0), (b, c), s] X Y ↔ SpF (Lp a b c) s X Y := spF_cong (L := SpL [(a, 0), (b, c)]) (M := Lp a b c) (fun X Y => lp_two) s X Y
theorem full_of {ss tt : List (Int × Int)} {a b c : Int} (n : Nfs ss a b c) (ha : a ≠ 0) (hc : c ≠ 0) (h : ∀ X Y, SpL ss X Y → SpL tt X Y) : Full tt := by
  intro a' b' c' m
  have d1 := Lp_x m.nf ((m.sp _ _).mpr (h _ _ ((n.sp _ _).mp Lp_a)))
  have d2 := Lp_y ((m.sp _ _).mpr (h _ _ ((n.sp _ _).mp Lp_b)))
  exact ⟨by rintro rfl; exact ha (Int.zero_dvd.mp d1), by rintro rfl; exact hc (Int.zero_dvd.mp d2)⟩
theorem cut_from2 (a b : V) (r : List V) : cutV (a :: b :: r) (some 2) none = r := by
  unfold cutV HT.sIx
  simp
theorem cut_to2 (a b : V) (r : List V) : cutV (a :: b :: r) none (some 2) = [a, b] := by
  unfold cutV HT.sIx
  simp
theorem SpL_old {ss : List (Int × Int)} (tt : List (Int × Int)) {X Y : Int} (h : SpL ss X Y) : SpL (ss ++ tt) X Y := by
  unfold SpL at *
  rw [List.foldl_append]
  exact fold_old tt h
theorem PT.two {xs : List V} {ss : List (Int × Int)} (h : PT H xs ss) (hl : 2 ≤ ss.length) : ∃ v0 v1 xr s0 s1 sr, xs = v0 :: v1 :: xr ∧ ss = s0 :: s1 :: sr ∧ IT H v0 [s0.1, s0.2] ∧ IT H v1 [s1.1, s1.2] ∧ PT H xr sr := by
  match xs, ss, h, hl with
  | v0 :: v1 :: xr, s0 :: s1 :: sr, h, _ =>
    obtain ⟨h1, h2⟩ := h
    refine ⟨v0, v1, xr, s0, s1, sr, rfl, rfl, ?_, ?_, ?_, fun i x e => h2 (i + 2) x e⟩
    · obtain ⟨s, e, i⟩ := h2 0 v0 rfl; cases e; exact i
    · obtain ⟨s, e, i⟩ := h2 1 v1 rfl; cases e; exact i
    · simp only [List.length_cons] at h1; omega
  | [], s0 :: s1 :: sr, h, _ => have := h.1; simp only [List.length_cons, List.length_nil] at this; omega
  | [_], s0 :: s1 :: sr, h, _ => have := h.1; simp only [List.length_cons, List.length_nil] at this; omega
theorem fb2 : Fb C7 C7 2 := ⟨by decide, by unfold N1; decide +kernel, by unfold N1; decide +kernel⟩
theorem fb3 : Fb C7 A2 3 := ⟨by decide, by unfold N1; decide +kernel, by unfold N1; decide +kernel⟩
theorem fb6 {n : Nat} (h : n ≤ 6) : Fb C7 C7 n := ⟨by decide, by
  exact Int.le_trans (Int.ofNat_le.mpr (pw_le (C := C7) (B := C7) (by decide) h)) (by unfold N1; decide +kernel), by unfold N1; decide +kernel⟩
/-! ### the net of all of them, one by one -/
def sp_law_of (C : Addr) (K : PySem.W.Frag) : Sp := fun vs H Q _ => ∃ p xs ss, vs = [.ref p] ∧ H p = some (.lst xs) ∧ PT H xs ss ∧ Bd C7 C7 ss ∧ 2 ≤ ss.length ∧ ss.length ≤ 6 ∧ Full (ss.take 2) ∧
  ∀ z a b c H', Stp none H H' → NA C H' z a b c → Nfs ss a b c → a.natAbs ≤ A2 → c.natAbs ≤ C7 → Q z H'
theorem ok_law_of (T : Txt w K mg ad) : FnG P w K mg base CX0 6 ad.law_of ad.law_of_d P_law_of (sp_law_of ad.C_Net K) := by
  have G_Net_of := ok_Net_of (P := P) (w := w) (base := base) T
  have G_Net_numbers := ok_Net_numbers (P := P) (w := w) (base := base) T
  refine Fun.gn T.F_law_of sc_law_of (fun vs H Q E h => ?_) (fun cdv A outer s H vs Q E hr hg h => ?_)
  · obtain ⟨p, xs, ss, rfl, _⟩ := h
    rfl
  · obtain ⟨p, xs, ss, rfl, hp, hx, hb, l2, l6, hn, q⟩ := h
    obtain ⟨v0, v1, xr, s0, s1, sr, rfl, rfl, i0, i1, hxr⟩ := hx.two l2
    have b0 := hb s0 List.mem_cons_self
    have b1 := hb s1 (List.mem_cons_of_mem _ List.mem_cons_self)
    refine ⟨_, (pss_cons (ps_set (i := 1) sc_law_of.nd rfl (Or.inl rfl) (peg_smethR (pe_glob (v := V.ref ad.C_Net) rfl T.g_Net rfl) T.sm_Net_of G_Net_of (hr.mono (by decide)) hg pass0 (pa_cons (pe_ix ix_seq (pv 0) pe_int (fun _ _ => rfl)) (pa_cons (pe_ix ix_seq (pv 0) pe_int (fun _ _ => rfl)) pa_nil))))
      (pss_cons (ps_for PassesOwn.never rfl (pi_list (pe_slice sl_list (pv 0) (po_some pe_int) po_none)) (pg_name (i := 2) sc_law_of.nd rfl (Or.inl rfl))
      (pss_one (ps_set (i := 1) sc_law_of.nd rfl (Or.inl rfl) (peg_smethR (pe_glob (v := V.ref ad.C_Net) rfl T.g_Net rfl) T.sm_Net_of G_Net_of (hr.mono (by decide)) hg pass0 (pa_cons (pe_tup (pa_cons (pe_ix ix_seq (peg_prop (pv 1) T.cl_Net T.p_Net_numbers G_Net_numbers (hr.mono (by decide)) hg T.b_Net_numbers .nil pass0) pe_int (fun _ _ => rfl)) (pa_cons pe_int pa_nil))) (pa_cons (pe_tup (pa_cons (pe_ix ix_seq (peg_prop (pv 1) T.cl_Net T.p_Net_numbers G_Net_numbers (hr.mono (by decide)) hg T.b_Net_numbers .nil pass0) pe_int (fun _ _ => rfl)) (pa_cons (pe_ix ix_seq (peg_prop (pv 1) T.cl_Net T.p_Net_numbers G_Net_numbers (hr.mono (by decide)) hg T.b_Net_numbers .nil pass0) pe_int (fun _ _ => rfl)) pa_nil))) (pa_cons (pv 2) pa_nil)))))))
      (pss_one (ps_ret (pv 1))))), ?_⟩
    walk_at "go"
    refine do_Net_of (ss := [s0, s1]) (C := C7) (B := C7) (Nat.le_of_ble_eq_true rfl) (.cons i0 (.cons i1 .nil)) (.cons b0.1 b0.2 (.cons b1.1 b1.2 .nil)) fb2 hn fun z a b c H1 S1 hz nb => ?_
    walk_at "go"
    have hp1 : H1 p = some (.lst (v0 :: v1 :: xr)) := At.lst S1 hp
    refine r_slL (SqL.of hp1) fun l H2 S2 hl nl => ?_
    rw [cut_from2] at hl
    have aA : a.natAbs ≤ A2 := nb.aa
    refine ForL.ok ⟨l, xr, fun i σ H' => ∃ z a b c t, σ = [some (.ref p), some z, t] ∧ Stp none H2 H' ∧ NA ad.C_Net H' z a b c ∧ Nfs (s0 :: s1 :: sr.take i) a b c ∧ a.natAbs ≤ A2 ∧ c.natAbs ≤ C7, rfl, ⟨z, a, b, c, none, rfl, Stp.refl _ _, hz.mv S2, nb.ns, aA, nb.cc⟩,
      fun _ σ H' _ ⟨_, _, _, _, _, _, s, _⟩ => At.lst s hl, ?_, ?_⟩
    · rintro i u σ H' hu ⟨z, a, b, c, t, rfl, s', hz, hn', ba, bc⟩
      obtain ⟨s, es, iu0⟩ := hxr.2 i u hu
      have iu : IT H' u [s.1, s.2] := ((iu0.mv S1).mv S2).mv s'
      have bs := hb s (List.mem_cons_of_mem _ (List.mem_cons_of_mem _ (List.mem_of_getElem? es)))
      have n' := hz.1
      have na : a ≠ 0 := by have := n'.a1; omega
      have nc : c ≠ 0 := by have := n'.c1; omega
      have bb : b.natAbs ≤ A2 := by have := n'.b0; have := n'.ba; omega
      have et : s0 :: s1 :: sr.take (i + 1) = (s0 :: s1 :: sr.take i) ++ [s] := by
        rw [List.take_succ, es]
        rfl
      have le : ∀ X Y, SpL [(a, 0), (b, c), s] X Y ↔ SpL (s0 :: s1 :: sr.take (i + 1)) X Y := fun X Y => by
        rw [et, SpL_snoc]
        exact spl3.trans (spF_cong hn'.sp s X Y)
      walk_at "go"
      rename_i u1 g1 va H3 S3 ia u2 g2 u3 g3 vb H4 S4 ib
      refine do_Net_of (ss := [(a, 0), (b, c), s]) (C := C7) (B := A2) (Nat.le_of_ble_eq_true rfl) (.cons (s := (a, 0)) (by walk_at "up") (.cons (s := (b, c)) (by walk_at "up") (.cons (by walk_at "up") .nil))) (.cons ba (Nat.zero_le _) (.cons bb bc (.cons (Nat.le_trans bs.1 (by decide)) bs.2 .nil))) fb3
        (full_of hn' na nc fun X Y h => (le X Y).mpr (by rw [et]; exact SpL_old _ h)) fun z2 a2 b2 c2 H5 S5 hz2 nb2 => ?_
      have m2 : Nfs (s0 :: s1 :: sr.take (i + 1)) a2 b2 c2 := ⟨nb2.ns.nf, fun X Y => (nb2.ns.sp X Y).trans (le X Y)⟩
      have d := Lp_x m2.nf ((m2.sp _ _).mpr (by rw [et]; exact SpL_old _ ((hn'.sp _ _).mp Lp_a)))
      have a2a : a2 ≤ a := Int.le_of_dvd (by have := n'.a1; omega) d
      have a20 := m2.nf.a0
      walk_at "go"
      exact ⟨z2, a2, b2, c2, _, rfl, by walk_at "st", hz2, m2, by omega, nb2.cc⟩
    · rintro σ H' ⟨z, a, b, c, t, rfl, s', hz, hn', ba, bc⟩
      have e := hxr.1
      rw [e, List.take_length] at hn'
      walk_at "go"
      exact q _ _ _ _ _ (by walk_at "st") hz hn' ba bc
theorem do_law_of {C p : Addr} {xs : List V} {ss : List (Int × Int)} (h : H p = some (.lst xs)) (hx : PT H xs ss) (hb : Bd C7 C7 ss) (l2 : 2 ≤ ss.length) (l6 : ss.length ≤ 6) (hn : Full (ss.take 2))
    (q : ∀ z a b c H', Stp none H H' → NA C H' z a b c → Nfs ss a b c → a.natAbs ≤ A2 → c.natAbs ≤ C7 → Q z H') : sp_law_of C K [.ref p] H Q E := ⟨p, xs, ss, rfl, h, hx, hb, l2, l6, hn, q⟩
end
end Law

set_option Elab.async false
set_option linter.all false
set_option maxRecDepth 100000
set_option maxHeartbeats 4000000
namespace Law
open PySem PySem.Spec PyProof.Rows L2 MV
local macro_rules | `(tactic| walk_at "up") => `(tactic| first
  | assumption
  | (refine' IT.mv ?s ?g; (case s => assumption); (case g => walk_at "up"))
  | (refine' IT.k ?g; (case g => walk_at "up"))
  | (refine' IK.mv ?s ?g; (case s => assumption); (case g => walk_at "up"))
  | (refine' Tape.mvN ?s ?g; (case s => assumption); (case g => walk_at "up"))
  | (refine' Tape.mvS ?s ?g; (case s => assumption); (case g => walk_at "up"))
  | (refine' At.tup ?s ?g; (case s => assumption); (case g => walk_at "up"))
  | (refine' At.ins ?s ?g; (case s => assumption); (case g => walk_at "up"))
  | (refine' At.lst ?s ?g; (case s => assumption); (case g => walk_at "up"))
  | (refine' At.lstS ?s ?n ?g; (case s => assumption); (case n => assumption); (case g => walk_at "up"))
  | fail)
local macro_rules | `(tactic| walk_at "st") => `(tactic| first
  | assumption
  | exact Stp.refl _ _
  | (refine' Stp.w ?s; (case s => assumption))
  | (refine' Stp.trans ?g ?s; (case s => (first | assumption | (refine' Stp.w ?u; (case u => assumption)))); (case g => walk_at "st"))
  | fail)
local macro_rules | `(tactic| walk_at "bT") => `(tactic| first
  | decide
  | (simp only [Bool.not_eq_true', Bool.not_eq_false', decide_eq_true_eq, decide_eq_false_iff_not]; omega)
  | fail)
local macro_rules | `(tactic| walk_at "sd") => `(tactic| first | assumption | decide | omega | fail)
local macro_rules | `(tactic| walk_at "r") => `(tactic| first
  | (with_reducible refine r_seq ?_)
  | (with_reducible refine r_asg ?_)
  | ((with_reducible refine' r_var ?h ?k); (case h => rfl))
  | (with_reducible refine r_c ?_)
  | (with_reducible refine r_op ?_)
  | (with_reducible refine r_un ?_)
  | (with_reducible refine r_nil ?_)
  | (with_reducible refine r_cons ?_)
  | (with_reducible refine r_tup ?_)
  | (with_reducible refine r_lst ?_)
  | (with_reducible refine r_cbLen ?_)
  | (with_reducible refine r_cbInt ?_)
  | (with_reducible refine r_cbRepr ?_)
  | (with_reducible refine r_cbTup ?_)
  | (with_reducible refine r_cbLst ?_)
  | (with_reducible refine r_cb ?_)
  | (with_reducible refine r_prop ?_)
  | (with_reducible refine r_andV ?_)
  | (with_reducible refine r_orV ?_)
  | (with_reducible refine r_notV ?_)
  | (with_reducible refine r_chain ?_)
  | (with_reducible refine r_ifE ?_)
  | (with_reducible refine r_test ?_)
  | (with_reducible refine r_B ?_)
  | (with_reducible refine r_and ?_)
  | (with_reducible refine r_or ?_)
  | (with_reducible refine r_not ?_)
  | (with_reducible refine r_yes ?_)
  | (with_reducible refine r_k ?_)
  | (with_reducible refine r_kV ?_)
  | (with_reducible refine r_next ?_)
  | (with_reducible refine r_drop ?_)
  | (with_reducible refine r_ret ?_)
  | (with_reducible refine r_ifS ?_)
  | (with_reducible refine r_par ?_)
  | (with_reducible refine r_par1 ?_)
  | (with_reducible refine r_gname ?_)
  | (with_reducible refine r_gnil ?_)
  | (with_reducible refine r_gcons ?_)
  | ((with_reducible refine' r_unpack2 ?h ?k); (case h => walk_at "up"))
  | ((with_reducible refine' r_unpack3 ?h ?k); (case h => walk_at "up"))
  | (with_reducible refine r_add ?_)
  | (with_reducible refine r_sub ?_)
  | (with_reducible refine r_neg ?_)
  | ((with_reducible refine' r_mod ?h ?k); (case h => walk_at "sd"))
  | ((with_reducible refine' r_div ?h ?k); (case h => walk_at "sd"))
  | ((with_reducible refine' r_mul ?h ?k); (case h => walk_at "sd"))
  | ((with_reducible refine' r_mulW ?h ?k); (case h => walk_at "sd"))
  | ((with_reducible refine' r_pow ?h ?k); (case h => (show (0 : Int) ≤ _ ∧ _ ∧ _; decide)))
  | (with_reducible refine r_lt ?_)
  | (with_reducible refine r_le ?_)
  | (with_reducible refine r_gt ?_)
  | (with_reducible refine r_ge ?_)
  | (with_reducible refine r_eqI ?_)
  | (with_reducible refine r_neI ?_)
  | (with_reducible refine r_eqS ?_)
  | (with_reducible refine r_neS ?_)
  | ((with_reducible refine' r_eqT ?h ?g ?k); (case h => walk_at "up"); (case g => walk_at "up"))
  | ((with_reducible refine' r_neT ?h ?g ?k); (case h => walk_at "up"); (case g => walk_at "up"))
  | ((with_reducible refine' r_ix0 ?h ?k); (case h => walk_at "up"))
  | ((with_reducible refine' r_ix1 ?h ?k); (case h => walk_at "up"))
  | ((with_reducible refine' r_ix2 ?h ?k); (case h => walk_at "up"))
  | (with_reducible refine r_newI2 (fun v H2 S I => ?_))
  | (with_reducible refine r_newI3 (fun v H2 S I => ?_))
  | (with_reducible refine r_newL1 (fun p H2 S hp np => ?_))
  | (with_reducible refine r_newL2 (fun p H2 S hp np => ?_))
  | (with_reducible refine r_newL3 (fun p H2 S hp np => ?_))
  | (with_reducible refine r_T ?_)
  | (with_reducible refine r_F ?_)
  | fail)
local macro_rules | `(tactic| walk_at "go") => `(tactic| repeat (walk_at "r"))
local macro_rules | `(tactic| walk_at "r") => `(tactic| first
  | (with_reducible refine r_call0 ?_)
  | (with_reducible refine r_meth0 ?_)
  | (with_reducible refine r_make0 ?_)
  | (with_reducible refine r_isiII ?_)
  | (with_reducible refine r_isiIB ?_)
  | ((with_reducible refine' r_isiTT ?h ?k); (case h => walk_at "up"))
  | ((with_reducible refine' r_len2 ?h ?k); (case h => walk_at "up"))
  | ((with_reducible refine' r_len3 ?h ?k); (case h => walk_at "up"))
  | ((with_reducible refine' r_lenL ?h ?k); (case h => walk_at "up"))
  | (with_reducible refine r_int1 ?_)
  | (with_reducible refine r_int1B ?_)
  | (with_reducible refine r_nT ?_)
  | (with_reducible refine r_nF ?_)
  | (with_reducible refine r_gcd ?_)
  | (with_reducible refine r_gsub ?_)
  | (with_reducible refine r_fld ?_)
  | (with_reducible refine r_p6 ?_)
  | (with_reducible refine r_p9 ?_)
  | (with_reducible refine r_p10 ?_)
  | (with_reducible refine r_p11 ?_)
  | (with_reducible refine r_p12 ?_)
  | (with_reducible refine r_p18 ?_)
  | (with_reducible refine r_p20 ?_)
  | (with_reducible refine r_p26 ?_)
  | (with_reducible refine r_p27 ?_)
  | (with_reducible refine r_p30 ?_)
  | ((with_reducible refine' r_iF ?h ?k); (case h => walk_at "bT"))
  | ((with_reducible refine' r_iT ?h ?k); (case h => walk_at "bT"))
  | (with_reducible refine r_sfld ?_)
  | (with_reducible refine r_sl ?_)
  | (with_reducible refine r_noPart ?_)
  | (with_reducible refine r_part ?_)
  | (with_reducible refine r_pk ?_)
  | ((with_reducible refine' r_unl2 ?h ?k); (case h => walk_at "up"))
  | ((with_reducible refine' r_ixLi ?h ?h0 ?hn ?k); (case h => walk_at "up"); (case h0 => walk_at "sd"); (case hn => rfl))
  | fail)

local macro_rules | `(tactic| walk_at "r") => `(tactic| with_reducible refine do_is_integer ?_)
local macro_rules | `(tactic| walk_at "r") => `(tactic| first | ((with_reducible refine' do_is_place ?h ?k); (case h => walk_at "up")) | fail)
local macro_rules | `(tactic| walk_at "r") => `(tactic| first | ((with_reducible refine' do_check_place ?h ?k); (case h => walk_at "up")) | fail)
local macro_rules | `(tactic| walk_at "r") => `(tactic| first | ((with_reducible refine' do_are_numbers ?h ?k); (case h => assumption)) | fail)
local macro_rules | `(tactic| walk_at "up") => `(tactic| first | (refine' NA.mv ?s ?g; (case s => assumption); (case g => walk_at "up")) | fail)
local macro_rules | `(tactic| walk_at "r") => `(tactic| first
  | ((with_reducible refine' do_Net_size ?h ?k); (case h => walk_at "up"))
  | ((with_reducible refine' do_meth ?h ?hm ?k); (case h => walk_at "up"); (case hm => decide +kernel))
  | fail)

local macro_rules | `(tactic| walk_at "dr") => `(tactic| (refine do_law_draw (by walk_at "up") (by first | decide | omega) (by first | decide | omega) ?_))
local macro_rules | `(tactic| walk_at "r") => `(tactic| first
  | (with_reducible refine r_forT ?_)
  | (with_reducible refine r_forL ?_)
  | (with_reducible refine r_forR ?_)
  | (with_reducible refine r_bm ?_)
  | (with_reducible refine r_lcL ?_)
  | (with_reducible refine r_newI4 (fun v H2 S I => ?_))
  | ((with_reducible refine' r_unpack4 ?h ?k); (case h => walk_at "up"))
  | ((with_reducible refine' do_Net_numbers ?h (fun u hu => ?k)); (case h => walk_at "up"))
  | fail)
section
variable {P : Program} {w : World} {K : PySem.W.Frag} {mg : Str → Option Value} {base : Heap} {ad : Ad} {H : Hp} {Q : VK} {E : XK} {i j x y : Int} {v : V}
local macro_rules | `(tactic| walk_at "r") => `(tactic| first | (with_reducible refine r_smeth ?_) | (with_reducible refine r_same ?_) | (with_reducible refine r_cmeth0 ?_) | fail)
theorem lp_swap {a b c X Y : Int} : SpL [(b, c), (a, 0)] X Y ↔ Lp a b c X Y := by
  rw [← lp_two]
  exact SpL_eq (fun s hs => SpL_mem (by simp only [List.mem_cons, List.not_mem_nil, or_false] at hs ⊢; exact hs.symm)) (fun s hs => SpL_mem (by simp only [List.mem_cons, List.not_mem_nil, or_false] at hs ⊢; exact hs.symm)) X Y
theorem lp_four {a b c X Y : Int} : SpL [(a * 7 + b, c), (0 - b, 0 - c), (a, 0), (0, 0)] X Y ↔ Lp a b c X Y := by
  constructor
  · refine SpL_le (sub_Lp a b c) fun s hs => ?_
    simp only [List.mem_cons, List.not_mem_nil, or_false] at hs
    rcases hs with rfl | rfl | rfl | rfl
    · exact ⟨7, 1, by simp only []; omega, by simp only []; omega⟩
    · exact ⟨0, -1, by simp only []; omega, by simp only []; omega⟩
    · exact Lp_a
    · exact (sub_Lp a b c).z
  · intro h
    rw [← lp_two] at h
    refine SpL_le (sub_SpL _) (fun s hs => ?_) h
    simp only [List.mem_cons, List.not_mem_nil, or_false] at hs
    rcases hs with rfl | rfl
    · exact SpL_mem (s := (a, 0)) (by simp)
    · have h1 : SpL [(a * 7 + b, c), (0 - b, 0 - c), (a, 0), (0, 0)] (0 - b) (0 - c) := SpL_mem (s := (0 - b, 0 - c)) (by simp)
      have h2 := (sub_SpL _).neg h1
      have e1 : -(0 - b) = b := by omega
      have e2 : -(0 - c) = c := by omega
      rwa [e1, e2] at h2
theorem spl_side {s0 s1 s2 s3 : Int × Int} (X Y : Int) : SpL [s0, s1, s2, s3] X Y ↔ SpL [s2, (0 - s1.1, 0 - s1.2), s3, (s0.1 + s2.1, s0.2 + s2.2), s2] X Y := by
  have mem : ∀ {u : Int × Int} {l : List (Int × Int)}, u ∈ l → SpL l u.1 u.2 := fun h => SpL_mem h
  refine SpL_eq (fun s hs => ?_) (fun s hs => ?_) X Y
  · simp only [List.mem_cons, List.not_mem_nil, or_false] at hs
    rcases hs with rfl | rfl | rfl | rfl
    · have h := (sub_SpL _).sub (mem (u := (s.1 + s2.1, s.2 + s2.2)) (l := [s2, (0 - s1.1, 0 - s1.2), s3, (s.1 + s2.1, s.2 + s2.2), s2]) (by simp)) (mem (u := s2) (by simp))
      have e1 : s.1 + s2.1 - s2.1 = s.1 := by omega
      have e2 : s.2 + s2.2 - s2.2 = s.2 := by omega
      simp only [e1, e2] at h
      exact h
    · have h := (sub_SpL _).neg (mem (u := (0 - s.1, 0 - s.2)) (l := [s2, (0 - s.1, 0 - s.2), s3, (s0.1 + s2.1, s0.2 + s2.2), s2]) (by simp))
      have e1 : -(0 - s.1) = s.1 := by omega
      have e2 : -(0 - s.2) = s.2 := by omega
      simp only [e1, e2] at h
      exact h
    · exact mem (by simp)
    · exact mem (by simp)
  · simp only [List.mem_cons, List.not_mem_nil, or_false] at hs
    rcases hs with rfl | rfl | rfl | rfl | rfl
    · exact mem (by simp)
    · have h := (sub_SpL _).neg (mem (u := s1) (l := [s0, s1, s2, s3]) (by simp))
      have e1 : -s1.1 = 0 - s1.1 := by omega
      have e2 : -s1.2 = 0 - s1.2 := by omega
      rw [e1, e2] at h
      exact h
    · exact mem (by simp)
    · exact (sub_SpL _).add (mem (u := s0) (l := [s0, s1, s2, s3]) (by simp)) (mem (u := s2) (by simp))
    · exact mem (by simp)
theorem spl_rev {s0 s1 s2 s3 : Int × Int} (X Y : Int) : SpL [s0, s1, s2, s3] X Y ↔ SpL [s3, s2, s1, s0] X Y :=
  SpL_eq (fun s hs => SpL_mem (by simp only [List.mem_cons, List.not_mem_nil, or_false] at hs ⊢; rcases hs with h | h | h | h <;> simp [h])) (fun s hs => SpL_mem (by simp only [List.mem_cons, List.not_mem_nil, or_false] at hs ⊢; rcases hs with h | h | h | h <;> simp [h])) X Y
theorem fb4 : Fb C7 (8 * A2) 4 := ⟨by decide, by unfold N1; decide +kernel, by unfold N1; decide +kernel⟩
theorem fb2' : Fb C7 (8 * A2) 2 := ⟨by decide, by unfold N1; decide +kernel, by unfold N1; decide +kernel⟩
abbrev C8 : Nat := 2 * 10 ^ 27
theorem fb5 {n : Nat} (h : n ≤ 5) : Fb C8 C8 n := ⟨by decide, by
  exact Int.le_trans (Int.ofNat_le.mpr (pw_le (C := C8) (B := C8) (by decide) h)) (by unfold N1; decide +kernel), by unfold N1; decide +kernel⟩
theorem fb1 : Fb 1 1 2 := ⟨by decide, by unfold N1; decide +kernel, by unfold N1; decide +kernel⟩
theorem a2_big : ((8 * A2 : Nat) : Int) ≤ N1 := by unfold N1; decide +kernel
theorem nfs_1 : Nfs [(0, 1), (1, 0)] 1 0 1 := ⟨⟨by decide, by decide, fun _ => ⟨by decide, by decide⟩, fun h => rfl⟩, fun X Y => lp_swap.symm⟩
theorem same3 {a b c d e f : Int} (h : a = d ∧ c = f ∧ (a ≠ 0 → b = e)) (ha : a ≠ 0) : [a, b, c] = [d, e, f] := by rw [h.1, h.2.1, h.2.2 ha]
abbrev d3 (a b c : Int) : PyData := .tuple [.int a, .int b, .int c]
theorem shaped_3 {a b c : Int} : SeqAt.shaped (.list [d3 a b c, d3 a b c, d3 a b c]) = true := by
  simp [SeqAt.shaped, PyData.canLay0, PyData.canLayAll0, PyData.depth, PyData.depthAll]
theorem eqv_3 {a b c : Int} : PyData.eqv (.list [d3 a b c, d3 a b c, d3 a b c]) (.list [d3 a b c, d3 a b c, d3 a b c]) = true := by
  have e : PyData.eqv (d3 a b c) (d3 a b c) = true := (eqv_ints [a, b, c] [a, b, c]).trans (decide_eq_true rfl)
  rw [PyData.eqv, PyData.eqvAll, PyData.eqvAll, PyData.eqvAll, PyData.eqvAll, e]
  rfl
theorem empty_list {K : PySem.W.Frag} {p p' : Addr} {Q : VK} (h : H p = some (.lst [])) (h2 : H p' = some (.lst [])) (q : Q (.bl false) H) : rNeD K (.ref p) (.ref p') H Q := by
  refine ⟨.list [], .list [], .lst (SqL.of h) .nil, .lst (SqL.of h2) .nil, by simp [SeqAt.shaped, PyData.canLay0, PyData.canLayAll0, PyData.depth, PyData.depthAll], by simp [SeqAt.shaped, PyData.canLay0, PyData.canLayAll0, PyData.depth, PyData.depthAll], ?_⟩
  rw [PyData.eqv, PyData.eqvAll]
  exact q
theorem r_nP {p : Prop} [Decidable p] {A B : Prop} (h : ¬ p) (q : A) : if (!decide p) = true then A else B := by
  rw [if_pos (by simp [h])]; exact q
theorem fresh_back {t f : Addr} {H H' : Hp} (s : Stp (some t) H H') (n : f ≠ t) (e : H' f = none) : H f = none := by
  cases z : H f with
  | none => rfl
  | some o =>
    exfalso
    have := s.ge f o (fun e => absurd (Option.some.inj e).symm n) z
    rw [e] at this; cases this
theorem NA.put {C f : Addr} {xs ys : List V} {a b c : Int} (h : NA C H v a b c) (e : H f = some (.lst xs)) : NA C (upd H f (.lst ys)) v a b c := by
  obtain ⟨n, p, dx, u, rfl, h1, h2⟩ := h
  exact ⟨n, p, dx, u, rfl, by rw [upd_ne (by rintro rfl; rw [e] at h1; cases h1)]; exact h1, h2.put e⟩
theorem IT_ne {v : V} {ns : List Int} (h : IT H v ns) : v ≠ .non := by
  obtain ⟨p, rfl, _⟩ := h
  intro z
  cases z
def sp_law (K : PySem.W.Frag) : Sp := fun vs H Q _ => ∃ (l : Addr) (ns : List Int), vs = [.ref l] ∧ SqL K H l (ns.map V.int) ∧ ∀ H', Q (.bl true) H'
theorem sp_start (K : PySem.W.Frag) (H : Hp) (a : Addr) (ns : List Int) (hl : ns.length ≤ 63) (hS : SqL K H a (ns.map V.int)) : sp_law K [.ref a] H (fun v _ => v = .bl true) fun _ _ _ => False :=
  ⟨a, ns, rfl, hS, fun _ => rfl⟩
theorem ok_law (T : Txt w K mg ad) : FnG P w K mg base CX0 7 ad.law ad.law_d P_law (sp_law K) := by
  have G_Net_of := ok_Net_of (P := P) (w := w) (base := base) T
  have G_Net_whole := ok_Net_whole (P := P) (w := w) (base := base) T
  have G_Net_numbers := ok_Net_numbers (P := P) (w := w) (base := base) T
  have G_Net_contains := ok_Net_contains (P := P) (w := w) (base := base) T
  have G_Net_eq := ok_Net_eq (P := P) (w := w) (base := base) T
  have G_law_tape := ok_law_tape (P := P) (w := w) (base := base) T
  have G_law_draw := ok_law_draw (P := P) (w := w) (base := base) T
  have G_law_place := ok_law_place (P := P) (w := w) (base := base) T
  have G_law_net_of := ok_law_net_of (P := P) (w := w) (base := base) T
  have G_law_shifts := ok_law_shifts (P := P) (w := w) (base := base) T
  have G_law_of := ok_law_of (P := P) (w := w) (base := base) T
  refine Fun.gn T.F_law sc_law (fun vs H Q E h => ?_) (fun cdv A outer s H vs Q E hr hg h => ?_)
  · obtain ⟨l, ns, rfl, _⟩ := h
    rfl
  · obtain ⟨l, ns, rfl, hS, q⟩ := h
    refine ⟨_, (pss_cons (ps_set (i := 1) sc_law.nd rfl (Or.inl rfl) (peg_call G_law_tape (hr.mono (by decide)) hg (by rfl) T.g_law_tape T.F_law_tape.kp T.b_law_tape .nil pass0 (pa_cons (pv 0) pa_nil)))
      (pss_cons (ps_for PassesOwn.never rfl (pi_range1 rfl T.z_range (pa_cons pe_int pa_nil)) (pg_name (i := 2) sc_law.nd rfl (Or.inl rfl))
      (pss_cons (ps_set (i := 3) sc_law.nd rfl (Or.inl rfl) (peg_call G_law_shifts (hr.mono (by decide)) hg (by rfl) T.g_law_shifts T.F_law_shifts.kp T.b_law_shifts .nil pass0 (pa_cons (pv 1) pa_nil)))
      (pss_cut (ps_if (pt_cmpR op_notN (peg_call G_law_net_of (hr.mono (by decide)) hg (by rfl) T.g_law_net_of T.F_law_net_of.kp T.b_law_net_of .nil pass0 (pa_cons (pe_slice sl_list (pv 3) po_none (po_some pe_int)) pa_nil)) pe_non (nomark _))
      (pss_cons (ps_set (i := 4) sc_law.nd rfl (Or.inr rfl) (peg_call G_law_of (hr.mono (by decide)) hg (by rfl) T.g_law_of T.F_law_of.kp T.b_law_of .nil pass0 (pa_cons (pv 3) pa_nil)))
      (pss_cons (ps_if (PW.pt (pw_or (pt_cmpR (op_neD hr.units) (peg_prop (pv 4) T.cl_Net T.p_Net_numbers G_Net_numbers (hr.mono (by decide)) hg T.b_Net_numbers .nil pass0) (peg_call G_law_net_of (hr.mono (by decide)) hg (by rfl) T.g_law_net_of T.F_law_net_of.kp T.b_law_net_of .nil pass0 (pa_cons (pv 3) pa_nil)) (nomark _)) (pw_or1 (pt_cmpR (op_neD hr.units) (pe_lc (own := [("_law_one", 9)]) (g := gName 9)  rfl sc_law.nd (pi_list (pv 3)) (blkOk_by (own := [("_law_one", 9)]) (N := N_law) (sc := defScope s_law) (by decide +kernel)) (fun _ _ _ _ _ => (pg_name (i := 9) sc_law.nd rfl (Or.inl rfl))) (fun _ _ _ _ _ => (pts_one (pt_cmpR (opg_notIn T.h_Net G_Net_contains (hr.mono (by decide)) hg T.b_Net_contains pass0) (pv 9) (pv 4) (by rfl)))) (fun _ _ _ _ _ => (pv 9)) ) (pe_lst pa_nil) (nomark _)))))
      (pss_one (ps_ret pe_bl)) pss_nil)
      (pss_cons (ps_asg (peg_prop (pv 4) T.cl_Net T.p_Net_numbers G_Net_numbers (hr.mono (by decide)) hg T.b_Net_numbers .nil pass0) (pg_tup (n := 3) rfl (pgs_cons (pg_name (i := 5) sc_law.nd rfl (Or.inl rfl)) (pgs_cons (pg_name (i := 6) sc_law.nd rfl (Or.inl rfl)) (pgs_cons (pg_name (i := 7) sc_law.nd rfl (Or.inl rfl)) pgs_nil)))))
      (pss_cons (ps_set (i := 8) sc_law.nd rfl (Or.inl rfl) (peg_smethR (pe_glob (v := V.ref ad.C_Net) rfl T.g_Net rfl) T.sm_Net_of G_Net_of (hr.mono (by decide)) hg pass0 (pa_cons (pe_tup (pa_cons (pe_op op_add (pe_op op_mulW (pv 5) pe_int) (pv 6)) (pa_cons (pv 7) pa_nil))) (pa_cons (pe_tup (pa_cons (pe_op op_sub pe_int (pv 6)) (pa_cons (pe_op op_sub pe_int (pv 7)) pa_nil))) (pa_cons (pe_tup (pa_cons (pv 5) (pa_cons pe_int pa_nil))) (pa_cons (pe_tup (pa_cons pe_int (pa_cons pe_int pa_nil))) pa_nil))))))
      (pss_one (ps_if (PW.pt (pw_or (pt_cmpR (opg_ne T.e_Net G_Net_eq (hr.mono (by decide)) hg T.b_Net_eq pass0) (pv 4) (peg_smethR (pe_glob (v := V.ref ad.C_Net) rfl T.g_Net rfl) T.sm_Net_of G_Net_of (hr.mono (by decide)) hg pass0 (pa_cons (pe_tup (pa_cons (pv 6) (pa_cons (pv 7) pa_nil))) (pa_cons (pe_tup (pa_cons (pv 5) (pa_cons pe_int pa_nil))) pa_nil))) (nomark _)) (pw_or1 (pt_cmpR (opg_ne T.e_Net G_Net_eq (hr.mono (by decide)) hg T.b_Net_eq pass0) (pv 4) (pv 8) (nomark _)))))
      (pss_one (ps_ret pe_bl)) pss_nil)))))) pss_nil)
      (pss_cons (ps_par (i := 9) (j := 10) rfl sc_law.nd rfl rfl (by decide) rfl rfl (pa_cons (pe_ix ix_seq (pv 3) pe_int (fun _ _ => rfl)) (pa_cons (pe_ix ix_seq (pv 3) pe_int (fun _ _ => rfl)) pa_nil)) rfl)
      (pss_cons (ps_par (i := 11) (j := 12) rfl sc_law.nd rfl rfl (by decide) rfl rfl (pa_cons (peg_call G_law_place (hr.mono (by decide)) hg (by rfl) T.g_law_place T.F_law_place.kp T.b_law_place .nil pass0 (pa_cons (pv 1) pa_nil)) (pa_cons (pe_tup (pa_cons (peg_call G_law_draw (hr.mono (by decide)) hg (by rfl) T.g_law_draw T.F_law_draw.kp T.b_law_draw .nil pass0 (pa_cons (pv 1) (pa_cons pe_int pa_nil))) (pa_cons (peg_call G_law_draw (hr.mono (by decide)) hg (by rfl) T.g_law_draw T.F_law_draw.kp T.b_law_draw .nil pass0 (pa_cons (pv 1) (pa_cons pe_int pa_nil))) pa_nil))) pa_nil)) rfl)
      (pss_cons (ps_set (i := 13) sc_law.nd rfl (Or.inl rfl) (peg_call G_law_net_of (hr.mono (by decide)) hg (by rfl) T.g_law_net_of T.F_law_net_of.kp T.b_law_net_of .nil pass0 (pa_cons (pe_lst (pa_cons (pv 9) (pa_cons (pv 10) (pa_cons (pv 11) (pa_cons (pv 12) pa_nil))))) pa_nil)))
      (pss_one (ps_if (pt_cmpR op_notN (pv 13) pe_non (nomark _))
      (pss_cons (ps_set (i := 14) sc_law.nd rfl (Or.inl rfl) (pe_lst (pa_cons (pe_tup (pa_cons (pe_op op_sub pe_int (pe_ix ix_seq (pv 10) pe_int (fun _ _ => rfl))) (pa_cons (pe_op op_sub pe_int (pe_ix ix_seq (pv 10) pe_int (fun _ _ => rfl))) pa_nil))) (pa_cons (pe_tup (pa_cons (pe_op op_add (pe_ix ix_seq (pv 9) pe_int (fun _ _ => rfl)) (pe_ix ix_seq (pv 11) pe_int (fun _ _ => rfl))) (pa_cons (pe_op op_add (pe_ix ix_seq (pv 9) pe_int (fun _ _ => rfl)) (pe_ix ix_seq (pv 11) pe_int (fun _ _ => rfl))) pa_nil))) pa_nil))))
      (pss_cons (ps_set (i := 15) sc_law.nd rfl (Or.inl rfl) (pe_lst (pa_cons (peg_smethR (pe_glob (v := V.ref ad.C_Net) rfl T.g_Net rfl) T.sm_Net_of G_Net_of (hr.mono (by decide)) hg pass0 (pa_cons (pv 9) (pa_cons (pv 10) (pa_cons (pv 11) (pa_cons (pv 12) pa_nil))))) (pa_cons (peg_smethR (pe_glob (v := V.ref ad.C_Net) rfl T.g_Net rfl) T.sm_Net_of G_Net_of (hr.mono (by decide)) hg pass0 (pa_cons (pv 12) (pa_cons (pv 11) (pa_cons (pv 10) (pa_cons (pv 9) pa_nil))))) pa_nil))))
      (pss_cons (ps_expr (pe_bm PySem.F.plainAttrs_list PySem.F.slot_list_append PySem.F.type_list_append mt_append (pv 15) (pa_cons (peg_smethR (pe_glob (v := V.ref ad.C_Net) rfl T.g_Net rfl) T.sm_Net_of G_Net_of (hr.mono (by decide)) hg pass0 (pa_cons (pv 11) (pa_cons (pe_ix ix_seq (pv 14) pe_int (fun _ _ => rfl)) (pa_cons (pv 12) (pa_cons (pe_ix ix_seq (pv 14) pe_int (fun _ _ => rfl)) (pa_cons (pv 11) pa_nil)))))) pa_nil)))
      (pss_one (ps_if (pt_cmpR (op_neD hr.units) (pe_lc (own := [("_law_made", 4)]) (g := gName 4) (tt := tYes) rfl sc_law.nd (pi_list (pv 15)) (blkOk_by (own := [("_law_made", 4)]) (N := N_law) (sc := defScope s_law) (by decide +kernel)) (fun _ _ _ _ _ => (pg_name (i := 4) sc_law.nd rfl (Or.inl rfl))) (fun _ _ _ _ _ => pts_nil) (fun _ _ _ _ _ => (peg_prop (pv 4) T.cl_Net T.p_Net_numbers G_Net_numbers (hr.mono (by decide)) hg T.b_Net_numbers .nil pass0)) ) (pe_lst (pa_cons (pv 13) (pa_cons (pv 13) (pa_cons (pv 13) pa_nil)))) (nomark _))
      (pss_one (ps_ret pe_bl)) pss_nil))))) pss_nil))))))))
      (pss_one (ps_ret (pe_cmpR (opg_eq T.e_Net G_Net_eq (hr.mono (by decide)) hg T.b_Net_eq pass0) (peg_smethR (pe_glob (v := V.ref ad.C_Net) rfl T.g_Net rfl) T.sm_Net_of G_Net_of (hr.mono (by decide)) hg pass0 (pa_cons (pe_tup (pa_cons pe_int (pa_cons pe_int pa_nil))) (pa_cons (pe_tup (pa_cons pe_int (pa_cons pe_int pa_nil))) pa_nil))) (peg_cmeth0 (pe_glob (v := V.ref ad.C_Net) rfl T.g_Net rfl) T.cr_Net_whole T.cm_Net_whole G_Net_whole (hr.mono (by decide)) hg T.b_Net_whole pass0) (nomark _)))))), ?_⟩
    walk_at "go"
    refine do_law_tape hS fun t H1 S1 nt T1 => ?_
    walk_at "go"
    refine ForR.ok ⟨4, fun i σ H' => ∃ b2 b3 b4 b5 b6 b7 b8 b9 b10 b11 b12 b13 b14 b15, σ = [some (.ref l), some (.ref t), b2, b3, b4, b5, b6, b7, b8, b9, b10, b11, b12, b13, b14, b15] ∧ Stp (some t) H1 H', rfl, by decide,
      ⟨none, none, none, none, none, none, none, none, none, none, none, none, none, none, rfl, Stp.refl _ _⟩, ?_, ?_⟩
    · rintro i σ H' hi ⟨b2, b3, b4, b5, b6, b7, b8, b9, b10, b11, b12, b13, b14, b15, rfl, s'⟩
      have TH : Tape H' t := T1.mvS s'
      walk_at "go"
      refine do_law_shifts TH fun p xs ss H2 S2 hp np hx hb l2 l6 => ?_
      have T2 : Tape H2 t := TH.mvS S2
      have npt : p ≠ t := tape_ne TH np
      obtain ⟨v0, v1, xr, s0, s1, sr, rfl, rfl, i0, i1, hxr⟩ := hx.two l2
      have c0 := hb s0 List.mem_cons_self
      have c1 := hb s1 (List.mem_cons_of_mem _ List.mem_cons_self)
      walk_at "go"
      refine r_cut (fun σ' H3 => ∃ a4 a5 a6 a7 a8, σ' = [some (.ref l), some (.ref t), some (.int i), some (.ref p), a4, a5, a6, a7, a8, b9, b10, b11, b12, b13, b14, b15] ∧ Stp none H2 H3) ?_ ?_
      · walk_at "go"
        refine r_slL (SqL.of hp) fun l1 H3 S3 h3 n3 => ?_
        rw [cut_to2] at h3
        walk_at "go"
        refine do_law_net_of (ss := [s0, s1]) (C := C7) (B := C7) h3 (.cons (i0.mv S3) (.cons (i1.mv S3) .nil)) (.cons c0.1 c0.2 (.cons c1.1 c1.2 .nil)) fb2 fun a b c hn => ⟨fun hd H4 S4 => ?_, fun ha hc z H4 S4 hz => ?_⟩
        · walk_at "go"
          refine ⟨rfl, ?_⟩
          walk_at "go"
          exact ⟨_, _, _, _, _, rfl, by walk_at "st"⟩
        · walk_at "go"
          refine ⟨rfl, ?_⟩
          walk_at "go"
          refine r_nP (IT_ne hz) ?_
          walk_at "go"
          have s4 : Stp none H2 H4 := S3.trans S4
          refine do_law_of (At.lst s4 hp) (hx.mv s4) hb l2 l6 (full_of hn ha hc fun _ _ h => h) fun z1 a1 b1 c1' H5 S5 hz1 n1 ba bc => ?_
          have nm := hz1.1
          have na : a1 ≠ 0 := by have := nm.a1; omega
          have nc : c1' ≠ 0 := by have := nm.c1; omega
          have s5 : Stp none H2 H5 := s4.trans S5
          have m0 := nm.b0
          have m1 := nm.ba
          have A8 := a2_big
          have bb : b1.natAbs ≤ A2 := by omega
          walk_at "go"
          rename_i u1 g1
          refine do_law_net_of (At.lst s5 hp) (hx.mv s5) hb (fb6 l6) fun a' b' c' hn' => ⟨fun hd H6 S6 => ?_, fun ha' hc' z2 H6 S6 hz2 => ?_⟩
          · obtain ⟨e1, e2, e3⟩ := n1.uniq hn' fun _ _ => Iff.rfl
            omega
          · have e := same3 (n1.uniq hn' fun _ _ => Iff.rfl) na
            rw [← e] at hz2
            walk_at "go"
            refine r_nX rfl ?_
            walk_at "go"
            have s6 : Stp none H2 H6 := s5.trans S6
            have hp6 := At.lst s6 hp
            have hx6 := hx.mv s6
            have hz6 := hz1.mv S6
            clear hz2 e g1
            refine lcl_ok hp6 fun D hD => ⟨fun i H' => (∀ b o, H6 b = some o → H' b = some o) ∧ H' D = some (.lst []), ⟨lc_keep hD, upd_same⟩, fun i H' _ pv => pv.1 _ _ hp6, fun i z H' hz pv => ?_, fun H' pv => ?_⟩
            · obtain ⟨s, es, iz⟩ := hx6.2 i z hz
              have st : Stp none H6 H' := Stp.of pv.1 none
              have bs := hb.at_ es
              walk_at "go"
              refine ⟨rfl, ?_⟩
              walk_at "go"
              have hin : InN a1 b1 c1' s.1 s.2 := (inN_Lp nc).mpr ((n1.sp _ _).mpr (SpL_mem (List.mem_of_getElem? es)))
              have c7 : (C7 : Nat) = 10 ^ 27 := rfl
              have nb := n1_big
              refine do_notIn (hz6.mv st) (iz.mv st) (by unfold Co; omega) (by unfold Co; omega) fun H7 S7 => ?_
              walk_at "go"
              exact ⟨fun b o e => S7.all _ _ (pv.1 _ _ e), At.lst S7 pv.2⟩
            · have st : Stp none H6 H' := Stp.of pv.1 none
              walk_at "go"
              refine r_newL (sz100 (Nat.le_of_ble_eq_true rfl)) fun p4 H8 S8 hp4 np4 => ?_
              refine empty_list (At.lst S8 pv.2) hp4 ?_
              have s8 : Stp none H2 H8 := (s6.trans st).trans S8
              have hz8 : NA ad.C_Net H8 z1 a1 b1 c1' := (hz6.mv st).mv S8
              clear st S8 hz6 hx6 hp6
              walk_at "go"
              refine r_mulW (mulN (by omega) (by omega) (by have := n1_big; omega) (by have := n1_big; omega)) ?_
              walk_at "go"
              rename_i w1 H9 S9 k1 w2 H10 S10 k2 w3 H11 S11 k3 w4 H12 S12 k4
              have k1' : IT H12 w1 [a1 * 7 + b1, c1'] := by walk_at "up"
              have k2' : IT H12 w2 [0 - b1, 0 - c1'] := by walk_at "up"
              have k3' : IT H12 w3 [a1, 0] := by walk_at "up"
              have hz12 : NA ad.C_Net H12 z1 a1 b1 c1' := by walk_at "up"
              have s12 : Stp none H2 H12 := by walk_at "st"
              have le4 : ∀ X Y, SpL (s0 :: s1 :: sr) X Y ↔ SpL [(a1 * 7 + b1, c1'), (0 - b1, 0 - c1'), (a1, 0), (0, 0)] X Y := fun X Y => (n1.sp X Y).symm.trans lp_four.symm
              have le2 : ∀ X Y, SpL (s0 :: s1 :: sr) X Y ↔ SpL [(b1, c1'), (a1, 0)] X Y := fun X Y => (n1.sp X Y).symm.trans lp_swap.symm
              clear k1 k2 k3 S9 S10 S11 S12 s8 hz8
              refine do_Net_of (ss := [(a1 * 7 + b1, c1'), (0 - b1, 0 - c1'), (a1, 0), (0, 0)]) (C := C7) (B := 8 * A2) (Nat.le_of_ble_eq_true rfl) (.cons (s := (a1 * 7 + b1, c1')) k1' (.cons (s := (0 - b1, 0 - c1')) k2' (.cons (s := (a1, 0)) k3' (.cons (s := (0, 0)) k4 .nil))))
                (.cons (by simp only []; omega) (by simp only []; omega) (.cons (by simp only []; omega) (by simp only []; omega) (.cons (by simp only []; omega) (Nat.zero_le _) (.cons (Nat.zero_le _) (Nat.zero_le _) .nil)))) fb4
                (full_of n1 na nc fun X Y h => (le4 X Y).mp h) fun z3 a3 b3 c3 H13 S13 hz3 nb3 => ?_
              have e3 := same3 (n1.uniq nb3.ns le4) na
              walk_at "go"
              rename_i w5 H14 S14 k5 w6 H15 S15 k6
              have k5' : IT H15 w5 [b1, c1'] := by walk_at "up"
              refine do_Net_of (ss := [(b1, c1'), (a1, 0)]) (C := C7) (B := 8 * A2) (Nat.le_of_ble_eq_true rfl) (.cons (s := (b1, c1')) k5' (.cons (s := (a1, 0)) k6 .nil)) (.cons (by simp only []; omega) (by simp only []; omega) (.cons (by simp only []; omega) (Nat.zero_le _) .nil)) fb2'
                (full_of n1 na nc fun X Y h => (le2 X Y).mp h) fun z4 a4 b4 c4 H16 S16 hz4 nb4 => ?_
              have e4 := same3 (n1.uniq nb4.ns le2) na
              refine do_ne T.i_Net T.cl_Net (a := a1) (b := b1) (c := c1') (by walk_at "up") hz4 ?_
              walk_at "go"
              refine do_ne T.i_Net T.cl_Net (a := a1) (b := b1) (c := c1') (d := a3) (e := b3) (f := c3) (by walk_at "up") (by walk_at "up") ?_
              walk_at "go"
              exact ⟨_, _, _, _, _, rfl, by walk_at "st"⟩
      · rintro σ' H3 ⟨a4, a5, a6, a7, a8, rfl, s3⟩
        have T3 : Tape H3 t := T2.mvN s3
        have hp3 := At.lst s3 hp
        have i03 := i0.mv s3
        have i13 := i1.mv s3
        have s23 : Stp (some t) H1 H3 := (s'.trans S2).trans s3.w
        clear hxr hx i0 i1 hp s3 S2 s' T2 TH
        walk_at "go"
        refine do_law_place T3 fun w2 px py H4 p1 p2 p3 p4 S4 j2 => ?_
        walk_at "go"
        walk_at "dr"
        intro d1 H5 d10 d11 S5
        walk_at "go"
        walk_at "dr"
        intro d2 H6 d20 d21 S6
        walk_at "go"
        rename_i w3 H7 S7 j3
        refine r_newL (sz100 (Nat.le_of_ble_eq_true rfl)) fun l8 H8 S8 hl8 nl8 => ?_
        have i08 : IT H8 v0 [s0.1, s0.2] := by walk_at "up"
        have i18 : IT H8 v1 [s1.1, s1.2] := by walk_at "up"
        have j28 : IT H8 w2 [px, py] := by walk_at "up"
        have j38 : IT H8 w3 [d1, d2] := by walk_at "up"
        have s8 : Stp (some t) H1 H8 := by walk_at "st"
        have c7 : (C7 : Nat) = 10 ^ 27 := rfl
        have c8 : (C8 : Nat) = 2 * 10 ^ 27 := rfl
        clear i03 i13 j2 j3 S4 S5 S6 S7 S8 s23 T3 hp3
        walk_at "go"
        refine do_law_net_of (ss := [s0, s1, (px, py), (d1, d2)]) (C := C8) (B := C8) hl8 (.cons i08 (.cons i18 (.cons (s := (px, py)) j28 (.cons (s := (d1, d2)) j38 .nil))))
          (.cons (by omega) (by omega) (.cons (by omega) (by omega) (.cons (by simp only []; omega) (by simp only []; omega) (.cons (by simp only []; omega) (by simp only []; omega) .nil)))) (fb5 (Nat.le_of_ble_eq_true rfl)) fun a b c hn => ⟨fun hd H9 S9 => ?_, fun ha hc z9 H9 S9 hz9 => ?_⟩
        · walk_at "go"
          refine ⟨rfl, ?_⟩
          walk_at "go"
          exact ⟨_, _, _, _, _, _, _, _, _, _, _, _, _, _, rfl, s8.trans S9.w⟩
        · walk_at "go"
          refine ⟨rfl, ?_⟩
          walk_at "go"
          refine r_nP (IT_ne hz9) ?_
          have i09 := i08.mv S9
          have i19 := i18.mv S9
          have j29 := j28.mv S9
          have j39 := j38.mv S9
          have s9 : Stp (some t) H1 H9 := s8.trans S9.w
          clear i08 i18 j28 j38 hl8 S9 s8
          have T9 : Tape H9 t := T1.mvS s9
          walk_at "go"
          rename_i q1 G1 R1 e1 q2 G2 R2 e2 ls G3 R3 hls nls
          have f1 : IT G3 q1 [0 - s1.1, 0 - s1.2] := by walk_at "up"
          have f2 : IT G3 q2 [s0.1 + px, s0.2 + py] := by walk_at "up"
          have i03 : IT G3 v0 [s0.1, s0.2] := by walk_at "up"
          have i13 : IT G3 v1 [s1.1, s1.2] := by walk_at "up"
          have j23 : IT G3 w2 [px, py] := by walk_at "up"
          have j33 : IT G3 w3 [d1, d2] := by walk_at "up"
          have z93 : IT G3 z9 [a, b, c] := by walk_at "up"
          have T3 : Tape G3 t := by walk_at "up"
          have sg : Stp (some t) H1 G3 := by walk_at "st"
          clear i09 i19 j29 j39 hz9 T9 s9 e1 e2 R1 R2 R3
          have F4 : Full [s0, s1, (px, py), (d1, d2)] := full_of hn ha hc fun _ _ h => h
          have bd4 : Bd C8 C8 [s0, s1, (px, py), (d1, d2)] := .cons (by omega) (by omega) (.cons (by omega) (by omega) (.cons (by simp only []; omega) (by simp only []; omega) (.cons (by simp only []; omega) (by simp only []; omega) .nil)))
          have bd4' : Bd C8 C8 [(d1, d2), (px, py), s1, s0] := fun u hu => bd4 u (by simp only [List.mem_cons, List.not_mem_nil, or_false] at hu ⊢; rcases hu with h | h | h | h <;> simp [h])
          have bd5 : Bd C8 C8 [(px, py), (0 - s1.1, 0 - s1.2), (d1, d2), (s0.1 + px, s0.2 + py), (px, py)] := .cons (by simp only []; omega) (by simp only []; omega) (.cons (by simp only []; omega) (by simp only []; omega) (.cons (by simp only []; omega) (by simp only []; omega) (.cons (by simp only []; omega) (by simp only []; omega) (.cons (by simp only []; omega) (by simp only []; omega) .nil))))
          have le5 : ∀ X Y, SpL [s0, s1, (px, py), (d1, d2)] X Y ↔ SpL [(px, py), (0 - s1.1, 0 - s1.2), (d1, d2), (s0.1 + px, s0.2 + py), (px, py)] X Y := fun X Y => spl_side X Y
          refine do_Net_of (ss := [s0, s1, (px, py), (d1, d2)]) (C := C8) (B := C8) (Nat.le_of_ble_eq_true rfl) (.cons i03 (.cons i13 (.cons (s := (px, py)) j23 (.cons (s := (d1, d2)) j33 .nil)))) bd4 (fb5 (Nat.le_of_ble_eq_true rfl)) F4 fun y1 a1 b1 c1' G4 R4 h1 nb1 => ?_
          have k1 : [a1, b1, c1'] = [a, b, c] := (same3 (hn.uniq nb1.ns fun _ _ => Iff.rfl) ha).symm
          walk_at "go"
          refine do_Net_of (ss := [(d1, d2), (px, py), s1, s0]) (C := C8) (B := C8) (Nat.le_of_ble_eq_true rfl) (.cons (s := (d1, d2)) (by walk_at "up") (.cons (s := (px, py)) (by walk_at "up") (.cons (by walk_at "up") (.cons (by walk_at "up") .nil)))) bd4' (fb5 (Nat.le_of_ble_eq_true rfl)) (full_of hn ha hc fun X Y h => (spl_rev X Y).mp h) fun y2 a2 b2 c2 G5 R5 h2 nb2 => ?_
          have k2 : [a2, b2, c2] = [a, b, c] := (same3 (hn.uniq nb2.ns spl_rev) ha).symm
          walk_at "go"
          rename_i lt G6 R6 hlt nlt
          refine ⟨.inl ⟨rfl, _, SqL.of hlt⟩, ?_⟩
          walk_at "go"
          refine do_Net_of (ss := [(px, py), (0 - s1.1, 0 - s1.2), (d1, d2), (s0.1 + px, s0.2 + py), (px, py)]) (C := C8) (B := C8) (Nat.le_of_ble_eq_true rfl) (.cons (s := (px, py)) (by walk_at "up") (.cons (s := (0 - s1.1, 0 - s1.2)) (by walk_at "up") (.cons (s := (d1, d2)) (by walk_at "up") (.cons (s := (s0.1 + px, s0.2 + py)) (by walk_at "up") (.cons (s := (px, py)) (by walk_at "up") .nil))))) bd5 (fb5 (Nat.le_of_ble_eq_true rfl))
            (full_of hn ha hc fun X Y h => (le5 X Y).mp h) fun y3 a3 b3 c3 G7 R7 h3 nb3 => ?_
          have k3 : [a3, b3, c3] = [a, b, c] := (same3 (hn.uniq nb3.ns le5) ha).symm
          have hlt7 : G7 lt = some (.lst [y1, y2]) := At.lst R7 hlt
          walk_at "go"
          refine r_app hlt7 (show (2 : Nat) < sizeLine by decide) ?_
          have m1 : NA ad.C_Net G7 y1 a1 b1 c1' := by walk_at "up"
          have m2 : NA ad.C_Net G7 y2 a2 b2 c2 := by walk_at "up"
          have m9 : IT G7 z9 [a, b, c] := by walk_at "up"
          have T5 : Tape G5 t := by walk_at "up"
          have n1 : lt ≠ t := tape_ne T5 nlt
          have s5 : Stp (some t) H1 G5 := by walk_at "st"
          have nl : H1 lt = none := fresh_back s5 n1 nlt
          have s7 : Stp (some t) H1 G7 := s5.trans (R6.trans R7).w
          have sF := s7.put (o := .lst ([y1, y2] ++ [y3])) nl
          have g1 := m1.put (ys := [y1, y2] ++ [y3]) hlt7
          have g2 := m2.put (ys := [y1, y2] ++ [y3]) hlt7
          have g3 := h3.put (ys := [y1, y2] ++ [y3]) hlt7
          have g9 := m9.put (ys := [y1, y2] ++ [y3]) hlt7
          have hF : upd G7 lt (.lst ([y1, y2] ++ [y3])) lt = some (.lst [y1, y2, y3]) := upd_same
          generalize upd G7 lt (.lst ([y1, y2] ++ [y3])) = G8 at sF g1 g2 g3 g9 hF ⊢
          clear m1 m2 m9 T5 s5 s7 h1 h2 h3 hlt hlt7 R4 R5 R6 R7 f1 f2 i03 i13 j23 j33 z93 T3 sg hls bd4 bd4' bd5 le5 F4
          walk_at "go"
          refine lcl_ok hF fun D hD => ⟨fun i H' => (∀ b o, G8 b = some o → H' b = some o) ∧ ∃ zs, H' D = some (.lst zs) ∧ zs.length = i ∧ ∀ (j : Nat) (z : V), zs[j]? = some z → IT H' z [a, b, c], ⟨lc_keep hD, [], upd_same, rfl, fun j z h => by cases h⟩, fun i H' _ pv => pv.1 _ _ hF, fun i z H' hz pv => ?_, fun H' pv => ?_⟩
          · obtain ⟨pk, zs, pz, pl, pi⟩ := pv
            have st : Stp none G8 H' := Stp.of pk none
            suffices go : ∃ a' b' c', NA ad.C_Net H' z a' b' c' ∧ [a', b', c'] = [a, b, c] by
              obtain ⟨a', b', c', gz, ge⟩ := go
              walk_at "go"
              refine ⟨rfl, ?_⟩
              walk_at "go"
              rename_i u gu
              rw [ge] at gu
              refine ⟨zs, pz, Nat.lt_of_lt_of_le (show zs.length < 100 by have := (List.getElem?_eq_some_iff.mp hz).1; simp only [List.length_cons, List.length_nil] at this; omega) (by decide), fun b o e => ?_, zs ++ [u], upd_same, by rw [List.length_append, pl]; rfl, fun j x hx => ?_⟩
              · rw [upd_ne (ne_of_none e hD)]
                exact pk _ _ e
              · by_cases hj : j < zs.length
                · rw [List.getElem?_append_left hj] at hx
                  exact (pi j x hx).put pz
                · rw [List.getElem?_append_right (by omega)] at hx
                  obtain ⟨h0, hx⟩ := List.getElem?_eq_some_iff.mp hx
                  have h0' : j - zs.length = 0 := by simp only [List.length_cons, List.length_nil] at h0; omega
                  simp only [h0', List.getElem_cons_zero] at hx
                  subst hx
                  exact gu.put pz
            match i, hz with
            | 0, hz => cases hz; exact ⟨_, _, _, g1.mv st, k1⟩
            | 1, hz => cases hz; exact ⟨_, _, _, g2.mv st, k2⟩
            | 2, hz => cases hz; exact ⟨_, _, _, g3.mv st, k3⟩
          · obtain ⟨pk, zs, pz, pl, pi⟩ := pv
            have st : Stp none G8 H' := Stp.of pk none
            match zs, pl, pz, pi with
            | [x1, x2, x3], _, pz, pi =>
              have u1 := pi 0 x1 rfl
              have u2 := pi 1 x2 rfl
              have u3 := pi 2 x3 rfl
              have u9 := g9.mv st
              walk_at "go"
              rename_i lr G9 R9 hlr nlr
              refine ⟨.list [d3 a b c, d3 a b c, d3 a b c], .list [d3 a b c, d3 a b c, d3 a b c], .lst (SqL.of (At.lst R9 pz)) (.cons ((u1.mv R9).k (K := K)).dp (.cons ((u2.mv R9).k (K := K)).dp (.cons ((u3.mv R9).k (K := K)).dp .nil))),
                .lst (SqL.of hlr) (.cons ((u9.mv R9).k (K := K)).dp (.cons ((u9.mv R9).k (K := K)).dp (.cons ((u9.mv R9).k (K := K)).dp .nil))), shaped_3, shaped_3, ?_⟩
              rw [eqv_3]
              walk_at "go"
              exact ⟨_, _, _, _, _, _, _, _, _, _, _, _, _, _, rfl, sF.trans (st.trans R9).w⟩
    · rintro σ H' ⟨b2, b3, b4, b5, b6, b7, b8, b9, b10, b11, b12, b13, b14, b15, rfl, s'⟩
      walk_at "go"
      rename_i w1 H2 S2 e1 w2 H3 S3 e2
      refine do_Net_of (ss := [(0, 1), (1, 0)]) (C := 1) (B := 1) (Nat.le_of_ble_eq_true rfl) (.cons (s := (0, 1)) (e1.mv S3) (.cons (s := (1, 0)) e2 .nil)) (.cons (by decide) (by decide) (.cons (by decide) (by decide) .nil)) fb1 (full_of nfs_1 (by decide) (by decide) fun _ _ h => h) fun z a b c H4 S4 hz nb => ?_
      have e := same3 (nfs_1.uniq nb.ns fun _ _ => Iff.rfl) (by decide)
      walk_at "go"
      refine do_whole fun z2 H5 S5 h5 => ?_
      refine do_eq T.i_Net T.cl_Net (hz.mv S5) h5 ?_
      rw [← e, decide_eq_true rfl]
      exact q _
end
local macro_rules | `(tactic| walk_at "mv_vals") => `(tactic| repeat first | exact Paired.nil | refine Paired.cons ?_ ?_ | exact rfl | exact ⟨_, rfl⟩)
local macro_rules | `(tactic| walk_at "mv_kt") => `(tactic| (refine' MV.kt_mk ?h ?z ?v; (case h => k_is); (case z => decide +kernel); (case v => walk_at "mv_vals")))
local macro_rules | `(tactic| walk_at "mv_lit") => `(tactic| repeat first | exact True.intro | refine ⟨⟨_, _, rfl, rfl⟩, ?_⟩)
local macro_rules | `(tactic| walk_at "mv_kd") => `(tactic| (refine' MV.kd_mk ?h ?l ?n ?v; (case h => k_is); (case n => k_is); (case l => walk_at "mv_lit"); (case v => first | exact rfl | exact ⟨_, rfl⟩)))
local macro_rules | `(tactic| walk_at "mv_kk") => `(tactic| (refine' MV.kk_mk ?h ?n ?v; (case h => k_is); (case n => decide +kernel); (case v => walk_at "mv_vals")))
local macro_rules | `(tactic| walk_at "mv_bind") => `(tactic| (refine ⟨?k, ?h, ?g⟩; (case h => (unfold bindArgs; dsimp only; rw [List.forIn_nil, pure_bind])); (case g => exact rfl)))
theorem all_mk {w : World} {K : PySem.W.Frag} {h : Heap} {mg : Str → Option Value} {fa : Addr} (X : K.In h) (G : h.Ns mainGlobals mg) (hfa : mg "law" = some (.ref fa))
    {C_Net : Addr}
    {is_integer : Addr} {od_is_integer an_is_integer : Option Addr} {sl_is_integer : Array (Option Value)} {oc_is_integer kV_is_integer dc_is_integer pm_is_integer cd_is_integer ct_is_integer : Value}
    {is_place : Addr} {od_is_place an_is_place : Option Addr} {sl_is_place : Array (Option Value)} {oc_is_place kV_is_place dc_is_place pm_is_place cd_is_place ct_is_place : Value}
    {check_place : Addr} {od_check_place an_check_place : Option Addr} {sl_check_place : Array (Option Value)} {oc_check_place kV_check_place dc_check_place pm_check_place cd_check_place ct_check_place : Value}
    {are_numbers : Addr} {od_are_numbers an_are_numbers : Option Addr} {sl_are_numbers : Array (Option Value)} {oc_are_numbers kV_are_numbers dc_are_numbers pm_are_numbers cd_are_numbers ct_are_numbers : Value}
    {two_shifts : Addr} {od_two_shifts an_two_shifts : Option Addr} {sl_two_shifts : Array (Option Value)} {oc_two_shifts kV_two_shifts dc_two_shifts pm_two_shifts cd_two_shifts ct_two_shifts : Value}
    {with_shift : Addr} {od_with_shift an_with_shift : Option Addr} {sl_with_shift : Array (Option Value)} {oc_with_shift kV_with_shift dc_with_shift pm_with_shift cd_with_shift ct_with_shift : Value}
    {spanned : Addr} {od_spanned an_spanned : Option Addr} {sl_spanned : Array (Option Value)} {oc_spanned kV_spanned dc_spanned pm_spanned cd_spanned ct_spanned : Value}
    {Net_init : Addr} {od_Net_init an_Net_init : Option Addr} {sl_Net_init : Array (Option Value)} {oc_Net_init kV_Net_init dc_Net_init pm_Net_init cd_Net_init ct_Net_init : Value}
    {Net_of : Addr} {od_Net_of an_Net_of : Option Addr} {sl_Net_of : Array (Option Value)} {oc_Net_of kV_Net_of dc_Net_of pm_Net_of cd_Net_of ct_Net_of : Value}
    {p_Net_of : Addr} {r_Net_of : List Value}
    {Net_whole : Addr} {od_Net_whole an_Net_whole : Option Addr} {sl_Net_whole : Array (Option Value)} {oc_Net_whole kV_Net_whole dc_Net_whole pm_Net_whole cd_Net_whole ct_Net_whole : Value}
    {p_Net_whole : Addr} {r_Net_whole : List Value}
    {Net_numbers : Addr} {od_Net_numbers an_Net_numbers : Option Addr} {sl_Net_numbers : Array (Option Value)} {oc_Net_numbers kV_Net_numbers dc_Net_numbers pm_Net_numbers cd_Net_numbers ct_Net_numbers : Value}
    {p_Net_numbers : Addr} {r_Net_numbers : List Value}
    {Net_size : Addr} {od_Net_size an_Net_size : Option Addr} {sl_Net_size : Array (Option Value)} {oc_Net_size kV_Net_size dc_Net_size pm_Net_size cd_Net_size ct_Net_size : Value}
    {p_Net_size : Addr} {r_Net_size : List Value}
    {Net_contains : Addr} {od_Net_contains an_Net_contains : Option Addr} {sl_Net_contains : Array (Option Value)} {oc_Net_contains kV_Net_contains dc_Net_contains pm_Net_contains cd_Net_contains ct_Net_contains : Value}
    {home : Addr} {od_home an_home : Option Addr} {sl_home : Array (Option Value)} {oc_home kV_home dc_home pm_home cd_home ct_home : Value}
    {Net_reduced : Addr} {od_Net_reduced an_Net_reduced : Option Addr} {sl_Net_reduced : Array (Option Value)} {oc_Net_reduced kV_Net_reduced dc_Net_reduced pm_Net_reduced cd_Net_reduced ct_Net_reduced : Value}
    {Net_eq : Addr} {od_Net_eq an_Net_eq : Option Addr} {sl_Net_eq : Array (Option Value)} {oc_Net_eq kV_Net_eq dc_Net_eq pm_Net_eq cd_Net_eq ct_Net_eq : Value}
    {law_tape : Addr} {od_law_tape an_law_tape : Option Addr} {sl_law_tape : Array (Option Value)} {oc_law_tape kV_law_tape dc_law_tape pm_law_tape cd_law_tape ct_law_tape : Value}
    {law_draw : Addr} {od_law_draw an_law_draw : Option Addr} {sl_law_draw : Array (Option Value)} {oc_law_draw kV_law_draw dc_law_draw pm_law_draw cd_law_draw ct_law_draw : Value}
    {law_great : Addr} {od_law_great an_law_great : Option Addr} {sl_law_great : Array (Option Value)} {oc_law_great kV_law_great dc_law_great pm_law_great cd_law_great ct_law_great : Value}
    {law_place : Addr} {od_law_place an_law_place : Option Addr} {sl_law_place : Array (Option Value)} {oc_law_place kV_law_place dc_law_place pm_law_place cd_law_place ct_law_place : Value}
    {law_net : Addr} {od_law_net an_law_net : Option Addr} {sl_law_net : Array (Option Value)} {oc_law_net kV_law_net dc_law_net pm_law_net cd_law_net ct_law_net : Value}
    {law_divisor : Addr} {od_law_divisor an_law_divisor : Option Addr} {sl_law_divisor : Array (Option Value)} {oc_law_divisor kV_law_divisor dc_law_divisor pm_law_divisor cd_law_divisor ct_law_divisor : Value}
    {law_net_of : Addr} {od_law_net_of an_law_net_of : Option Addr} {sl_law_net_of : Array (Option Value)} {oc_law_net_of kV_law_net_of dc_law_net_of pm_law_net_of cd_law_net_of ct_law_net_of : Value}
    {law_shifts : Addr} {od_law_shifts an_law_shifts : Option Addr} {sl_law_shifts : Array (Option Value)} {oc_law_shifts kV_law_shifts dc_law_shifts pm_law_shifts cd_law_shifts ct_law_shifts : Value}
    {law_of : Addr} {od_law_of an_law_of : Option Addr} {sl_law_of : Array (Option Value)} {oc_law_of kV_law_of dc_law_of pm_law_of cd_law_of ct_law_of : Value}
    {law : Addr} {od_law an_law : Option Addr} {sl_law : Array (Option Value)} {oc_law kV_law dc_law pm_law cd_law ct_law : Value}
    (a_Net : PySem.W.nsIn K mainGlobals "Net" = some (some (.ref C_Net)))
    (pg_Net : PySem.W.plainGet K C_Net Str.empty = true)
    (hd_Net : PySem.W.hasDictIn K C_Net = true)
    (po_Net : PySem.W.plainOver K C_Net = true)
    (sa_Net : PySem.W.findIn K (.ref C_Net) "__setattr__" = some (some (.builtin "object.__setattr__")))
    (mk_Net : PySem.W.makesIn K C_Net = true)
    (kc_Net : PySem.W.keepIn K (.ref C_Net) = true)
    (a_is_integer : PySem.W.nsIn K mainGlobals "is_integer" = some (some (.ref is_integer)))
    (l_is_integer : K.lookup is_integer = some ⟨oc_is_integer, od_is_integer, .func (PySem.W.fnOf "is_integer" "is_integer" (defArgs s_is_integer) (defBody s_is_integer) (defScope s_is_integer) .none kV_is_integer dc_is_integer pm_is_integer an_is_integer cd_is_integer ct_is_integer), sl_is_integer⟩)
    (c_is_integer : PySem.W.codeIn K cd_is_integer "is_integer" = true)
    (k_is_integer : PySem.W.keepIn K (.ref is_integer) = true)
    (a_is_place : PySem.W.nsIn K mainGlobals "is_place" = some (some (.ref is_place)))
    (l_is_place : K.lookup is_place = some ⟨oc_is_place, od_is_place, .func (PySem.W.fnOf "is_place" "is_place" (defArgs s_is_place) (defBody s_is_place) (defScope s_is_place) .none kV_is_place dc_is_place pm_is_place an_is_place cd_is_place ct_is_place), sl_is_place⟩)
    (c_is_place : PySem.W.codeIn K cd_is_place "is_place" = true)
    (k_is_place : PySem.W.keepIn K (.ref is_place) = true)
    (a_check_place : PySem.W.nsIn K mainGlobals "check_place" = some (some (.ref check_place)))
    (l_check_place : K.lookup check_place = some ⟨oc_check_place, od_check_place, .func (PySem.W.fnOf "check_place" "check_place" (defArgs s_check_place) (defBody s_check_place) (defScope s_check_place) .none kV_check_place dc_check_place pm_check_place an_check_place cd_check_place ct_check_place), sl_check_place⟩)
    (c_check_place : PySem.W.codeIn K cd_check_place "check_place" = true)
    (k_check_place : PySem.W.keepIn K (.ref check_place) = true)
    (a_are_numbers : PySem.W.nsIn K mainGlobals "are_numbers" = some (some (.ref are_numbers)))
    (l_are_numbers : K.lookup are_numbers = some ⟨oc_are_numbers, od_are_numbers, .func (PySem.W.fnOf "are_numbers" "are_numbers" (defArgs s_are_numbers) (defBody s_are_numbers) (defScope s_are_numbers) .none kV_are_numbers dc_are_numbers pm_are_numbers an_are_numbers cd_are_numbers ct_are_numbers), sl_are_numbers⟩)
    (c_are_numbers : PySem.W.codeIn K cd_are_numbers "are_numbers" = true)
    (k_are_numbers : PySem.W.keepIn K (.ref are_numbers) = true)
    (a_two_shifts : PySem.W.nsIn K mainGlobals "two_shifts" = some (some (.ref two_shifts)))
    (l_two_shifts : K.lookup two_shifts = some ⟨oc_two_shifts, od_two_shifts, .func (PySem.W.fnOf "two_shifts" "two_shifts" (defArgs s_two_shifts) (defBody s_two_shifts) (defScope s_two_shifts) .none kV_two_shifts dc_two_shifts pm_two_shifts an_two_shifts cd_two_shifts ct_two_shifts), sl_two_shifts⟩)
    (c_two_shifts : PySem.W.codeIn K cd_two_shifts "two_shifts" = true)
    (k_two_shifts : PySem.W.keepIn K (.ref two_shifts) = true)
    (a_with_shift : PySem.W.nsIn K mainGlobals "with_shift" = some (some (.ref with_shift)))
    (l_with_shift : K.lookup with_shift = some ⟨oc_with_shift, od_with_shift, .func (PySem.W.fnOf "with_shift" "with_shift" (defArgs s_with_shift) (defBody s_with_shift) (defScope s_with_shift) .none kV_with_shift dc_with_shift pm_with_shift an_with_shift cd_with_shift ct_with_shift), sl_with_shift⟩)
    (c_with_shift : PySem.W.codeIn K cd_with_shift "with_shift" = true)
    (k_with_shift : PySem.W.keepIn K (.ref with_shift) = true)
    (a_spanned : PySem.W.nsIn K mainGlobals "spanned" = some (some (.ref spanned)))
    (l_spanned : K.lookup spanned = some ⟨oc_spanned, od_spanned, .func (PySem.W.fnOf "spanned" "spanned" (defArgs s_spanned) (defBody s_spanned) (defScope s_spanned) .none kV_spanned dc_spanned pm_spanned an_spanned cd_spanned ct_spanned), sl_spanned⟩)
    (c_spanned : PySem.W.codeIn K cd_spanned "spanned" = true)
    (k_spanned : PySem.W.keepIn K (.ref spanned) = true)
    (a_Net_init : PySem.W.findIn K (.ref C_Net) "__init__" = some (some (.ref Net_init)))
    (i_Net_init : PySem.W.isFn K (.ref Net_init) = true)
    (l_Net_init : K.lookup Net_init = some ⟨oc_Net_init, od_Net_init, .func (PySem.W.fnOf "__init__" "Net.__init__" (defArgs s_Net_init) (defBody s_Net_init) (defScope s_Net_init) .none kV_Net_init dc_Net_init pm_Net_init an_Net_init cd_Net_init ct_Net_init), sl_Net_init⟩)
    (c_Net_init : PySem.W.codeIn K cd_Net_init "Net.__init__" = true)
    (k_Net_init : PySem.W.keepIn K (.ref Net_init) = true)
    (a_Net_of : PySem.W.findCls K (.ref C_Net) (.type "type") "of" = some (.get (.builtin "staticmethod.__get__") (.ref p_Net_of) .none (.ref C_Net)))
    (rc_Net_of : PySem.W.recIn K p_Net_of "staticmethod" = some (.ref Net_of :: r_Net_of))
    (rd_Net_of : PySem.W.readsIn K C_Net (.type "type") = true)
    (ga_Net_of : PySem.W.specialIn K (.ref C_Net) "__getattribute__" = some (some (.builtin "type.__getattribute__")))
    (l_Net_of : K.lookup Net_of = some ⟨oc_Net_of, od_Net_of, .func (PySem.W.fnOf "of" "Net.of" (defArgs s_Net_of) (defBody s_Net_of) (defScope s_Net_of) .none kV_Net_of dc_Net_of pm_Net_of an_Net_of cd_Net_of ct_Net_of), sl_Net_of⟩)
    (c_Net_of : PySem.W.codeIn K cd_Net_of "Net.of" = true)
    (k_Net_of : PySem.W.keepIn K (.ref Net_of) = true)
    (a_Net_whole : PySem.W.findCls K (.ref C_Net) (.type "type") "whole" = some (.get (.builtin "classmethod.__get__") (.ref p_Net_whole) .none (.ref C_Net)))
    (rc_Net_whole : PySem.W.recIn K p_Net_whole "classmethod" = some (.ref Net_whole :: r_Net_whole))
    (fi_Net_whole : PySem.W.fnIn K Net_whole = true)
    (rd_Net_whole : PySem.W.readsIn K C_Net (.type "type") = true)
    (ga_Net_whole : PySem.W.specialIn K (.ref C_Net) "__getattribute__" = some (some (.builtin "type.__getattribute__")))
    (l_Net_whole : K.lookup Net_whole = some ⟨oc_Net_whole, od_Net_whole, .func (PySem.W.fnOf "whole" "Net.whole" (defArgs s_Net_whole) (defBody s_Net_whole) (defScope s_Net_whole) .none kV_Net_whole dc_Net_whole pm_Net_whole an_Net_whole cd_Net_whole ct_Net_whole), sl_Net_whole⟩)
    (c_Net_whole : PySem.W.codeIn K cd_Net_whole "Net.whole" = true)
    (k_Net_whole : PySem.W.keepIn K (.ref Net_whole) = true)
    (a_Net_numbers : PySem.W.findIn K (.ref C_Net) "numbers" = some (some (.ref p_Net_numbers)))
    (g1_Net_numbers : PySem.W.specialIn K (.ref p_Net_numbers) "__get__" = some (some (.builtin "property.__get__")))
    (g2_Net_numbers : PySem.W.takesIn K (.ref p_Net_numbers) = some true)
    (g3_Net_numbers : PySem.W.recIn K p_Net_numbers "property" = some (.ref Net_numbers :: r_Net_numbers))
    (l_Net_numbers : K.lookup Net_numbers = some ⟨oc_Net_numbers, od_Net_numbers, .func (PySem.W.fnOf "numbers" "Net.numbers" (defArgs s_Net_numbers) (defBody s_Net_numbers) (defScope s_Net_numbers) .none kV_Net_numbers dc_Net_numbers pm_Net_numbers an_Net_numbers cd_Net_numbers ct_Net_numbers), sl_Net_numbers⟩)
    (c_Net_numbers : PySem.W.codeIn K cd_Net_numbers "Net.numbers" = true)
    (k_Net_numbers : PySem.W.keepIn K (.ref Net_numbers) = true)
    (a_Net_size : PySem.W.findIn K (.ref C_Net) "size" = some (some (.ref p_Net_size)))
    (g1_Net_size : PySem.W.specialIn K (.ref p_Net_size) "__get__" = some (some (.builtin "property.__get__")))
    (g2_Net_size : PySem.W.takesIn K (.ref p_Net_size) = some true)
    (g3_Net_size : PySem.W.recIn K p_Net_size "property" = some (.ref Net_size :: r_Net_size))
    (l_Net_size : K.lookup Net_size = some ⟨oc_Net_size, od_Net_size, .func (PySem.W.fnOf "size" "Net.size" (defArgs s_Net_size) (defBody s_Net_size) (defScope s_Net_size) .none kV_Net_size dc_Net_size pm_Net_size an_Net_size cd_Net_size ct_Net_size), sl_Net_size⟩)
    (c_Net_size : PySem.W.codeIn K cd_Net_size "Net.size" = true)
    (k_Net_size : PySem.W.keepIn K (.ref Net_size) = true)
    (a_Net_contains : PySem.W.findIn K (.ref C_Net) "__contains__" = some (some (.ref Net_contains)))
    (i_Net_contains : PySem.W.isFn K (.ref Net_contains) = true)
    (l_Net_contains : K.lookup Net_contains = some ⟨oc_Net_contains, od_Net_contains, .func (PySem.W.fnOf "__contains__" "Net.__contains__" (defArgs s_Net_contains) (defBody s_Net_contains) (defScope s_Net_contains) .none kV_Net_contains dc_Net_contains pm_Net_contains an_Net_contains cd_Net_contains ct_Net_contains), sl_Net_contains⟩)
    (c_Net_contains : PySem.W.codeIn K cd_Net_contains "Net.__contains__" = true)
    (k_Net_contains : PySem.W.keepIn K (.ref Net_contains) = true)
    (a_home : PySem.W.nsIn K mainGlobals "home" = some (some (.ref home)))
    (l_home : K.lookup home = some ⟨oc_home, od_home, .func (PySem.W.fnOf "home" "home" (defArgs s_home) (defBody s_home) (defScope s_home) .none kV_home dc_home pm_home an_home cd_home ct_home), sl_home⟩)
    (c_home : PySem.W.codeIn K cd_home "home" = true)
    (k_home : PySem.W.keepIn K (.ref home) = true)
    (a_Net_reduced : PySem.W.findIn K (.ref C_Net) "reduced" = some (some (.ref Net_reduced)))
    (i_Net_reduced : PySem.W.isFn K (.ref Net_reduced) = true)
    (l_Net_reduced : K.lookup Net_reduced = some ⟨oc_Net_reduced, od_Net_reduced, .func (PySem.W.fnOf "reduced" "Net.reduced" (defArgs s_Net_reduced) (defBody s_Net_reduced) (defScope s_Net_reduced) .none kV_Net_reduced dc_Net_reduced pm_Net_reduced an_Net_reduced cd_Net_reduced ct_Net_reduced), sl_Net_reduced⟩)
    (c_Net_reduced : PySem.W.codeIn K cd_Net_reduced "Net.reduced" = true)
    (k_Net_reduced : PySem.W.keepIn K (.ref Net_reduced) = true)
    (a_Net_eq : PySem.W.findIn K (.ref C_Net) "__eq__" = some (some (.ref Net_eq)))
    (i_Net_eq : PySem.W.isFn K (.ref Net_eq) = true)
    (ne_Net : PySem.W.findIn K (.ref C_Net) "__ne__" = some (some (.builtin "object.__ne__")))
    (ob_Net : PySem.W.subIn K (.ref C_Net) (.type "object") = some true)
    (l_Net_eq : K.lookup Net_eq = some ⟨oc_Net_eq, od_Net_eq, .func (PySem.W.fnOf "__eq__" "Net.__eq__" (defArgs s_Net_eq) (defBody s_Net_eq) (defScope s_Net_eq) .none kV_Net_eq dc_Net_eq pm_Net_eq an_Net_eq cd_Net_eq ct_Net_eq), sl_Net_eq⟩)
    (c_Net_eq : PySem.W.codeIn K cd_Net_eq "Net.__eq__" = true)
    (k_Net_eq : PySem.W.keepIn K (.ref Net_eq) = true)
    (a_law_tape : PySem.W.nsIn K mainGlobals "_law_tape" = some (some (.ref law_tape)))
    (l_law_tape : K.lookup law_tape = some ⟨oc_law_tape, od_law_tape, .func (PySem.W.fnOf "_law_tape" "_law_tape" (defArgs s_law_tape) (defBody s_law_tape) (defScope s_law_tape) .none kV_law_tape dc_law_tape pm_law_tape an_law_tape cd_law_tape ct_law_tape), sl_law_tape⟩)
    (c_law_tape : PySem.W.codeIn K cd_law_tape "_law_tape" = true)
    (k_law_tape : PySem.W.keepIn K (.ref law_tape) = true)
    (a_law_draw : PySem.W.nsIn K mainGlobals "_law_draw" = some (some (.ref law_draw)))
    (l_law_draw : K.lookup law_draw = some ⟨oc_law_draw, od_law_draw, .func (PySem.W.fnOf "_law_draw" "_law_draw" (defArgs s_law_draw) (defBody s_law_draw) (defScope s_law_draw) .none kV_law_draw dc_law_draw pm_law_draw an_law_draw cd_law_draw ct_law_draw), sl_law_draw⟩)
    (c_law_draw : PySem.W.codeIn K cd_law_draw "_law_draw" = true)
    (k_law_draw : PySem.W.keepIn K (.ref law_draw) = true)
    (a_law_great : PySem.W.nsIn K mainGlobals "_law_great" = some (some (.ref law_great)))
    (l_law_great : K.lookup law_great = some ⟨oc_law_great, od_law_great, .func (PySem.W.fnOf "_law_great" "_law_great" (defArgs s_law_great) (defBody s_law_great) (defScope s_law_great) .none kV_law_great dc_law_great pm_law_great an_law_great cd_law_great ct_law_great), sl_law_great⟩)
    (c_law_great : PySem.W.codeIn K cd_law_great "_law_great" = true)
    (k_law_great : PySem.W.keepIn K (.ref law_great) = true)
    (a_law_place : PySem.W.nsIn K mainGlobals "_law_place" = some (some (.ref law_place)))
    (l_law_place : K.lookup law_place = some ⟨oc_law_place, od_law_place, .func (PySem.W.fnOf "_law_place" "_law_place" (defArgs s_law_place) (defBody s_law_place) (defScope s_law_place) .none kV_law_place dc_law_place pm_law_place an_law_place cd_law_place ct_law_place), sl_law_place⟩)
    (c_law_place : PySem.W.codeIn K cd_law_place "_law_place" = true)
    (k_law_place : PySem.W.keepIn K (.ref law_place) = true)
    (a_law_net : PySem.W.nsIn K mainGlobals "_law_net" = some (some (.ref law_net)))
    (l_law_net : K.lookup law_net = some ⟨oc_law_net, od_law_net, .func (PySem.W.fnOf "_law_net" "_law_net" (defArgs s_law_net) (defBody s_law_net) (defScope s_law_net) .none kV_law_net dc_law_net pm_law_net an_law_net cd_law_net ct_law_net), sl_law_net⟩)
    (c_law_net : PySem.W.codeIn K cd_law_net "_law_net" = true)
    (k_law_net : PySem.W.keepIn K (.ref law_net) = true)
    (a_law_divisor : PySem.W.nsIn K mainGlobals "_law_divisor" = some (some (.ref law_divisor)))
    (l_law_divisor : K.lookup law_divisor = some ⟨oc_law_divisor, od_law_divisor, .func (PySem.W.fnOf "_law_divisor" "_law_divisor" (defArgs s_law_divisor) (defBody s_law_divisor) (defScope s_law_divisor) .none kV_law_divisor dc_law_divisor pm_law_divisor an_law_divisor cd_law_divisor ct_law_divisor), sl_law_divisor⟩)
    (c_law_divisor : PySem.W.codeIn K cd_law_divisor "_law_divisor" = true)
    (k_law_divisor : PySem.W.keepIn K (.ref law_divisor) = true)
    (a_law_net_of : PySem.W.nsIn K mainGlobals "_law_net_of" = some (some (.ref law_net_of)))
    (l_law_net_of : K.lookup law_net_of = some ⟨oc_law_net_of, od_law_net_of, .func (PySem.W.fnOf "_law_net_of" "_law_net_of" (defArgs s_law_net_of) (defBody s_law_net_of) (defScope s_law_net_of) .none kV_law_net_of dc_law_net_of pm_law_net_of an_law_net_of cd_law_net_of ct_law_net_of), sl_law_net_of⟩)
    (c_law_net_of : PySem.W.codeIn K cd_law_net_of "_law_net_of" = true)
    (k_law_net_of : PySem.W.keepIn K (.ref law_net_of) = true)
    (a_law_shifts : PySem.W.nsIn K mainGlobals "_law_shifts" = some (some (.ref law_shifts)))
    (l_law_shifts : K.lookup law_shifts = some ⟨oc_law_shifts, od_law_shifts, .func (PySem.W.fnOf "_law_shifts" "_law_shifts" (defArgs s_law_shifts) (defBody s_law_shifts) (defScope s_law_shifts) .none kV_law_shifts dc_law_shifts pm_law_shifts an_law_shifts cd_law_shifts ct_law_shifts), sl_law_shifts⟩)
    (c_law_shifts : PySem.W.codeIn K cd_law_shifts "_law_shifts" = true)
    (k_law_shifts : PySem.W.keepIn K (.ref law_shifts) = true)
    (a_law_of : PySem.W.nsIn K mainGlobals "_law_of" = some (some (.ref law_of)))
    (l_law_of : K.lookup law_of = some ⟨oc_law_of, od_law_of, .func (PySem.W.fnOf "_law_of" "_law_of" (defArgs s_law_of) (defBody s_law_of) (defScope s_law_of) .none kV_law_of dc_law_of pm_law_of an_law_of cd_law_of ct_law_of), sl_law_of⟩)
    (c_law_of : PySem.W.codeIn K cd_law_of "_law_of" = true)
    (k_law_of : PySem.W.keepIn K (.ref law_of) = true)
    (a_law : PySem.W.nsIn K mainGlobals "law" = some (some (.ref law)))
    (l_law : K.lookup law = some ⟨oc_law, od_law, .func (PySem.W.fnOf "law" "law" (defArgs s_law) (defBody s_law) (defScope s_law) .none kV_law dc_law pm_law an_law cd_law ct_law), sl_law⟩)
    (c_law : PySem.W.codeIn K cd_law "law" = true)
    (k_law : PySem.W.keepIn K (.ref law) = true)
    (z_abs : PySem.W.nsIn K mainGlobals "abs" = some none)
    (z_bool : PySem.W.nsIn K mainGlobals "bool" = some none)
    (z_int : PySem.W.nsIn K mainGlobals "int" = some none)
    (z_isinstance : PySem.W.nsIn K mainGlobals "isinstance" = some none)
    (z_len : PySem.W.nsIn K mainGlobals "len" = some none)
    (z_list : PySem.W.nsIn K mainGlobals "list" = some none)
    (z_range : PySem.W.nsIn K mainGlobals "range" = some none)
    (z_repr : PySem.W.nsIn K mainGlobals "repr" = some none)
    (z_tuple : PySem.W.nsIn K mainGlobals "tuple" = some none)
    (v_gcd : PySem.W.nsIn K mainGlobals "gcd" = some (some (.builtin "math.gcd")))
    (nn_Net : PySem.W.findIn K (.ref C_Net) "_numbers" = some none)
    (ic1 : PySem.W.findIn K (.ref C_Net) "__class__" = some (some (.builtin "object.__class__")))
    (ic2 : PySem.W.specialIn K (.builtin "object.__class__") "__get__" = some (some (.builtin "getset_descriptor.__get__")))
    (ic3 : PySem.W.takesIn K (.builtin "object.__class__") = some true)
    (ic4 : PySem.W.mroIn K C_Net (.type "object") = some true)
    : ∃ a : Ad, a.law = fa ∧ (∀ (s : Shared) (v : Value), BindsTo s a.law_d ⟨[v], []⟩ [("_law_script", v)]) ∧ Txt w K mg a := by
  have e := hfa.symm.trans (PySem.W.mg_of X G a_law)
  cases e
  refine ⟨{ C_Net := C_Net, is_integer := is_integer, is_integer_d := PySem.W.fnOf "is_integer" "is_integer" (defArgs s_is_integer) (defBody s_is_integer) (defScope s_is_integer) .none kV_is_integer dc_is_integer pm_is_integer an_is_integer cd_is_integer ct_is_integer, is_place := is_place, is_place_d := PySem.W.fnOf "is_place" "is_place" (defArgs s_is_place) (defBody s_is_place) (defScope s_is_place) .none kV_is_place dc_is_place pm_is_place an_is_place cd_is_place ct_is_place, check_place := check_place, check_place_d := PySem.W.fnOf "check_place" "check_place" (defArgs s_check_place) (defBody s_check_place) (defScope s_check_place) .none kV_check_place dc_check_place pm_check_place an_check_place cd_check_place ct_check_place, are_numbers := are_numbers, are_numbers_d := PySem.W.fnOf "are_numbers" "are_numbers" (defArgs s_are_numbers) (defBody s_are_numbers) (defScope s_are_numbers) .none kV_are_numbers dc_are_numbers pm_are_numbers an_are_numbers cd_are_numbers ct_are_numbers, two_shifts := two_shifts, two_shifts_d := PySem.W.fnOf "two_shifts" "two_shifts" (defArgs s_two_shifts) (defBody s_two_shifts) (defScope s_two_shifts) .none kV_two_shifts dc_two_shifts pm_two_shifts an_two_shifts cd_two_shifts ct_two_shifts, with_shift := with_shift, with_shift_d := PySem.W.fnOf "with_shift" "with_shift" (defArgs s_with_shift) (defBody s_with_shift) (defScope s_with_shift) .none kV_with_shift dc_with_shift pm_with_shift an_with_shift cd_with_shift ct_with_shift, spanned := spanned, spanned_d := PySem.W.fnOf "spanned" "spanned" (defArgs s_spanned) (defBody s_spanned) (defScope s_spanned) .none kV_spanned dc_spanned pm_spanned an_spanned cd_spanned ct_spanned, Net_init := Net_init, Net_init_d := PySem.W.fnOf "__init__" "Net.__init__" (defArgs s_Net_init) (defBody s_Net_init) (defScope s_Net_init) .none kV_Net_init dc_Net_init pm_Net_init an_Net_init cd_Net_init ct_Net_init, Net_of := Net_of, Net_of_d := PySem.W.fnOf "of" "Net.of" (defArgs s_Net_of) (defBody s_Net_of) (defScope s_Net_of) .none kV_Net_of dc_Net_of pm_Net_of an_Net_of cd_Net_of ct_Net_of, p_Net_of := p_Net_of, Net_whole := Net_whole, Net_whole_d := PySem.W.fnOf "whole" "Net.whole" (defArgs s_Net_whole) (defBody s_Net_whole) (defScope s_Net_whole) .none kV_Net_whole dc_Net_whole pm_Net_whole an_Net_whole cd_Net_whole ct_Net_whole, p_Net_whole := p_Net_whole, Net_numbers := Net_numbers, Net_numbers_d := PySem.W.fnOf "numbers" "Net.numbers" (defArgs s_Net_numbers) (defBody s_Net_numbers) (defScope s_Net_numbers) .none kV_Net_numbers dc_Net_numbers pm_Net_numbers an_Net_numbers cd_Net_numbers ct_Net_numbers, p_Net_numbers := p_Net_numbers, Net_size := Net_size, Net_size_d := PySem.W.fnOf "size" "Net.size" (defArgs s_Net_size) (defBody s_Net_size) (defScope s_Net_size) .none kV_Net_size dc_Net_size pm_Net_size an_Net_size cd_Net_size ct_Net_size, p_Net_size := p_Net_size, Net_contains := Net_contains, Net_contains_d := PySem.W.fnOf "__contains__" "Net.__contains__" (defArgs s_Net_contains) (defBody s_Net_contains) (defScope s_Net_contains) .none kV_Net_contains dc_Net_contains pm_Net_contains an_Net_contains cd_Net_contains ct_Net_contains, home := home, home_d := PySem.W.fnOf "home" "home" (defArgs s_home) (defBody s_home) (defScope s_home) .none kV_home dc_home pm_home an_home cd_home ct_home, Net_reduced := Net_reduced, Net_reduced_d := PySem.W.fnOf "reduced" "Net.reduced" (defArgs s_Net_reduced) (defBody s_Net_reduced) (defScope s_Net_reduced) .none kV_Net_reduced dc_Net_reduced pm_Net_reduced an_Net_reduced cd_Net_reduced ct_Net_reduced, Net_eq := Net_eq, Net_eq_d := PySem.W.fnOf "__eq__" "Net.__eq__" (defArgs s_Net_eq) (defBody s_Net_eq) (defScope s_Net_eq) .none kV_Net_eq dc_Net_eq pm_Net_eq an_Net_eq cd_Net_eq ct_Net_eq, law_tape := law_tape, law_tape_d := PySem.W.fnOf "_law_tape" "_law_tape" (defArgs s_law_tape) (defBody s_law_tape) (defScope s_law_tape) .none kV_law_tape dc_law_tape pm_law_tape an_law_tape cd_law_tape ct_law_tape, law_draw := law_draw, law_draw_d := PySem.W.fnOf "_law_draw" "_law_draw" (defArgs s_law_draw) (defBody s_law_draw) (defScope s_law_draw) .none kV_law_draw dc_law_draw pm_law_draw an_law_draw cd_law_draw ct_law_draw, law_great := law_great, law_great_d := PySem.W.fnOf "_law_great" "_law_great" (defArgs s_law_great) (defBody s_law_great) (defScope s_law_great) .none kV_law_great dc_law_great pm_law_great an_law_great cd_law_great ct_law_great, law_place := law_place, law_place_d := PySem.W.fnOf "_law_place" "_law_place" (defArgs s_law_place) (defBody s_law_place) (defScope s_law_place) .none kV_law_place dc_law_place pm_law_place an_law_place cd_law_place ct_law_place, law_net := law_net, law_net_d := PySem.W.fnOf "_law_net" "_law_net" (defArgs s_law_net) (defBody s_law_net) (defScope s_law_net) .none kV_law_net dc_law_net pm_law_net an_law_net cd_law_net ct_law_net, law_divisor := law_divisor, law_divisor_d := PySem.W.fnOf "_law_divisor" "_law_divisor" (defArgs s_law_divisor) (defBody s_law_divisor) (defScope s_law_divisor) .none kV_law_divisor dc_law_divisor pm_law_divisor an_law_divisor cd_law_divisor ct_law_divisor, law_net_of := law_net_of, law_net_of_d := PySem.W.fnOf "_law_net_of" "_law_net_of" (defArgs s_law_net_of) (defBody s_law_net_of) (defScope s_law_net_of) .none kV_law_net_of dc_law_net_of pm_law_net_of an_law_net_of cd_law_net_of ct_law_net_of, law_shifts := law_shifts, law_shifts_d := PySem.W.fnOf "_law_shifts" "_law_shifts" (defArgs s_law_shifts) (defBody s_law_shifts) (defScope s_law_shifts) .none kV_law_shifts dc_law_shifts pm_law_shifts an_law_shifts cd_law_shifts ct_law_shifts, law_of := law_of, law_of_d := PySem.W.fnOf "_law_of" "_law_of" (defArgs s_law_of) (defBody s_law_of) (defScope s_law_of) .none kV_law_of dc_law_of pm_law_of an_law_of cd_law_of ct_law_of, law := fa, law_d := PySem.W.fnOf "law" "law" (defArgs s_law) (defBody s_law) (defScope s_law) .none kV_law dc_law pm_law an_law cd_law ct_law }, rfl, fun s v => .of_eq rfl, ?_⟩
  exact {
    g_Net := PySem.W.mg_of X G a_Net,
    cl_Net := ⟨pg_Net, hd_Net, po_Net, sa_Net⟩,
    k_Net := ⟨mk_Net, a_Net_init, i_Net_init, kc_Net⟩,
    g_is_integer := PySem.W.mg_of X G a_is_integer,
    F_is_integer := fun_mk (st := s_is_integer) l_is_integer c_is_integer k_is_integer,
    b_is_integer := (fun_mk (st := s_is_integer) l_is_integer c_is_integer k_is_integer).binds (ps := P_is_integer) fun _ _ _ _ _ _ us hl => match us, hl with | [_], _ => rfl,
    g_is_place := PySem.W.mg_of X G a_is_place,
    F_is_place := fun_mk (st := s_is_place) l_is_place c_is_place k_is_place,
    b_is_place := (fun_mk (st := s_is_place) l_is_place c_is_place k_is_place).binds (ps := P_is_place) fun _ _ _ _ _ _ us hl => match us, hl with | [_], _ => rfl,
    g_check_place := PySem.W.mg_of X G a_check_place,
    F_check_place := fun_mk (st := s_check_place) l_check_place c_check_place k_check_place,
    b_check_place := (fun_mk (st := s_check_place) l_check_place c_check_place k_check_place).binds (ps := P_check_place) fun _ _ _ _ _ _ us hl => match us, hl with | [_], _ => rfl,
    g_are_numbers := PySem.W.mg_of X G a_are_numbers,
    F_are_numbers := fun_mk (st := s_are_numbers) l_are_numbers c_are_numbers k_are_numbers,
    b_are_numbers := (fun_mk (st := s_are_numbers) l_are_numbers c_are_numbers k_are_numbers).binds (ps := P_are_numbers) fun _ _ _ _ _ _ us hl => match us, hl with | [_, _, _], _ => rfl,
    g_two_shifts := PySem.W.mg_of X G a_two_shifts,
    F_two_shifts := fun_mk (st := s_two_shifts) l_two_shifts c_two_shifts k_two_shifts,
    b_two_shifts := (fun_mk (st := s_two_shifts) l_two_shifts c_two_shifts k_two_shifts).binds (ps := P_two_shifts) fun _ _ _ _ _ _ us hl => match us, hl with | [_], _ => rfl,
    g_with_shift := PySem.W.mg_of X G a_with_shift,
    F_with_shift := fun_mk (st := s_with_shift) l_with_shift c_with_shift k_with_shift,
    b_with_shift := (fun_mk (st := s_with_shift) l_with_shift c_with_shift k_with_shift).binds (ps := P_with_shift) fun _ _ _ _ _ _ us hl => match us, hl with | [_, _], _ => rfl,
    g_spanned := PySem.W.mg_of X G a_spanned,
    F_spanned := fun_mk (st := s_spanned) l_spanned c_spanned k_spanned,
    b_spanned := (fun_mk (st := s_spanned) l_spanned c_spanned k_spanned).binds (ps := P_spanned) fun _ _ _ _ _ _ us hl => match us, hl with | [_], _ => rfl,
    F_Net_init := fun_mk (st := s_Net_init) l_Net_init c_Net_init k_Net_init,
    b_Net_init := (fun_mk (st := s_Net_init) l_Net_init c_Net_init k_Net_init).binds (ps := P_Net_init) fun _ _ _ _ _ _ us hl => match us, hl with | [_, _, _, _], _ => rfl,
    sm_Net_of := ⟨⟨rd_Net_of, ga_Net_of⟩, a_Net_of, ⟨_, rc_Net_of⟩, k_Net_of⟩,
    F_Net_of := fun_mk (st := s_Net_of) l_Net_of c_Net_of k_Net_of,
    bs_Net_of := fun rest => by cases rest <;> rfl,
    cm_Net_whole := ⟨a_Net_whole, ⟨_, rc_Net_whole⟩, fi_Net_whole⟩,
    cr_Net_whole := ⟨rd_Net_whole, ga_Net_whole⟩,
    F_Net_whole := fun_mk (st := s_Net_whole) l_Net_whole c_Net_whole k_Net_whole,
    b_Net_whole := (fun_mk (st := s_Net_whole) l_Net_whole c_Net_whole k_Net_whole).binds (ps := P_Net_whole) fun _ _ _ _ _ _ us hl => match us, hl with | [_], _ => rfl,
    p_Net_numbers := ⟨a_Net_numbers, g1_Net_numbers, g2_Net_numbers, _, g3_Net_numbers⟩,
    F_Net_numbers := fun_mk (st := s_Net_numbers) l_Net_numbers c_Net_numbers k_Net_numbers,
    b_Net_numbers := (fun_mk (st := s_Net_numbers) l_Net_numbers c_Net_numbers k_Net_numbers).binds (ps := P_Net_numbers) fun _ _ _ _ _ _ us hl => match us, hl with | [_], _ => rfl,
    p_Net_size := ⟨a_Net_size, g1_Net_size, g2_Net_size, _, g3_Net_size⟩,
    F_Net_size := fun_mk (st := s_Net_size) l_Net_size c_Net_size k_Net_size,
    b_Net_size := (fun_mk (st := s_Net_size) l_Net_size c_Net_size k_Net_size).binds (ps := P_Net_size) fun _ _ _ _ _ _ us hl => match us, hl with | [_], _ => rfl,
    h_Net := ⟨a_Net_contains, i_Net_contains⟩,
    F_Net_contains := fun_mk (st := s_Net_contains) l_Net_contains c_Net_contains k_Net_contains,
    b_Net_contains := (fun_mk (st := s_Net_contains) l_Net_contains c_Net_contains k_Net_contains).binds (ps := P_Net_contains) fun _ _ _ _ _ _ us hl => match us, hl with | [_, _], _ => rfl,
    g_home := PySem.W.mg_of X G a_home,
    F_home := fun_mk (st := s_home) l_home c_home k_home,
    b_home := (fun_mk (st := s_home) l_home c_home k_home).binds (ps := P_home) fun _ _ _ _ _ _ us hl => match us, hl with | [_, _], _ => rfl,
    m_Net_reduced := ⟨a_Net_reduced, i_Net_reduced, k_Net_reduced⟩,
    F_Net_reduced := fun_mk (st := s_Net_reduced) l_Net_reduced c_Net_reduced k_Net_reduced,
    b_Net_reduced := (fun_mk (st := s_Net_reduced) l_Net_reduced c_Net_reduced k_Net_reduced).binds (ps := P_Net_reduced) fun _ _ _ _ _ _ us hl => match us, hl with | [_, _], _ => rfl,
    e_Net := ⟨a_Net_eq, i_Net_eq, ne_Net, ob_Net⟩,
    F_Net_eq := fun_mk (st := s_Net_eq) l_Net_eq c_Net_eq k_Net_eq,
    b_Net_eq := (fun_mk (st := s_Net_eq) l_Net_eq c_Net_eq k_Net_eq).binds (ps := P_Net_eq) fun _ _ _ _ _ _ us hl => match us, hl with | [_, _], _ => rfl,
    g_law_tape := PySem.W.mg_of X G a_law_tape,
    F_law_tape := fun_mk (st := s_law_tape) l_law_tape c_law_tape k_law_tape,
    b_law_tape := (fun_mk (st := s_law_tape) l_law_tape c_law_tape k_law_tape).binds (ps := P_law_tape) fun _ _ _ _ _ _ us hl => match us, hl with | [_], _ => rfl,
    g_law_draw := PySem.W.mg_of X G a_law_draw,
    F_law_draw := fun_mk (st := s_law_draw) l_law_draw c_law_draw k_law_draw,
    b_law_draw := (fun_mk (st := s_law_draw) l_law_draw c_law_draw k_law_draw).binds (ps := P_law_draw) fun _ _ _ _ _ _ us hl => match us, hl with | [_, _], _ => rfl,
    g_law_great := PySem.W.mg_of X G a_law_great,
    F_law_great := fun_mk (st := s_law_great) l_law_great c_law_great k_law_great,
    b_law_great := (fun_mk (st := s_law_great) l_law_great c_law_great k_law_great).binds (ps := P_law_great) fun _ _ _ _ _ _ us hl => match us, hl with | [_, _], _ => rfl,
    g_law_place := PySem.W.mg_of X G a_law_place,
    F_law_place := fun_mk (st := s_law_place) l_law_place c_law_place k_law_place,
    b_law_place := (fun_mk (st := s_law_place) l_law_place c_law_place k_law_place).binds (ps := P_law_place) fun _ _ _ _ _ _ us hl => match us, hl with | [_], _ => rfl,
    g_law_net := PySem.W.mg_of X G a_law_net,
    F_law_net := fun_mk (st := s_law_net) l_law_net c_law_net k_law_net,
    b_law_net := (fun_mk (st := s_law_net) l_law_net c_law_net k_law_net).binds (ps := P_law_net) fun _ _ _ _ _ _ us hl => match us, hl with | [_, _], _ => rfl,
    g_law_divisor := PySem.W.mg_of X G a_law_divisor,
    F_law_divisor := fun_mk (st := s_law_divisor) l_law_divisor c_law_divisor k_law_divisor,
    b_law_divisor := (fun_mk (st := s_law_divisor) l_law_divisor c_law_divisor k_law_divisor).binds (ps := P_law_divisor) fun _ _ _ _ _ _ us hl => match us, hl with | [_, _], _ => rfl,
    g_law_net_of := PySem.W.mg_of X G a_law_net_of,
    F_law_net_of := fun_mk (st := s_law_net_of) l_law_net_of c_law_net_of k_law_net_of,
    b_law_net_of := (fun_mk (st := s_law_net_of) l_law_net_of c_law_net_of k_law_net_of).binds (ps := P_law_net_of) fun _ _ _ _ _ _ us hl => match us, hl with | [_], _ => rfl,
    g_law_shifts := PySem.W.mg_of X G a_law_shifts,
    F_law_shifts := fun_mk (st := s_law_shifts) l_law_shifts c_law_shifts k_law_shifts,
    b_law_shifts := (fun_mk (st := s_law_shifts) l_law_shifts c_law_shifts k_law_shifts).binds (ps := P_law_shifts) fun _ _ _ _ _ _ us hl => match us, hl with | [_], _ => rfl,
    g_law_of := PySem.W.mg_of X G a_law_of,
    F_law_of := fun_mk (st := s_law_of) l_law_of c_law_of k_law_of,
    b_law_of := (fun_mk (st := s_law_of) l_law_of c_law_of k_law_of).binds (ps := P_law_of) fun _ _ _ _ _ _ us hl => match us, hl with | [_], _ => rfl,
    g_law := PySem.W.mg_of X G a_law,
    F_law := fun_mk (st := s_law) l_law c_law k_law,
    b_law := (fun_mk (st := s_law) l_law c_law k_law).binds (ps := P_law) fun _ _ _ _ _ _ us hl => match us, hl with | [_], _ => rfl,
    z_abs := PySem.W.mg_none_of X G z_abs,
    z_bool := PySem.W.mg_none_of X G z_bool,
    z_int := PySem.W.mg_none_of X G z_int,
    z_isinstance := PySem.W.mg_none_of X G z_isinstance,
    z_len := PySem.W.mg_none_of X G z_len,
    z_list := PySem.W.mg_none_of X G z_list,
    z_range := PySem.W.mg_none_of X G z_range,
    z_repr := PySem.W.mg_none_of X G z_repr,
    z_tuple := PySem.W.mg_none_of X G z_tuple,
    g_gcd := PySem.W.mg_of X G v_gcd,
    n_Net_numbers := nn_Net,
    i_Net := ⟨ic1, ic2, ic3, ic4⟩ }
end Law
open PySem PySem.W PyProof.Rows
local macro_rules | `(tactic| walk_at "mv_vals") => `(tactic| repeat first | exact Paired.nil | refine Paired.cons ?_ ?_ | exact rfl | exact ⟨_, rfl⟩)
local macro_rules | `(tactic| walk_at "mv_kt") => `(tactic| (refine' MV.kt_mk ?h ?z ?v; (case h => k_is); (case z => decide +kernel); (case v => walk_at "mv_vals")))
local macro_rules | `(tactic| walk_at "mv_lit") => `(tactic| repeat first | exact True.intro | refine ⟨⟨_, _, rfl, rfl⟩, ?_⟩)
local macro_rules | `(tactic| walk_at "mv_kd") => `(tactic| (refine' MV.kd_mk ?h ?l ?n ?v; (case h => k_is); (case n => k_is); (case l => walk_at "mv_lit"); (case v => first | exact rfl | exact ⟨_, rfl⟩)))
local macro_rules | `(tactic| walk_at "mv_kk") => `(tactic| (refine' MV.kk_mk ?h ?n ?v; (case h => k_is); (case n => decide +kernel); (case v => walk_at "mv_vals")))
local macro_rules | `(tactic| walk_at "mv_bind") => `(tactic| (refine ⟨?k, ?h, ?g⟩; (case h => (unfold bindArgs; dsimp only; rw [List.forIn_nil, pure_bind])); (case g => exact rfl)))
set_option maxHeartbeats 0 in
theorem PySem.Challenge.cw_carpets_k03_nets_of_shifts_holds : PySem.Challenge.rw_carpets_k03_nets_of_shifts.Holds := by
  w_on; o_law; k_head; (case hw => w_witness2)
  k_fill
  refine MV.walkG (l := PySem.Challenge.rw_carpets_k03_nets_of_shifts) (n := 63) (k := 7) (x := "_law_script") (CX := L2.CX0) (sp := Law.sp_law) rfl (by decide) rfl ⟨rfl, by decide, by decide⟩ (fun w h Y => PySem.W.kIn_of Y) ?F (fun K H a ns hl hS => Law.sp_start K H a ns hl hS) (fun _ _ _ _ h => h)
  case F =>
    intro w mg fa h KX G hmg
    refine' MV.byTxt (Law.all_mk KX G hmg ?a_Net ?pg_Net ?hd_Net ?po_Net ?sa_Net ?mk_Net ?kc_Net ?a_is_integer ?l_is_integer ?c_is_integer ?k_is_integer ?a_is_place ?l_is_place ?c_is_place ?k_is_place ?a_check_place ?l_check_place ?c_check_place ?k_check_place ?a_are_numbers ?l_are_numbers ?c_are_numbers ?k_are_numbers ?a_two_shifts ?l_two_shifts ?c_two_shifts ?k_two_shifts ?a_with_shift ?l_with_shift ?c_with_shift ?k_with_shift ?a_spanned ?l_spanned ?c_spanned ?k_spanned ?a_Net_init ?i_Net_init ?l_Net_init ?c_Net_init ?k_Net_init ?a_Net_of ?rc_Net_of ?rd_Net_of ?ga_Net_of ?l_Net_of ?c_Net_of ?k_Net_of ?a_Net_whole ?rc_Net_whole ?fi_Net_whole ?rd_Net_whole ?ga_Net_whole ?l_Net_whole ?c_Net_whole ?k_Net_whole ?a_Net_numbers ?g1_Net_numbers ?g2_Net_numbers ?g3_Net_numbers ?l_Net_numbers ?c_Net_numbers ?k_Net_numbers ?a_Net_size ?g1_Net_size ?g2_Net_size ?g3_Net_size ?l_Net_size ?c_Net_size ?k_Net_size ?a_Net_contains ?i_Net_contains ?l_Net_contains ?c_Net_contains ?k_Net_contains ?a_home ?l_home ?c_home ?k_home ?a_Net_reduced ?i_Net_reduced ?l_Net_reduced ?c_Net_reduced ?k_Net_reduced ?a_Net_eq ?i_Net_eq ?ne_Net ?ob_Net ?l_Net_eq ?c_Net_eq ?k_Net_eq ?a_law_tape ?l_law_tape ?c_law_tape ?k_law_tape ?a_law_draw ?l_law_draw ?c_law_draw ?k_law_draw ?a_law_great ?l_law_great ?c_law_great ?k_law_great ?a_law_place ?l_law_place ?c_law_place ?k_law_place ?a_law_net ?l_law_net ?c_law_net ?k_law_net ?a_law_divisor ?l_law_divisor ?c_law_divisor ?k_law_divisor ?a_law_net_of ?l_law_net_of ?c_law_net_of ?k_law_net_of ?a_law_shifts ?l_law_shifts ?c_law_shifts ?k_law_shifts ?a_law_of ?l_law_of ?c_law_of ?k_law_of ?a_law ?l_law ?c_law ?k_law ?z_abs ?z_bool ?z_int ?z_isinstance ?z_len ?z_list ?z_range ?z_repr ?z_tuple ?v_gcd ?nn_Net ?ic1 ?ic2 ?ic3 ?ic4) (fun a z => ?go)
    (case go =>
      obtain ⟨e, b, T⟩ := z
      subst e
      exact ⟨_, b, fun base _ _ => Law.ok_law T⟩)
    (case a_Net => first | k_is | rfl)
    (case pg_Net => first | k_is | rfl)
    (case hd_Net => first | k_is | rfl)
    (case po_Net => first | k_is | rfl)
    (case sa_Net => first | k_is | rfl)
    (case mk_Net => first | k_is | rfl)
    (case kc_Net => first | k_is | rfl)
    (case a_is_integer => first | k_is | rfl)
    (case l_is_integer => first | k_is | rfl)
    (case c_is_integer => first | k_is | rfl)
    (case k_is_integer => first | k_is | rfl)
    (case a_is_place => first | k_is | rfl)
    (case l_is_place => first | k_is | rfl)
    (case c_is_place => first | k_is | rfl)
    (case k_is_place => first | k_is | rfl)
    (case a_check_place => first | k_is | rfl)
    (case l_check_place => first | k_is | rfl)
    (case c_check_place => first | k_is | rfl)
    (case k_check_place => first | k_is | rfl)
    (case a_are_numbers => first | k_is | rfl)
    (case l_are_numbers => first | k_is | rfl)
    (case c_are_numbers => first | k_is | rfl)
    (case k_are_numbers => first | k_is | rfl)
    (case a_two_shifts => first | k_is | rfl)
    (case l_two_shifts => first | k_is | rfl)
    (case c_two_shifts => first | k_is | rfl)
    (case k_two_shifts => first | k_is | rfl)
    (case a_with_shift => first | k_is | rfl)
    (case l_with_shift => first | k_is | rfl)
    (case c_with_shift => first | k_is | rfl)
    (case k_with_shift => first | k_is | rfl)
    (case a_spanned => first | k_is | rfl)
    (case l_spanned => first | k_is | rfl)
    (case c_spanned => first | k_is | rfl)
    (case k_spanned => first | k_is | rfl)
    (case a_Net_init => first | k_is | rfl)
    (case i_Net_init => first | k_is | rfl)
    (case l_Net_init => first | k_is | rfl)
    (case c_Net_init => first | k_is | rfl)
    (case k_Net_init => first | k_is | rfl)
    (case a_Net_of => first | k_is | rfl)
    (case rc_Net_of => first | k_is | rfl)
    (case rd_Net_of => first | k_is | rfl)
    (case ga_Net_of => first | k_is | rfl)
    (case l_Net_of => first | k_is | rfl)
    (case c_Net_of => first | k_is | rfl)
    (case k_Net_of => first | k_is | rfl)
    (case a_Net_whole => first | k_is | rfl)
    (case rc_Net_whole => first | k_is | rfl)
    (case fi_Net_whole => first | k_is | rfl)
    (case rd_Net_whole => first | k_is | rfl)
    (case ga_Net_whole => first | k_is | rfl)
    (case l_Net_whole => first | k_is | rfl)
    (case c_Net_whole => first | k_is | rfl)
    (case k_Net_whole => first | k_is | rfl)
    (case a_Net_numbers => first | k_is | rfl)
    (case g1_Net_numbers => first | k_is | rfl)
    (case g2_Net_numbers => first | k_is | rfl)
    (case g3_Net_numbers => first | k_is | rfl)
    (case l_Net_numbers => first | k_is | rfl)
    (case c_Net_numbers => first | k_is | rfl)
    (case k_Net_numbers => first | k_is | rfl)
    (case a_Net_size => first | k_is | rfl)
    (case g1_Net_size => first | k_is | rfl)
    (case g2_Net_size => first | k_is | rfl)
    (case g3_Net_size => first | k_is | rfl)
    (case l_Net_size => first | k_is | rfl)
    (case c_Net_size => first | k_is | rfl)
    (case k_Net_size => first | k_is | rfl)
    (case a_Net_contains => first | k_is | rfl)
    (case i_Net_contains => first | k_is | rfl)
    (case l_Net_contains => first | k_is | rfl)
    (case c_Net_contains => first | k_is | rfl)
    (case k_Net_contains => first | k_is | rfl)
    (case a_home => first | k_is | rfl)
    (case l_home => first | k_is | rfl)
    (case c_home => first | k_is | rfl)
    (case k_home => first | k_is | rfl)
    (case a_Net_reduced => first | k_is | rfl)
    (case i_Net_reduced => first | k_is | rfl)
    (case l_Net_reduced => first | k_is | rfl)
    (case c_Net_reduced => first | k_is | rfl)
    (case k_Net_reduced => first | k_is | rfl)
    (case a_Net_eq => first | k_is | rfl)
    (case i_Net_eq => first | k_is | rfl)
    (case ne_Net => first | k_is | rfl)
    (case ob_Net => first | k_is | rfl)
    (case l_Net_eq => first | k_is | rfl)
    (case c_Net_eq => first | k_is | rfl)
    (case k_Net_eq => first | k_is | rfl)
    (case a_law_tape => first | k_is | rfl)
    (case l_law_tape => first | k_is | rfl)
    (case c_law_tape => first | k_is | rfl)
    (case k_law_tape => first | k_is | rfl)
    (case a_law_draw => first | k_is | rfl)
    (case l_law_draw => first | k_is | rfl)
    (case c_law_draw => first | k_is | rfl)
    (case k_law_draw => first | k_is | rfl)
    (case a_law_great => first | k_is | rfl)
    (case l_law_great => first | k_is | rfl)
    (case c_law_great => first | k_is | rfl)
    (case k_law_great => first | k_is | rfl)
    (case a_law_place => first | k_is | rfl)
    (case l_law_place => first | k_is | rfl)
    (case c_law_place => first | k_is | rfl)
    (case k_law_place => first | k_is | rfl)
    (case a_law_net => first | k_is | rfl)
    (case l_law_net => first | k_is | rfl)
    (case c_law_net => first | k_is | rfl)
    (case k_law_net => first | k_is | rfl)
    (case a_law_divisor => first | k_is | rfl)
    (case l_law_divisor => first | k_is | rfl)
    (case c_law_divisor => first | k_is | rfl)
    (case k_law_divisor => first | k_is | rfl)
    (case a_law_net_of => first | k_is | rfl)
    (case l_law_net_of => first | k_is | rfl)
    (case c_law_net_of => first | k_is | rfl)
    (case k_law_net_of => first | k_is | rfl)
    (case a_law_shifts => first | k_is | rfl)
    (case l_law_shifts => first | k_is | rfl)
    (case c_law_shifts => first | k_is | rfl)
    (case k_law_shifts => first | k_is | rfl)
    (case a_law_of => first | k_is | rfl)
    (case l_law_of => first | k_is | rfl)
    (case c_law_of => first | k_is | rfl)
    (case k_law_of => first | k_is | rfl)
    (case a_law => first | k_is | rfl)
    (case l_law => first | k_is | rfl)
    (case c_law => first | k_is | rfl)
    (case k_law => first | k_is | rfl)
    (case z_abs => first | k_is | rfl)
    (case z_bool => first | k_is | rfl)
    (case z_int => first | k_is | rfl)
    (case z_isinstance => first | k_is | rfl)
    (case z_len => first | k_is | rfl)
    (case z_list => first | k_is | rfl)
    (case z_range => first | k_is | rfl)
    (case z_repr => first | k_is | rfl)
    (case z_tuple => first | k_is | rfl)
    (case v_gcd => first | k_is | rfl)
    (case nn_Net => first | k_is | rfl)
    (case ic1 => first | k_is | rfl)
    (case ic2 => first | k_is | rfl)
    (case ic3 => first | k_is | rfl)
    (case ic4 => first | k_is | rfl)

